import Derived.Test.YtekapipfaahhcaaGreatDoorWScan
import Derived.RangeFuncNested
import Derived.RangeFuncBound
import Derived.RangeFuncCalls
import Derived.RangeFuncLeaves
import Derived.Shelf.Abstract
import Derived.OwnWalkIn
import Derived.TacticsInMore
import Derived.LoopNIn
import Derived.LoopIn
import Derived.Stop.RegionWithIn
namespace Go.Proofs.YtekapipfaahhcaaGreatDoor
open Go.RowKit Go.Shelf
attribute [local go_sem] Oper.semAt_some

def encI (x : Itm) : Array Value := #[.agg (tokC x.1.1 x.2.1 x.1.2.1 x.1.2.2.1 x.1.2.2.2), .int .i64 (x.2.2 : Int)]
/-- What the words' own tables are, and where the text lies. -/
structure Base (b : Nat) (s : ByteArray) (W : World) : Prop where
  cls : Cls W
  err : ErrR W
  mon : Mon W
  sgn : Sgn W
  txt : W.cell? ⟨b, 0, none⟩ = some (.string s)
/-- What is asked of the body of a range over what found gives: the loop's record is block yl. -/
structure TakesW (yl : Nat) (b : Nat) (s : ByteArray) (J Jx : List Itm → World → Prop) : Prop where
  base : ∀ done X, J done X → Base b s X
  later : ∀ done X Y, J done X → Below X.heap.size X Y → J done Y
  call : ∀ done X (x : Itm) (m : Nat), done ++ [x] <+: foundL s.data.toList → J done X → YieldAt Fence.wide m Tryz.prog yl (encI x) X fun e X' => ∃ o : Bool, e = .returned (.bool o) ∧ (o = true → J (done ++ [x]) X') ∧ (o = false → Jx (done ++ [x]) X')

theorem and_130' : ∀ a : Fin 129, bits .and .u8 (a.val : Int) 130 = ((a.val &&& 130 : Nat) : Int) := by decide +kernel
theorem and_130 (l : List UInt8) (i : Nat) : bits .and .u8 (clsAt l i : Int) 130 = ((clsAt l i &&& 130 : Nat) : Int) := by
  have h : clsAt l i < 129 := by
    by_cases h : i < l.length
    · rw [clsAt_in h]
      have := cls_lt l[i].toNat
      omega
    · rw [clsAt_out (by omega)]
      omega
  exact and_130' ⟨_, h⟩

set_option maxRecDepth 8000 in
set_option maxHeartbeats 16000000 in
theorem found1_any (yl b : Nat) (s : ByteArray) (J Jx : List Itm → World → Prop) (hT : TakesW yl b s J Jx) (w : World) (h : J [] w) :
    Calls Tryz.prog 39 #[.func (.yield yl) #[] #[], .pointer (some ⟨b, 0, none⟩)] w fun e w' => e = .returned (.tuple #[]) ∧ (J (foundL s.data.toList) w' ∨ ∃ pre, pre <+: foundL s.data.toList ∧ Jx pre w') := by
  obtain ⟨l, hl⟩ : ∃ l, s.data.toList = l := ⟨_, rfl⟩
  have hls : l.length = s.size := by rw [← hl]; exact size_list s
  obtain ⟨L, hL⟩ : ∃ L, foundL l = L := ⟨_, rfl⟩
  rw [hl, hL]
  unfold foundL at hL
  have c0 := (hT.base _ _ h).txt
  by_cases hlong : 8000 < l.length
  · rw [if_pos hlong] at hL
    have hlong' : (8000 : Int) < (s.size : Int) := by omega
    obtain ⟨fn, tmps, assign, body, hy, hR⟩ := hT.call [] _ ((0, [], 0, 0), 0, 40) 2 (by rw [hl]; unfold foundL; rw [if_pos hlong]; exact List.prefix_refl _) h
    have hy' : (Instr.yield yl #[.agg #[.int .i64 0, .int .i64 0, .string ⟨#[]⟩, .int .i64 0, .int .i64 0], .int .i64 40]).run Tryz.prog w = _ := hy
    refine (callsIn_wide (n := 3)).1 ?_
    refine callsIn_of_wp Tryz.func39 rfl trivial ?_ rfl
    simp only [Tryz.ntmps39, List.size_toArray, List.length_cons, List.length_nil, Nat.reduceAdd, Nat.reduceSub, Array.replicate_succ, Array.replicate_zero, List.push_toArray, List.append_toArray, List.nil_append, List.cons_append]
    clear hy
    gi_wp2_with (first | (with_reducible refine RoundIn.mono hR ?_; clear hR; rintro e w5 ⟨o, rfl, hJ5, hX5⟩))
    refine bodyPost_ret (v := .tuple #[]) (by simp [results, Tryz.results39, go_sem]) rfl ⟨rfl, ?_⟩
    cases o with
    | true => exact .inl (by rw [← hL]; exact hJ5 rfl)
    | false => exact .inr ⟨_, by rw [← hL]; exact List.prefix_refl _, hX5 rfl⟩
  · have hLL : Hid (foundL s.data.toList = L) := by unfold Hid; rw [hl]; unfold foundL; exact hL
    rw [if_neg hlong] at hL
    have hlong' : ¬ (8000 : Int) < (s.size : Int) := by omega
    have hs8 : s.size ≤ 8000 := by omega
    have hbg := fun W hW => begin_any s 0 (by omega) (by omega) W hW
    have hbg2 := fun a ha W hW => begin_any s a ha (by omega) W hW
    rw [hl] at hbg hbg2
    have hnx0 : 0 + skp (l.drop 0) false = nx l 0 := rfl
    rw [hnx0] at hbg
    have hn0 := nx_le (l := l) (a := 0) (by omega)
    generalize nx l 0 = p0 at *
    refine (callsIn_wide (n := 3)).1 ?_
    refine callsIn_of_wp Tryz.func39 rfl trivial ?_ rfl
    simp only [Tryz.ntmps39, List.size_toArray, List.length_cons, List.length_nil, Nat.reduceAdd, Nat.reduceSub, Array.replicate_succ, Array.replicate_zero, List.push_toArray, List.append_toArray, List.nil_append, List.cons_append]
    gi_wp2_with (first | (refine ⟨trivial, ?_⟩; gi_at_call 40; refine (callsIn_wide.2 (hbg _ (hT.base _ _ h).cls)).mono ?_; rintro e w1 ⟨rfl, hb1⟩))
    have hJ1 := hT.later _ _ _ h hb1
    clear h hb1 hbg c0
    gi_loopw [3, 4] (fun bgv atv wr => ∃ (p : Nat) (bg : Bool) (f : Nat) (done : List Itm), p ≤ s.size ∧ bgv = .bool bg ∧ atv = .int .i64 (p : Int) ∧ l.length + 1 ≤ f + p ∧ Hid (done ++ foundP l f p bg = L) ∧ J done wr) (fun _ atv _ => s.size + 1 - (intOf atv).toNat)
    case atStart => exact ⟨p0, false, l.length + 1, [], by omega, rfl, rfl, by omega, by unfold Hid; exact hL, hJ1⟩
    case round =>
      obtain ⟨p, bg, f, done, hp, rfl, rfl, hf, hfl, hJ⟩ := hrel
      clear hL hJ1
      have hB := hT.base _ _ hJ
      have c0 := hB.txt
      obtain ⟨f, rfl⟩ : ∃ f', f = f' + 1 := ⟨f - 1, by omega⟩
      have hca := fun W h => classAt_any s p (clsAt l p : Int) (by rw [hl]) W h
      have hbit := and_130 l p
      unfold Hid foundP at hfl
      by_cases hcl : clsAt l p &&& 130 = 0
      · have hbb : (bits .and .u8 (clsAt l p : Int) 130 == 0) = true := by rw [hbit, hcl]; rfl
        have hwd := word_any s p hp (by omega) wr hB.cls hB.err hB.mon hB.sgn
        rw [hl] at hwd
        rw [if_pos hcl] at hfl
        cases hw : wordS l p with
        | error qn =>
          obtain ⟨q, n⟩ := qn
          rw [hw] at hwd hfl
          dsimp only [resV, tokC] at hwd
          dsimp only at hfl
          have hn := wordS_err hw
          have hn0 : ((n : Int) != 0) = true := by simp; omega
          clear hbit hcl hw
          gi_wp2_with (first | (refine ⟨trivial, ?_⟩; gi_at_call 41; refine (callsIn_wide.2 (hca _ hB.cls)).mono ?_; rintro e w9 ⟨rfl, hw9⟩; subst w9) | (refine ⟨trivial, ?_⟩; gi_at_call 42; refine (callsIn_wide.2 hwd).mono ?_; rintro e w2 ⟨rfl, hb2⟩; have hJ2 := hT.later _ _ _ hJ (hb2.alloc hb2.size (.cells #[.int .i64 0, .int .i64 (q : Int), .string ⟨#[]⟩, .int .i64 0, .int .i64 0] 66)); obtain ⟨fn, tmps, assign, body, hy, hR⟩ := hT.call _ _ ((0, [], 0, 0), q, n) 2 (by rw [hLL.out, ← hfl]; exact List.prefix_refl _) hJ2; have hy' : (Instr.yield yl #[.agg #[.int .i64 0, .int .i64 (q : Int), .string ⟨#[]⟩, .int .i64 0, .int .i64 0], .int .i64 (n : Int)]).run Tryz.prog (w2.alloc (.cells #[.int .i64 0, .int .i64 (q : Int), .string ⟨#[]⟩, .int .i64 0, .int .i64 0] 66)) = _ := hy; clear hy))
          refine hR.mono ?_
          rintro e w5 ⟨o, rfl, hJ5, hX5⟩
          cases o with
          | true =>
            have hJ6 := hJ5 rfl
            clear hR hJ5 hX5 hy'
            gi_wp2
            refine bodyPost_ret (v := .tuple #[]) (by simp [results, Tryz.results39, go_sem]) rfl ⟨rfl, ?_⟩
            exact .inl (by rw [← hfl]; exact hJ6)
          | false =>
            have hX6 := hX5 rfl
            clear hR hJ5 hX5 hy'
            gi_wp2
            refine bodyPost_ret (v := .tuple #[]) (by simp [results, Tryz.results39, go_sem]) rfl ⟨rfl, ?_⟩
            exact .inr ⟨_, by rw [← hfl]; exact List.prefix_refl _, hX6⟩
        | ok we =>
          obtain ⟨wd, e⟩ := we
          rw [hw] at hwd hfl
          dsimp only [resV, tokC] at hwd
          dsimp only at hfl
          have hn := wordS_ok (by omega) hcl hw
          have hnx1 := nx_ge l e
          have hnx2 := nx_le (l := l) (a := e) hn.2
          have hbg3 := fun W hW => hbg2 e (by omega) W hW
          rw [show e + skp (l.drop e) false = nx l e from rfl] at hbg3
          generalize nx l e = p2 at *
          have hfl' : Hid ((done ++ [(wd, p, 0)]) ++ foundP l f p2 true = L) := by unfold Hid; rw [← hfl]; simp
          clear hbit hcl hw hfl hbg2
          gi_wp2_with (first | (refine ⟨trivial, ?_⟩; gi_at_call 41; refine (callsIn_wide.2 (hca _ hB.cls)).mono ?_; rintro e w9 ⟨rfl, hw9⟩; subst w9) | (refine ⟨trivial, ?_⟩; gi_at_call 42; refine (callsIn_wide.2 hwd).mono ?_; rintro e w2 ⟨rfl, hb2⟩; have hJ2 := hT.later _ _ _ hJ (hb2.alloc hb2.size (.cells #[.int .i64 (wd.1 : Int), .int .i64 (p : Int), .string ⟨wd.2.1.toArray⟩, .int .i64 (wd.2.2.1 : Int), .int .i64 (wd.2.2.2 : Int)] 66)); obtain ⟨fn, tmps, assign, body, hy, hR⟩ := hT.call _ _ (wd, p, 0) 2 (by rw [hLL.out, ← hfl'.out]; exact List.prefix_append _ _) hJ2; have hy' : (Instr.yield yl #[.agg #[.int .i64 (wd.1 : Int), .int .i64 (p : Int), .string ⟨wd.2.1.toArray⟩, .int .i64 (wd.2.2.1 : Int), .int .i64 (wd.2.2.2 : Int)], .int .i64 0]).run Tryz.prog (w2.alloc (.cells #[.int .i64 (wd.1 : Int), .int .i64 (p : Int), .string ⟨wd.2.1.toArray⟩, .int .i64 (wd.2.2.1 : Int), .int .i64 (wd.2.2.2 : Int)] 66)) = _ := hy; clear hy))
          refine hR.mono ?_
          rintro x w5 ⟨o, rfl, hJ5, hX5⟩
          cases o with
          | true =>
            have hJ6 := hJ5 rfl
            have hB6 := hT.base _ _ hJ6
            have c6 := hB6.txt
            clear hR hJ5 hX5 hy' hJ2 hb2
            gi_wp2_with (first | (refine ⟨trivial, ?_⟩; gi_at_call 40; refine (callsIn_wide.2 (hbg3 _ hB6.cls)).mono ?_; rintro e w7 ⟨rfl, hb7⟩))
            have hJ7 := hT.later _ _ _ hJ6 hb7
            gi_wp2
            exact ⟨⟨p2, true, f, _, by omega, rfl, rfl, by omega, hfl', hJ7⟩, by simp [intOf]; omega⟩
          | false =>
            have hX6 := hX5 rfl
            clear hR hJ5 hX5 hy'
            gi_wp2
            refine bodyPost_ret (v := .tuple #[]) (by simp [results, Tryz.results39, go_sem]) rfl ⟨rfl, ?_⟩
            exact .inr ⟨_, by rw [← hfl'.out]; exact List.prefix_append _ _, hX6⟩
      · have hbb : (bits .and .u8 (clsAt l p : Int) 130 == 0) = false := by
          rw [hbit]
          generalize clsAt l p &&& 130 = m at *
          simp
          omega
        rw [if_neg hcl] at hfl
        clear hbit hcl
        by_cases hend : p = l.length
        · rw [if_pos hend, List.append_nil] at hfl
          have hend' : ((p : Int) == (s.size : Int)) = true := by simp; omega
          have hfl : Hid _ := hfl
          clear hend
          cases bg with
          | false =>
            have hfl' : Hid (done = L) := by unfold Hid; rw [← hfl.out]; simp
            clear hfl
            gi_wp2_with (first | (refine ⟨trivial, ?_⟩; gi_at_call 41; refine (callsIn_wide.2 (hca _ hB.cls)).mono ?_; rintro e w9 ⟨rfl, hw9⟩; subst w9) | (refine ⟨fun _ hf => (by cases hf), ?_⟩; go_at_K))
            refine bodyPost_ret (v := .tuple #[]) (by simp [results, Tryz.results39, go_sem]) rfl ⟨rfl, ?_⟩
            exact .inl (by rw [← hfl'.out]; exact hJ)
          | true =>
            have hfl' : Hid (done ++ [((8, [], 0, 0), p, 0)] = L) := by unfold Hid; rw [← hfl.out]; simp
            clear hfl
            obtain ⟨fn, tmps, assign, body, hy, hR⟩ := hT.call _ _ ((8, [], 0, 0), p, 0) 2 (by rw [hLL.out, ← hfl'.out]; exact List.prefix_refl _) hJ
            have hy' : (Instr.yield yl #[.agg #[.int .i64 8, .int .i64 (p : Int), .string ⟨#[]⟩, .int .i64 0, .int .i64 0], .int .i64 0]).run Tryz.prog wr = _ := hy
            clear hy
            gi_wp2_with (first | (refine ⟨trivial, ?_⟩; gi_at_call 41; refine (callsIn_wide.2 (hca _ hB.cls)).mono ?_; rintro e w9 ⟨rfl, hw9⟩; subst w9))
            refine hR.mono ?_
            rintro x w5 ⟨o, rfl, hJ5, hX5⟩
            cases o with
            | true =>
              have hJ6 := hJ5 rfl
              have hB6 := hT.base _ _ hJ6
              have c6 := hB6.txt
              clear hR hJ5 hX5 hy'
              gi_wp2
              refine bodyPost_ret (v := .tuple #[]) (by simp [results, Tryz.results39, go_sem]) rfl ⟨rfl, ?_⟩
              exact .inl (by rw [← hfl'.out]; exact hJ6)
            | false =>
              have hX6 := hX5 rfl
              clear hR hJ5 hX5 hy'
              gi_wp2
              refine bodyPost_ret (v := .tuple #[]) (by simp [results, Tryz.results39, go_sem]) rfl ⟨rfl, ?_⟩
              exact .inr ⟨_, by rw [← hfl'.out]; exact List.prefix_refl _, hX6⟩
        · rw [if_neg hend] at hfl
          have hend' : ((p : Int) == (s.size : Int)) = false := by simp; omega
          have hnx1 := nx_ge l (p + 1)
          have hnx2 := nx_le (l := l) (a := p + 1) (by omega)
          have hbg3 := fun W hW => hbg2 (p + 1) (by omega) W hW
          rw [show p + 1 + skp (l.drop (p + 1)) false = nx l (p + 1) from rfl, show ((p + 1 : Nat) : Int) = (p : Int) + 1 from by omega] at hbg3
          generalize nx l (p + 1) = p2 at *
          clear hbg2 hend
          cases bg with
          | false =>
            simp only [Bool.false_eq_true, if_false, List.nil_append] at hfl
            have hB6 := hB
            have hfl' : Hid (done ++ foundP l f p2 false = L) := hfl
            clear hfl
            gi_wp2_with (first | (refine ⟨trivial, ?_⟩; gi_at_call 41; refine (callsIn_wide.2 (hca _ hB.cls)).mono ?_; rintro e w9 ⟨rfl, hw9⟩; subst w9) | (refine ⟨trivial, ?_⟩; gi_at_call 40; refine (callsIn_wide.2 (hbg3 _ hB6.cls)).mono ?_; rintro e w7 ⟨rfl, hb7⟩) | (refine ⟨fun _ hf => (by cases hf), ?_⟩; go_at_K))
            have hJ7 := hT.later _ _ _ hJ hb7
            gi_wp2
            exact ⟨⟨p2, false, f, _, by omega, rfl, rfl, by omega, hfl', hJ7⟩, by simp [intOf]; omega⟩
          | true =>
            simp only [if_true] at hfl
            have hfl' : Hid ((done ++ [((8, [], 0, 0), p, 0)]) ++ foundP l f p2 false = L) := by unfold Hid; rw [← hfl]; simp
            clear hfl
            obtain ⟨fn, tmps, assign, body, hy, hR⟩ := hT.call _ _ ((8, [], 0, 0), p, 0) 2 (by rw [hLL.out, ← hfl'.out]; exact List.prefix_append _ _) hJ
            have hy' : (Instr.yield yl #[.agg #[.int .i64 8, .int .i64 (p : Int), .string ⟨#[]⟩, .int .i64 0, .int .i64 0], .int .i64 0]).run Tryz.prog wr = _ := hy
            clear hy
            gi_wp2_with (first | (refine ⟨trivial, ?_⟩; gi_at_call 41; refine (callsIn_wide.2 (hca _ hB.cls)).mono ?_; rintro e w9 ⟨rfl, hw9⟩; subst w9))
            refine hR.mono ?_
            rintro x w5 ⟨o, rfl, hJ5, hX5⟩
            cases o with
            | true =>
              have hJ6 := hJ5 rfl
              have hB6 := hT.base _ _ hJ6
              have c6 := hB6.txt
              clear hR hJ5 hX5 hy'
              gi_wp2_with (first | (refine ⟨trivial, ?_⟩; gi_at_call 40; refine (callsIn_wide.2 (hbg3 _ hB6.cls)).mono ?_; rintro e w7 ⟨rfl, hb7⟩))
              have hJ7 := hT.later _ _ _ hJ6 hb7
              gi_wp2
              exact ⟨⟨p2, false, f, _, by omega, rfl, rfl, by omega, hfl', hJ7⟩, by simp [intOf]; omega⟩
            | false =>
              have hX6 := hX5 rfl
              clear hR hJ5 hX5 hy'
              gi_wp2
              refine bodyPost_ret (v := .tuple #[]) (by simp [results, Tryz.results39, go_sem]) rfl ⟨rfl, ?_⟩
              exact .inr ⟨_, by rw [← hfl'.out]; exact List.prefix_append _ _, hX6⟩

end Go.Proofs.YtekapipfaahhcaaGreatDoor
