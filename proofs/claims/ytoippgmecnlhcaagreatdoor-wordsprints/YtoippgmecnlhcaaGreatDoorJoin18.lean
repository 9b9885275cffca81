import Derived.Test.YtoippgmecnlhcaaGreatDoorJoin17
import Derived.RangeFuncNested
import Derived.RangeFuncBound
import Derived.RangeFuncCalls
import Derived.RangeFuncLeaves
import Derived.Shelf.Abstract
import Derived.OwnWalkIn
import Derived.TacticsInMore
import Derived.LoopNIn
import Derived.LoopIn
import Derived.Stop.RegionWithIn
import Derived.RangeFuncWrites
namespace Go.Proofs.YtoippgmecnlhcaaGreatDoor
open Go.RowKit Go.Shelf
attribute [local go_sem] Oper.semAt_some

def encI (x : Itm) : Array Value := #[.agg (tokC x.1.1 x.2.1 x.1.2.1 x.1.2.2.1 x.1.2.2.2), .int .i64 (x.2.2 : Int)]
/-- What the words' own tables are, and where the text lies. -/
structure Base (b : Nat) (s : ByteArray) (W : World) : Prop where
  cls : Cls W
  err : ErrR W
  mon : Mon W
  sgn : Sgn W
  txt : W.cell? ⟨b, 0, none⟩ = some (.string s)
/-- What is asked of the body of a range over what found gives: the loop's record is block yl. -/
structure TakesW (yl : Nat) (b : Nat) (s : ByteArray) (J Jx : List Itm → World → Prop) : Prop where
  base : ∀ done X, J done X → Base b s X
  later : ∀ done X Y, J done X → Below X.heap.size X Y → J done Y
  call : ∀ done X (x : Itm) (m : Nat), done ++ [x] <+: foundL s.data.toList → J done X → YieldAt Fence.wide m Tryz.prog yl (encI x) X fun e X' => ∃ o : Bool, e = .returned (.bool o) ∧ (o = true → J (done ++ [x]) X') ∧ (o = false → Jx (done ++ [x]) X')

theorem and_130' : ∀ a : Fin 129, bits .and .u8 (a.val : Int) 130 = ((a.val &&& 130 : Nat) : Int) := by decide +kernel
theorem and_130 (l : List UInt8) (i : Nat) : bits .and .u8 (clsAt l i : Int) 130 = ((clsAt l i &&& 130 : Nat) : Int) := by
  have h : clsAt l i < 129 := by
    by_cases h : i < l.length
    · rw [clsAt_in h]
      have := cls_lt l[i].toNat
      omega
    · rw [clsAt_out (by omega)]
      omega
  exact and_130' ⟨_, h⟩

set_option maxRecDepth 8000 in
set_option maxHeartbeats 16000000 in
theorem found1_any (yl b : Nat) (s : ByteArray) (J Jx : List Itm → World → Prop) (hT : TakesW yl b s J Jx) (w : World) (h : J [] w) :
    Calls Tryz.prog 40 #[.func (.yield yl) #[] #[], .pointer (some ⟨b, 0, none⟩)] w fun e w' => e = .returned (.tuple #[]) ∧ (J (foundL s.data.toList) w' ∨ ∃ pre, pre <+: foundL s.data.toList ∧ Jx pre w') := by
  obtain ⟨l, hl⟩ : ∃ l, s.data.toList = l := ⟨_, rfl⟩
  have hls : l.length = s.size := by rw [← hl]; exact size_list s
  obtain ⟨L, hL⟩ : ∃ L, foundL l = L := ⟨_, rfl⟩
  rw [hl, hL]
  unfold foundL at hL
  have c0 := (hT.base _ _ h).txt
  by_cases hlong : 8000 < l.length
  · rw [if_pos hlong] at hL
    have hlong' : (8000 : Int) < (s.size : Int) := by omega
    obtain ⟨fn, tmps, assign, body, hy, hR⟩ := hT.call [] _ ((0, [], 0, 0), 0, 40) 2 (by rw [hl]; unfold foundL; rw [if_pos hlong]; exact List.prefix_refl _) h
    have hy' : (Instr.yield yl #[.agg #[.int .i64 0, .int .i64 0, .string ⟨#[]⟩, .int .i64 0, .int .i64 0], .int .i64 40]).run Tryz.prog w = _ := hy
    refine (callsIn_wide (n := 3)).1 ?_
    refine callsIn_of_wp Tryz.func40 rfl trivial ?_ rfl
    simp only [Tryz.ntmps40, List.size_toArray, List.length_cons, List.length_nil, Nat.reduceAdd, Nat.reduceSub, Array.replicate_succ, Array.replicate_zero, List.push_toArray, List.append_toArray, List.nil_append, List.cons_append]
    clear hy
    gi_wp2_with (first | (with_reducible refine RoundIn.mono hR ?_; clear hR; rintro e w5 ⟨o, rfl, hJ5, hX5⟩))
    refine bodyPost_ret (v := .tuple #[]) (by simp [results, Tryz.results40, go_sem]) rfl ⟨rfl, ?_⟩
    cases o with
    | true => exact .inl (by rw [← hL]; exact hJ5 rfl)
    | false => exact .inr ⟨_, by rw [← hL]; exact List.prefix_refl _, hX5 rfl⟩
  · have hLL : Hid (foundL s.data.toList = L) := by unfold Hid; rw [hl]; unfold foundL; exact hL
    rw [if_neg hlong] at hL
    have hlong' : ¬ (8000 : Int) < (s.size : Int) := by omega
    have hs8 : s.size ≤ 8000 := by omega
    have hbg := fun W hW => begin_any s 0 (by omega) (by omega) W hW
    have hbg2 := fun a ha W hW => begin_any s a ha (by omega) W hW
    rw [hl] at hbg hbg2
    have hnx0 : 0 + skp (l.drop 0) false = nx l 0 := rfl
    rw [hnx0] at hbg
    have hn0 := nx_le (l := l) (a := 0) (by omega)
    generalize nx l 0 = p0 at *
    refine (callsIn_wide (n := 3)).1 ?_
    refine callsIn_of_wp Tryz.func40 rfl trivial ?_ rfl
    simp only [Tryz.ntmps40, List.size_toArray, List.length_cons, List.length_nil, Nat.reduceAdd, Nat.reduceSub, Array.replicate_succ, Array.replicate_zero, List.push_toArray, List.append_toArray, List.nil_append, List.cons_append]
    gi_wp2_with (first | (refine ⟨trivial, ?_⟩; gi_at_call 41; refine (callsIn_wide.2 (hbg _ (hT.base _ _ h).cls)).mono ?_; rintro e w1 ⟨rfl, hb1⟩))
    have hJ1 := hT.later _ _ _ h hb1
    clear h hb1 hbg c0
    gi_loopw [3, 4] (fun bgv atv wr => ∃ (p : Nat) (bg : Bool) (f : Nat) (done : List Itm), p ≤ s.size ∧ bgv = .bool bg ∧ atv = .int .i64 (p : Int) ∧ l.length + 1 ≤ f + p ∧ Hid (done ++ foundP l f p bg = L) ∧ J done wr) (fun _ atv _ => s.size + 1 - (intOf atv).toNat)
    case atStart => exact ⟨p0, false, l.length + 1, [], by omega, rfl, rfl, by omega, by unfold Hid; exact hL, hJ1⟩
    case round =>
      obtain ⟨p, bg, f, done, hp, rfl, rfl, hf, hfl, hJ⟩ := hrel
      clear hL hJ1
      have hB := hT.base _ _ hJ
      have c0 := hB.txt
      obtain ⟨f, rfl⟩ : ∃ f', f = f' + 1 := ⟨f - 1, by omega⟩
      have hca := fun W h => classAt_any s p (clsAt l p : Int) (by rw [hl]) W h
      have hbit := and_130 l p
      unfold Hid foundP at hfl
      by_cases hcl : clsAt l p &&& 130 = 0
      · have hbb : (bits .and .u8 (clsAt l p : Int) 130 == 0) = true := by rw [hbit, hcl]; rfl
        have hwd := word_any s p hp (by omega) wr hB.cls hB.err hB.mon hB.sgn
        rw [hl] at hwd
        rw [if_pos hcl] at hfl
        cases hw : wordS l p with
        | error qn =>
          obtain ⟨q, n⟩ := qn
          rw [hw] at hwd hfl
          dsimp only [resV, tokC] at hwd
          dsimp only at hfl
          have hn := wordS_err hw
          have hn0 : ((n : Int) != 0) = true := by simp; omega
          clear hbit hcl hw
          gi_wp2_with (first | (refine ⟨trivial, ?_⟩; gi_at_call 42; refine (callsIn_wide.2 (hca _ hB.cls)).mono ?_; rintro e w9 ⟨rfl, hw9⟩; subst w9) | (refine ⟨trivial, ?_⟩; gi_at_call 39; refine (callsIn_wide.2 hwd).mono ?_; rintro e w2 ⟨rfl, hb2⟩; have hJ2 := hT.later _ _ _ hJ (hb2.alloc hb2.size (.cells #[.int .i64 0, .int .i64 (q : Int), .string ⟨#[]⟩, .int .i64 0, .int .i64 0] 60)); obtain ⟨fn, tmps, assign, body, hy, hR⟩ := hT.call _ _ ((0, [], 0, 0), q, n) 2 (by rw [hLL.out, ← hfl]; exact List.prefix_refl _) hJ2; have hy' : (Instr.yield yl #[.agg #[.int .i64 0, .int .i64 (q : Int), .string ⟨#[]⟩, .int .i64 0, .int .i64 0], .int .i64 (n : Int)]).run Tryz.prog (w2.alloc (.cells #[.int .i64 0, .int .i64 (q : Int), .string ⟨#[]⟩, .int .i64 0, .int .i64 0] 60)) = _ := hy; clear hy))
          refine hR.mono ?_
          rintro e w5 ⟨o, rfl, hJ5, hX5⟩
          cases o with
          | true =>
            have hJ6 := hJ5 rfl
            clear hR hJ5 hX5 hy'
            gi_wp2
            refine bodyPost_ret (v := .tuple #[]) (by simp [results, Tryz.results40, go_sem]) rfl ⟨rfl, ?_⟩
            exact .inl (by rw [← hfl]; exact hJ6)
          | false =>
            have hX6 := hX5 rfl
            clear hR hJ5 hX5 hy'
            gi_wp2
            refine bodyPost_ret (v := .tuple #[]) (by simp [results, Tryz.results40, go_sem]) rfl ⟨rfl, ?_⟩
            exact .inr ⟨_, by rw [← hfl]; exact List.prefix_refl _, hX6⟩
        | ok we =>
          obtain ⟨wd, e⟩ := we
          rw [hw] at hwd hfl
          dsimp only [resV, tokC] at hwd
          dsimp only at hfl
          have hn := wordS_ok (by omega) hcl hw
          have hnx1 := nx_ge l e
          have hnx2 := nx_le (l := l) (a := e) hn.2
          have hbg3 := fun W hW => hbg2 e (by omega) W hW
          rw [show e + skp (l.drop e) false = nx l e from rfl] at hbg3
          generalize nx l e = p2 at *
          have hfl' : Hid ((done ++ [(wd, p, 0)]) ++ foundP l f p2 true = L) := by unfold Hid; rw [← hfl]; simp
          clear hbit hcl hw hfl hbg2
          gi_wp2_with (first | (refine ⟨trivial, ?_⟩; gi_at_call 42; refine (callsIn_wide.2 (hca _ hB.cls)).mono ?_; rintro e w9 ⟨rfl, hw9⟩; subst w9) | (refine ⟨trivial, ?_⟩; gi_at_call 39; refine (callsIn_wide.2 hwd).mono ?_; rintro e w2 ⟨rfl, hb2⟩; have hJ2 := hT.later _ _ _ hJ (hb2.alloc hb2.size (.cells #[.int .i64 (wd.1 : Int), .int .i64 (p : Int), .string ⟨wd.2.1.toArray⟩, .int .i64 (wd.2.2.1 : Int), .int .i64 (wd.2.2.2 : Int)] 60)); obtain ⟨fn, tmps, assign, body, hy, hR⟩ := hT.call _ _ (wd, p, 0) 2 (by rw [hLL.out, ← hfl'.out]; exact List.prefix_append _ _) hJ2; have hy' : (Instr.yield yl #[.agg #[.int .i64 (wd.1 : Int), .int .i64 (p : Int), .string ⟨wd.2.1.toArray⟩, .int .i64 (wd.2.2.1 : Int), .int .i64 (wd.2.2.2 : Int)], .int .i64 0]).run Tryz.prog (w2.alloc (.cells #[.int .i64 (wd.1 : Int), .int .i64 (p : Int), .string ⟨wd.2.1.toArray⟩, .int .i64 (wd.2.2.1 : Int), .int .i64 (wd.2.2.2 : Int)] 60)) = _ := hy; clear hy))
          refine hR.mono ?_
          rintro x w5 ⟨o, rfl, hJ5, hX5⟩
          cases o with
          | true =>
            have hJ6 := hJ5 rfl
            have hB6 := hT.base _ _ hJ6
            have c6 := hB6.txt
            clear hR hJ5 hX5 hy' hJ2 hb2
            gi_wp2_with (first | (refine ⟨trivial, ?_⟩; gi_at_call 41; refine (callsIn_wide.2 (hbg3 _ hB6.cls)).mono ?_; rintro e w7 ⟨rfl, hb7⟩))
            have hJ7 := hT.later _ _ _ hJ6 hb7
            gi_wp2
            exact ⟨⟨p2, true, f, _, by omega, rfl, rfl, by omega, hfl', hJ7⟩, by simp [intOf]; omega⟩
          | false =>
            have hX6 := hX5 rfl
            clear hR hJ5 hX5 hy'
            gi_wp2
            refine bodyPost_ret (v := .tuple #[]) (by simp [results, Tryz.results40, go_sem]) rfl ⟨rfl, ?_⟩
            exact .inr ⟨_, by rw [← hfl'.out]; exact List.prefix_append _ _, hX6⟩
      · have hbb : (bits .and .u8 (clsAt l p : Int) 130 == 0) = false := by
          rw [hbit]
          generalize clsAt l p &&& 130 = m at *
          simp
          omega
        rw [if_neg hcl] at hfl
        clear hbit hcl
        by_cases hend : p = l.length
        · rw [if_pos hend, List.append_nil] at hfl
          have hend' : ((p : Int) == (s.size : Int)) = true := by simp; omega
          have hfl : Hid _ := hfl
          clear hend
          cases bg with
          | false =>
            have hfl' : Hid (done = L) := by unfold Hid; rw [← hfl.out]; simp
            clear hfl
            gi_wp2_with (first | (refine ⟨trivial, ?_⟩; gi_at_call 42; refine (callsIn_wide.2 (hca _ hB.cls)).mono ?_; rintro e w9 ⟨rfl, hw9⟩; subst w9) | (refine ⟨fun _ hf => (by cases hf), ?_⟩; go_at_K))
            refine bodyPost_ret (v := .tuple #[]) (by simp [results, Tryz.results40, go_sem]) rfl ⟨rfl, ?_⟩
            exact .inl (by rw [← hfl'.out]; exact hJ)
          | true =>
            have hfl' : Hid (done ++ [((8, [], 0, 0), p, 0)] = L) := by unfold Hid; rw [← hfl.out]; simp
            clear hfl
            obtain ⟨fn, tmps, assign, body, hy, hR⟩ := hT.call _ _ ((8, [], 0, 0), p, 0) 2 (by rw [hLL.out, ← hfl'.out]; exact List.prefix_refl _) hJ
            have hy' : (Instr.yield yl #[.agg #[.int .i64 8, .int .i64 (p : Int), .string ⟨#[]⟩, .int .i64 0, .int .i64 0], .int .i64 0]).run Tryz.prog wr = _ := hy
            clear hy
            gi_wp2_with (first | (refine ⟨trivial, ?_⟩; gi_at_call 42; refine (callsIn_wide.2 (hca _ hB.cls)).mono ?_; rintro e w9 ⟨rfl, hw9⟩; subst w9))
            refine hR.mono ?_
            rintro x w5 ⟨o, rfl, hJ5, hX5⟩
            cases o with
            | true =>
              have hJ6 := hJ5 rfl
              have hB6 := hT.base _ _ hJ6
              have c6 := hB6.txt
              clear hR hJ5 hX5 hy'
              gi_wp2
              refine bodyPost_ret (v := .tuple #[]) (by simp [results, Tryz.results40, go_sem]) rfl ⟨rfl, ?_⟩
              exact .inl (by rw [← hfl'.out]; exact hJ6)
            | false =>
              have hX6 := hX5 rfl
              clear hR hJ5 hX5 hy'
              gi_wp2
              refine bodyPost_ret (v := .tuple #[]) (by simp [results, Tryz.results40, go_sem]) rfl ⟨rfl, ?_⟩
              exact .inr ⟨_, by rw [← hfl'.out]; exact List.prefix_refl _, hX6⟩
        · rw [if_neg hend] at hfl
          have hend' : ((p : Int) == (s.size : Int)) = false := by simp; omega
          have hnx1 := nx_ge l (p + 1)
          have hnx2 := nx_le (l := l) (a := p + 1) (by omega)
          have hbg3 := fun W hW => hbg2 (p + 1) (by omega) W hW
          rw [show p + 1 + skp (l.drop (p + 1)) false = nx l (p + 1) from rfl, show ((p + 1 : Nat) : Int) = (p : Int) + 1 from by omega] at hbg3
          generalize nx l (p + 1) = p2 at *
          clear hbg2 hend
          cases bg with
          | false =>
            simp only [Bool.false_eq_true, if_false, List.nil_append] at hfl
            have hB6 := hB
            have hfl' : Hid (done ++ foundP l f p2 false = L) := hfl
            clear hfl
            gi_wp2_with (first | (refine ⟨trivial, ?_⟩; gi_at_call 42; refine (callsIn_wide.2 (hca _ hB.cls)).mono ?_; rintro e w9 ⟨rfl, hw9⟩; subst w9) | (refine ⟨trivial, ?_⟩; gi_at_call 41; refine (callsIn_wide.2 (hbg3 _ hB6.cls)).mono ?_; rintro e w7 ⟨rfl, hb7⟩) | (refine ⟨fun _ hf => (by cases hf), ?_⟩; go_at_K))
            have hJ7 := hT.later _ _ _ hJ hb7
            gi_wp2
            exact ⟨⟨p2, false, f, _, by omega, rfl, rfl, by omega, hfl', hJ7⟩, by simp [intOf]; omega⟩
          | true =>
            simp only [if_true] at hfl
            have hfl' : Hid ((done ++ [((8, [], 0, 0), p, 0)]) ++ foundP l f p2 false = L) := by unfold Hid; rw [← hfl]; simp
            clear hfl
            obtain ⟨fn, tmps, assign, body, hy, hR⟩ := hT.call _ _ ((8, [], 0, 0), p, 0) 2 (by rw [hLL.out, ← hfl'.out]; exact List.prefix_append _ _) hJ
            have hy' : (Instr.yield yl #[.agg #[.int .i64 8, .int .i64 (p : Int), .string ⟨#[]⟩, .int .i64 0, .int .i64 0], .int .i64 0]).run Tryz.prog wr = _ := hy
            clear hy
            gi_wp2_with (first | (refine ⟨trivial, ?_⟩; gi_at_call 42; refine (callsIn_wide.2 (hca _ hB.cls)).mono ?_; rintro e w9 ⟨rfl, hw9⟩; subst w9))
            refine hR.mono ?_
            rintro x w5 ⟨o, rfl, hJ5, hX5⟩
            cases o with
            | true =>
              have hJ6 := hJ5 rfl
              have hB6 := hT.base _ _ hJ6
              have c6 := hB6.txt
              clear hR hJ5 hX5 hy'
              gi_wp2_with (first | (refine ⟨trivial, ?_⟩; gi_at_call 41; refine (callsIn_wide.2 (hbg3 _ hB6.cls)).mono ?_; rintro e w7 ⟨rfl, hb7⟩))
              have hJ7 := hT.later _ _ _ hJ6 hb7
              gi_wp2
              exact ⟨⟨p2, false, f, _, by omega, rfl, rfl, by omega, hfl', hJ7⟩, by simp [intOf]; omega⟩
            | false =>
              have hX6 := hX5 rfl
              clear hR hJ5 hX5 hy'
              gi_wp2
              refine bodyPost_ret (v := .tuple #[]) (by simp [results, Tryz.results40, go_sem]) rfl ⟨rfl, ?_⟩
              exact .inr ⟨_, by rw [← hfl'.out]; exact List.prefix_append _ _, hX6⟩

end Go.Proofs.YtoippgmecnlhcaaGreatDoor


namespace Go.Proofs.YtoippgmecnlhcaaGreatDoor.Q
open Go.RowKit Go.Shelf

/-- What a statement's own book-keeping may turn: a block from B on that is no cells. -/
def StepB (B : Nat) (X Y : World) : Prop := ∃ row, X.grownBy Y row ∧ ∀ r, row = some r → B ≤ r ∧ ∃ o : Obj, X.heap[r]? = some o ∧ o.isCells = false
theorem stepB_put {B l : Nat} {X : World} {o : Obj} (o' : Obj) (hl : B ≤ l) (h : X.heap[l]? = some o) (hc : o.isCells = false) : StepB B X (X.putObj l o') :=
  ⟨some l, grownBy_putObj' X l o', fun r e => by cases e; exact ⟨hl, o, h, hc⟩⟩
theorem stepB_alloc (B : Nat) (X : World) (o : Obj) : StepB B X (X.alloc o) := ⟨none, World.grownBy_alloc X o none, fun r e => by cases e⟩
theorem grown_of_below {W W' : World} (h : Below W.heap.size W W') : W.grownBy W' none := ⟨h.os, h.tape, h.output, h.size, fun k hk _ => h.block k hk⟩
theorem stepB_below (B : Nat) {X Y : World} (h : Below X.heap.size X Y) : StepB B X Y := ⟨none, grown_of_below h, fun r e => by cases e⟩
theorem StepB.below {B : Nat} {W X Y : World} (h : StepB B X Y) (hW : Below B W X) (hB : B ≤ X.heap.size) : Below B W Y := by
  obtain ⟨row, hg, hr⟩ := h
  exact hW.grown hg hB (fun k e => (hr k e).1)
theorem StepB.mono {B B' : Nat} {X Y : World} (h : StepB B X Y) (hb : B' ≤ B) : StepB B' X Y := by
  obtain ⟨row, hg, hr⟩ := h
  exact ⟨row, hg, fun r e => ⟨Nat.le_trans hb (hr r e).1, (hr r e).2⟩⟩
theorem cell_stepB {B : Nat} {X Y : World} {p : Addr} {v : Value} (h : X.cell? p = some v) (hs : StepB B X Y) : Y.cell? p = some v := by
  obtain ⟨row, hg, hr⟩ := hs
  exact cell_kept h hg (fun r e => (hr r e).2)
theorem block_stepB {B : Nat} {X Y : World} {k : Nat} {cs : Array Value} {t : TypeId} {z : Nat × Nat} (h : X.heap[k]? = some (.cells cs t z)) (hs : StepB B X Y) : Y.heap[k]? = some (.cells cs t z) := by
  obtain ⟨row, hg, hr⟩ := hs
  refine (hg.block k (Array.getElem?_eq_some_iff.1 h).1 (fun e => ?_)).trans h
  obtain ⟨-, o, h1, h2⟩ := hr k e.symm
  rw [h] at h1
  rw [← Option.some.inj h1] at h2
  cases h2
theorem own_stepB {B : Nat} {X Y : World} {base n size : Nat} {e : TypeId} {v : Value} {xs : List Value} (h : X.ownsRow base e size v n xs) (hs : StepB B X Y) : Y.ownsRow base e size v n xs := by
  obtain ⟨h1, h2⟩ := h
  refine ⟨h1, ?_⟩
  rcases h2 with h2 | ⟨g, cap, cur, a, b, c, d⟩
  · exact .inl h2
  · exact .inr ⟨g, cap, cur, a, b, block_stepB c hs, d⟩
theorem own_cells {w : World} {base n size : Nat} {e : TypeId} {v : Value} {xs : List Value} (h : w.ownsRow base e size v n xs) (j : Nat) (o : Obj) (hj : v.ownBlock = some j) (ho : w.heap[j]? = some o) : o.isCells = true := by
  obtain ⟨-, h2⟩ := h
  rcases h2 with ⟨rfl, -⟩ | ⟨g, cap, cur, rfl, b, c, d⟩
  · cases hj
  · have : g = j := by simpa [Value.ownBlock] using hj
    subst this
    rw [c] at ho
    cases ho
    rfl

/-- How a round is left: it goes on, or the function is left. -/
def itmPost (B : Nat) (I Ix : List Itm → World → Prop) (xs : List Itm) (W : World) : Exit → Act → World → Prop
  | .normal, _, W' => KeepsFrom B W W' ∧ I xs W'
  | .ret, _, W' => KeepsFrom B W W' ∧ Ix xs W'
  | _, _, _ => False
theorem roundIn_depth {n m : Nat} {P : Program} {l : Nat} {f : FuncId} {tmps : Array Value} {assign body : Code} {w : World} {R : Ending → World → Prop} (h : RoundIn Fence.wide n P l f tmps assign body w R) : RoundIn Fence.wide m P l f tmps assign body w R :=
  ⟨h.1, fun c cs _ => h.2 c cs (room_wide _)⟩

set_option maxHeartbeats 1000000 in
/-- The statement 'for t, e := range found(text)'; its body may leave the function. -/
theorem range_found {n : Nat} {g : Operand} {ps : Array Tmp} {assign body : Code} {Q : Exit → Act → World → Prop} {a : Act} {w : World} (b : Nat) (s : ByteArray)
    (hg : a.eval g = .func (.func 40) #[] #[.pointer (some ⟨b, 0, none⟩)]) (hps : ps.size = 2) (I Ix : List Itm → World → Prop)
    (hI : ∀ pre X Y, I pre X → StepB w.heap.size X Y → I pre Y) (hIx : ∀ pre X Y, Ix pre X → StepB w.heap.size X Y → Ix pre Y) (hBs : ∀ pre X, I pre X → Base b s X)
    (h0 : I [] w) (Ax : Itm → Act → World → Prop) (hAx : ∀ x a' X Y, Ax x a' X → StepB w.heap.size X Y → Ax x a' Y)
    (hassign : ∀ (l : Nat) (pre : List Itm) (x : Itm) (W : World) (K : Act → World → Prop), I pre W → (∀ a' W', KeepsFrom w.heap.size W W' → I pre W' → Ax x a' W' → K a' W') → assign.wpIn (Fence.wide.inRound l) 3 Tryz.prog (Exit.then K (fun _ _ _ => False)) { tmps := (ps.zip (encI x)).foldl (fun t (p, v) => t.setIfInBounds p v) a.tmps, defers := [] } W)
    (hbody : ∀ (l : Nat) (pre : List Itm) (x : Itm) (a' : Act) (W : World), pre ++ [x] <+: foundL s.data.toList → I pre W → Ax x a' W → body.wpIn (Fence.wide.inRound l) 3 Tryz.prog (itmPost w.heap.size I Ix (pre ++ [x]) W) a' W)
    (hdone : ∀ (D : Nat) (W : World), w.heap.size ≤ D → I (foundL s.data.toList) W → W.heap[D]? = some (.deferred (some [])) → Q .normal { a with defers := { target := .collected D, args := #[] } :: a.defers } W)
    (hstop : ∀ (D : Nat) (pre : List Itm) (W : World), w.heap.size ≤ D → pre <+: foundL s.data.toList → Ix pre W → W.heap[D]? = some (.deferred (some [])) → Code.ret.wpIn Fence.wide n Tryz.prog Q { a with defers := { target := .collected D, args := #[] } :: a.defers } W) :
    (Code.rangeFunc g ps assign body).wpIn Fence.wide n Tryz.prog Q a w := by
  refine wpIn_rangeFunc fun fn hfn => ?_
  obtain ⟨L, hL⟩ : ∃ L : LoopState → Option Code → Loop, L = fun st pe => { state := st, pending := pe, fn := fn, tmps := a.tmps, params := ps, assign := assign, body := body, defers := w.heap.size } := ⟨_, rfl⟩
  obtain ⟨V, hV⟩ : ∃ V, (w.alloc (.deferred (some []))).alloc (.loop (L .ready none)) = V := ⟨_, rfl⟩
  have hV1 : V.heap[w.heap.size + 1]? = some (.loop (L .ready none)) := by
    rw [← hV]
    have := World.alloc_heap_new (w.alloc (.deferred (some []))) (.loop (L .ready none))
    rwa [World.size_alloc] at this
  have hV0 : V.heap[w.heap.size]? = some (.deferred (some [])) := by
    rw [← hV]
    exact (Below.heap_alloc _ _ _ (by simp)).trans (World.alloc_heap_new w _)
  have hIV : I [] V := by rw [← hV]; exact hI _ _ _ (hI _ _ _ h0 (stepB_alloc _ _ _)) (stepB_alloc _ _ _)
  have hT : TakesW (w.heap.size + 1) b s (fun pre W => I pre W ∧ W.heap[w.heap.size + 1]? = some (.loop (L .ready none)) ∧ W.heap[w.heap.size]? = some (.deferred (some [])))
      (fun pre W => Ix pre W ∧ W.heap[w.heap.size + 1]? = some (.loop (L .done (some .ret))) ∧ W.heap[w.heap.size]? = some (.deferred (some []))) := by
    refine ⟨fun pre W h => hBs _ _ h.1, fun pre W Y h hWY => ⟨hI _ _ _ h.1 (stepB_below _ hWY), ?_, ?_⟩, ?_⟩
    · exact (hWY.block _ (Array.getElem?_eq_some_iff.1 h.2.1).1).trans h.2.1
    · exact (hWY.block _ (Array.getElem?_eq_some_iff.1 h.2.2).1).trans h.2.2
    · rintro pre Wr x m hk ⟨hi0, h10, h20⟩
      have hy := run_yield (P := Tryz.prog) (args := encI x) h10 (by rw [hL]; exact hps.symm)
      rw [hL] at hy
      refine ⟨fn, _, assign, body, hy, roundIn_depth (n := 3) (roundIn_of_wpIn hfn (hassign _ pre x Wr _ hi0 fun a' W hkf hi hax => ?_))⟩
      have h1 := hkf.same _ _ (Nat.le_succ _) h10 rfl
      have h2 := hkf.same _ _ (Nat.le_refl _) h20 rfl
      have hlt : w.heap.size + 1 < W.heap.size := (Array.getElem?_eq_some_iff.1 h1).1
      refine ⟨_, run_beginRound h1 (by rw [hL]), ?_⟩
      have s1 := stepB_put (B := w.heap.size) (.loop { L .ready none with state := .busy }) (Nat.le_succ _) h1 rfl
      have k1 : (W.putObj (w.heap.size + 1) (.loop { L .ready none with state := .busy })).heap[w.heap.size + 1]? = some (.loop { L .ready none with state := .busy }) := World.putObj_heap_same hlt
      have k0 : (W.putObj (w.heap.size + 1) (.loop { L .ready none with state := .busy })).heap[w.heap.size]? = some (.deferred (some [])) := (World.putObj_heap_other (by omega)).trans h2
      refine wpIn_mono (hbody _ pre x _ _ hk (hI _ _ _ hi s1) (hAx _ _ _ _ hax s1)) ?_
      have fin : ∀ (jump : Option Code) (X : World), KeepsFrom w.heap.size (W.putObj (w.heap.size + 1) (.loop { L .ready none with state := .busy })) X →
          (Instr.endRound (w.heap.size + 1) jump).run Tryz.prog X = .ok (.bool jump.isNone) (X.putObj (w.heap.size + 1) (.loop (L (if jump.isNone then .ready else .done) jump))) ∧ StepB w.heap.size X (X.putObj (w.heap.size + 1) (.loop (L (if jump.isNone then .ready else .done) jump))) ∧
          (X.putObj (w.heap.size + 1) (.loop (L (if jump.isNone then .ready else .done) jump))).heap[w.heap.size + 1]? = some (.loop (L (if jump.isNone then .ready else .done) jump)) ∧
          (X.putObj (w.heap.size + 1) (.loop (L (if jump.isNone then .ready else .done) jump))).heap[w.heap.size]? = some (.deferred (some [])) := fun jump X hX => by
        have e1 := hX.same _ _ (Nat.le_succ _) k1 rfl
        have e0 := hX.same _ _ (Nat.le_refl _) k0 rfl
        have e2 := run_endRound (P := Tryz.prog) jump e1
        refine ⟨by rw [hL] at e2 ⊢; exact e2, stepB_put _ (Nat.le_succ _) e1 rfl, World.putObj_heap_same (Array.getElem?_eq_some_iff.1 e1).1, (World.putObj_heap_other (by omega)).trans e0⟩
      rintro e a3 X hp
      cases e with
      | normal =>
        obtain ⟨hX, hi3⟩ := hp
        obtain ⟨hr, hs, e1, e0⟩ := fin none X hX
        exact ⟨_, _, hr, true, rfl, fun _ => ⟨hI _ _ _ hi3 hs, e1, e0⟩, fun e => (by cases e)⟩
      | ret =>
        obtain ⟨hX, hi3⟩ := hp
        obtain ⟨hr, hs, e1, e0⟩ := fin (some .ret) X hX
        exact ⟨_, _, hr, false, rfl, fun e => (by cases e), fun _ => ⟨hIx _ _ _ hi3 hs, e1, e0⟩⟩
      | exit i => exact hp.elim
      | goto t => exact hp.elim
      | panic ch => exact hp.elim
      | outgrown => exact hp.elim
  refine ⟨w.heap.size + 1, [{ target := .collected w.heap.size, args := #[] }], V, { target := .fn (.func 40) #[.pointer (some ⟨b, 0, none⟩)], args := #[.func (.yield (w.heap.size + 1)) #[] #[]] }, V, 40,
    #[.func (.yield (w.heap.size + 1)) #[] #[], .pointer (some ⟨b, 0, none⟩)], V, ?_, ?_, ?_, ?_, fun e => by simp [Fence.wide] at e, ?_⟩
  · rw [← hV, hL]; exact run_enterLoop_outer _ _ _ _ _
  · simp only [resolve, hg]
    simp [go_sem]
  · intro f' _; trivial
  · simp [invoke, go_sem]
  · refine (callsIn_wide.2 (found1_any (w.heap.size + 1) b s _ _ hT V ⟨hIV, hV1, hV0⟩)).mono ?_
    rintro e X ⟨rfl, ⟨hi, e1, e0⟩ | ⟨pre, hpre, hi, e1, e0⟩⟩
    · have hs := stepB_put (B := w.heap.size) (.loop { L .ready none with state := .exhausted }) (Nat.le_succ _) e1 rfl
      refine ⟨none, _, by have := run_endLoop (P := Tryz.prog) e1 (by rw [hL]; simp); rw [hL] at this ⊢; exact this, hdone _ _ (Nat.le_refl _) (hI _ _ _ hi hs) ((World.putObj_heap_other (by omega)).trans e0)⟩
    · have hs := stepB_put (B := w.heap.size) (.loop { L .done (some .ret) with state := .exhausted }) (Nat.le_succ _) e1 rfl
      refine ⟨some .ret, _, by have := run_endLoop (P := Tryz.prog) e1 (by rw [hL]; simp); rw [hL] at this ⊢; exact this, hstop _ pre _ (Nat.le_refl _) hpre (hIx _ _ _ hi hs) ((World.putObj_heap_other (by omega)).trans e0)⟩

end Go.Proofs.YtoippgmecnlhcaaGreatDoor.Q
