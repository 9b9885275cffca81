import Derived.Test.YtnmcniibcjjflaaDoorJoin13
import Derived.Test.YtnmcniibcjjflaaDoorTurnRefusal
import Derived.Test.YtnmcniibcjjflaaDoorJoin6
namespace Go.Proofs.YtnmcniibcjjflaaDoor
open Go.RowKit

theorem within_v (n l h : Int) (w : World) (b : Bool) (hb : decide (l ≤ n ∧ n ≤ h) = b) : Calls Tryd.prog 35 #[.int .i64 n, .int .i64 l, .int .i64 h] w fun e w' => e = .returned (.bool b) ∧ w' = w := hb ▸ within_any n l h w

theorem quo_round (n0 unit mode : Int) (h0 : -9999999999999 ≤ n0 ∧ n0 ≤ 9999999999999) (h1 : 1 ≤ unit ∧ unit ≤ 9999999999999) (r : Int × Bool) (hr : r = M.wh (decide (n0 < 0)) mode n0.natAbs unit.natAbs) :
    Quo n0 1 unit mode (decide (n0 < 0)) (n0.natAbs / 18446744073709551616) (n0.natAbs % 18446744073709551616) unit.natAbs n0.natAbs r where
  a1 := by omega
  a2 := by omega
  n1 := by omega
  n2 := by omega
  d1 := by omega
  d2 := by omega
  hs := by have : ¬ unit < 0 := by omega
           simp [this]
  h1 := by simp
  h2 := by simp
  h3 := rfl
  hp := by simp
  h0 := by omega
  div := fun _ => divides_small _ _ (by omega) (by omega) (by omega)
  hr := hr

set_option maxHeartbeats 2000000 in
theorem round_any (k0 n0 unit mode : Int) (w : World) (hK : Kinds w) (m : Int × Bool) (hm : Hid (m = M.wh (decide (n0 < 0)) mode n0.natAbs unit.natAbs)) (r : Int × Int) (hr : Hid (r = M.ans (M.refuse (takesB k0 8) k0 n0 []) (M.rnd unit mode m.2 (wrap64 (m.1 * unit))))) :
    Calls Tryd.prog 32 #[.agg #[.int .i64 k0, .int .i64 n0], .int .i64 unit, .int .i64 mode] w fun e w' => e = .returned (.agg #[.int .i64 r.1, .int .i64 r.2]) ∧ Below w.heap.size w w' := by
  have hc := refusal_any 8 k0 n0 none 0 [] ((w.alloc (cellsV k0 n0)).alloc (cellsV 0 0)) ((hK.alloc _).alloc _) ⟨by simp, .inl rfl⟩
  cases h1 : M.refuse (takesB k0 8) k0 n0 [] with
  | some v =>
    obtain ⟨x, y⟩ := v
    rw [h1] at hc hr
    dsimp only [M.vk, M.vn, Option.isSome, List.length] at hc
    clear h1
    go_enter Tryd.func32, Tryd.ntmps32
    go_wp2_with (go_at_call 54; refine hc.mono ?_; clear hc; rintro e w1 ⟨rfl, hb1⟩; obtain ⟨-, hR1, hB1⟩ := start1 w k0 n0 hb1; obtain ⟨r0, r1, q0, q1⟩ := hR1.alloc (cellsV x y); clear hb1)
    exact bodyPost_ret (v := .agg #[.int .i64 x, .int .i64 y]) (by simp [results, Tryd.results32, go_sem, r0, r1]) rfl ⟨by rw [hr.out]; rfl, ((hB1.alloc hB1.size _).setCell (by simp) _).setCell (by simp) _⟩
  | none =>
    obtain ⟨t0, v0, -⟩ := M.refuse_none h1
    rw [h1] at hc hr
    dsimp only [M.vk, M.vn, Option.isSome, List.length] at hc
    have hr1 : r = M.rnd unit mode m.2 (wrap64 (m.1 * unit)) := hr
    clear h1 hr
    by_cases hu : 1 ≤ unit ∧ unit ≤ 9999999999999
    · have hun : decide (1 ≤ unit ∧ unit ≤ 9999999999999) = true := decide_eq_true hu
      by_cases hmd : 1 ≤ mode ∧ mode ≤ 5
      · have HR : Hid (r = M.fit m.2 1 (wrap64 (m.1 * unit))) := by unfold Hid; rw [hr1, M.rnd_ok hu hmd]
        rw [takes_8] at t0
        obtain rfl : k0 = 1 := by simpa using t0
        have hq := quo_round n0 unit mode (M.valid_1 v0) hu m hm
        clear hr1 t0 v0 hm hu
        generalize n0.natAbs / 18446744073709551616 = hi at *
        generalize n0.natAbs % 18446744073709551616 = lo at *
        generalize n0.natAbs = p at *
        generalize unit.natAbs = d at *
        generalize decide (n0 < 0) = s at *
        go_enter Tryd.func32, Tryd.ntmps32
        go_wp2_with (first | (go_at_call 54; refine hc.mono ?_; clear hc; rintro e w1 ⟨rfl, hb1⟩; obtain ⟨hX, hR1, hB1⟩ := start1 w 1 n0 hb1; obtain ⟨x0, x1, -, -⟩ := hX.alloc (cellsV 0 0); clear hb1 hX) | (go_at_call 35; refine (within_v _ _ _ _ true hun).mono ?_; rintro e w' ⟨rfl, rfl⟩) | (go_at_call 55; refine (isMode_yes _ _ hmd).mono ?_; rintro e w' ⟨rfl, rfl⟩) | (go_at_call 56; refine (hq.ratio _).mono ?_; rintro e w2 ⟨rfl, hb2⟩; have hR2 := (hR1.alloc _).later hb2; have hK2 := ((hK.later hB1).alloc _).later hb2; have hB2 := below_step (hB1.alloc hB1.size _) hb2; clear hb2) | (go_at_call 57; refine (hq.whole _).mono ?_; rintro e w3 ⟨rfl, hb3⟩; have hR3 := hR2.later hb3; have hK3 := hK2.later hb3; have hB3 := below_step hB2 hb3; clear hb3) | (go_at_call 53; refine (fitting_any _ _ _ _ hK3).mono ?_; rintro e w4 ⟨rfl, hb4⟩; obtain ⟨r0, r1, q0, q1⟩ := hR3.later hb4; have hB4 := below_step hB3 hb4; clear hb4))
        exact bodyPost_ret (v := .agg #[.int .i64 r.1, .int .i64 r.2]) (by rw [HR.out]; simp [results, Tryd.results32, go_sem, r0, r1]) rfl ⟨rfl, (hB4.setCell (by simp) _).setCell (by simp) _⟩
      · have HR : Hid (r = (6, 5)) := by unfold Hid; rw [hr1, M.rnd_no (fun h => hmd h.2)]
        clear hr1 t0 v0 hm hu
        go_enter Tryd.func32, Tryd.ntmps32
        go_wp2_with (first | (go_at_call 54; refine hc.mono ?_; clear hc; rintro e w1 ⟨rfl, hb1⟩; obtain ⟨hX, hR1, hB1⟩ := start1 w k0 n0 hb1; obtain ⟨x0, x1, -, -⟩ := hX.alloc (cellsV 0 0); clear hb1 hX) | (go_at_call 35; refine (within_v _ _ _ _ true hun).mono ?_; rintro e w' ⟨rfl, rfl⟩) | (go_at_call 55; refine (isMode_no _ _ hmd).mono ?_; rintro e w' ⟨rfl, rfl⟩) | (go_at_call 18; refine (fault_any _ _).mono ?_; rintro e w2 ⟨rfl, hb2⟩; obtain ⟨r0, r1, q0, q1⟩ := (hR1.alloc _).later hb2; have hB2 := below_step (hB1.alloc hB1.size _) hb2; clear hb2))
        exact bodyPost_ret (v := .agg #[.int .i64 6, .int .i64 5]) (by simp [results, Tryd.results32, go_sem, r0, r1]) rfl ⟨by rw [HR.out], (hB2.setCell (by simp) _).setCell (by simp) _⟩
    · have hun : decide (1 ≤ unit ∧ unit ≤ 9999999999999) = false := decide_eq_false hu
      have HR : Hid (r = (6, 5)) := by unfold Hid; rw [hr1, M.rnd_no (fun h => hu h.1)]
      clear hr1 t0 v0 hm hu
      go_enter Tryd.func32, Tryd.ntmps32
      go_wp2_with (first | (go_at_call 54; refine hc.mono ?_; clear hc; rintro e w1 ⟨rfl, hb1⟩; obtain ⟨hX, hR1, hB1⟩ := start1 w k0 n0 hb1; obtain ⟨x0, x1, -, -⟩ := hX.alloc (cellsV 0 0); clear hb1 hX) | (go_at_call 35; refine (within_v _ _ _ _ false hun).mono ?_; rintro e w' ⟨rfl, rfl⟩) | (go_at_call 18; refine (fault_any _ _).mono ?_; rintro e w2 ⟨rfl, hb2⟩; obtain ⟨r0, r1, q0, q1⟩ := (hR1.alloc _).later hb2; have hB2 := below_step (hB1.alloc hB1.size _) hb2; clear hb2))
      exact bodyPost_ret (v := .agg #[.int .i64 6, .int .i64 5]) (by simp [results, Tryd.results32, go_sem, r0, r1]) rfl ⟨by rw [HR.out], (hB2.setCell (by simp) _).setCell (by simp) _⟩

end Go.Proofs.YtnmcniibcjjflaaDoor


namespace Go.Proofs.YtnmcniibcjjflaaDoor
open Go.RowKit

set_option maxHeartbeats 2000000 in
theorem areBands_loop (a : Option Addr) (cap : Nat) (bs : List (Int × Int)) (w : World) (hV : Vals w a bs) (h1 : 1 ≤ bs.length) (h8 : bs.length ≤ 8) (b : Bool) (hb0 : Hid (b = M.areB 0 0 bs)) :
    Calls Tryd.prog 59 #[.slice a bs.length cap] w fun e w' => e = .returned (.bool b) ∧ Below w.heap.size w w' := by
  have g1 : ¬ (bs.length : Int) < 1 := by omega
  have g2 : ¬ (8 : Int) < bs.length := by omega
  have g1' : decide ((bs.length : Int) < 1) = false := by simpa using g1
  go_enter Tryd.func59, Tryd.ntmps59
  go_wp2
  go_loopw [3, 4, 17] (fun l m i wr => ∃ (j : Nat) (lo hi : Int), j ≤ bs.length ∧ 0 ≤ lo ∧ hi ≤ 9999999999999 ∧ i = .int .i64 j ∧ l = .int .i64 lo ∧ m = .int .i64 hi ∧ Hid (M.areB 0 0 bs = M.areB lo hi (bs.drop j)) ∧ Below w.heap.size w wr) (fun _ _ i _ => bs.length - (intOf i).toNat)
  case atStart => exact ⟨0, 0, 0, Nat.zero_le _, by omega, by omega, rfl, rfl, rfl, rfl, Below.refl _ _⟩
  case round =>
    obtain ⟨j, lo, hi, hj, hlo, hhi, rfl, rfl, rfl, hm, hb⟩ := hrel
    have hVr := hV.later hb
    by_cases hlt : j < bs.length
    · obtain ⟨-, h | ⟨g, off, rfl, hbw, hcs⟩⟩ := hVr
      · subst h; simp at hlt
      obtain ⟨hc0, hc1⟩ := hcs j hlt
      have hdr := M.drop_at hlt
      generalize (bs.getD j (0, 0)).1 = f at *
      generalize (bs.getD j (0, 0)).2 = r at *
      have HM : Hid (M.areB 0 0 bs = M.areB lo hi ((f, r) :: bs.drop (j + 1))) := by unfold Hid; rw [hm.out, hdr]
      have hlt' : (j : Int) < bs.length := by omega
      clear hcs hm hdr
      have tok1 : True := trivial
      by_cases c1 : lo ≤ f ∧ f ≤ hi
      · have hnu : decide (lo ≤ f ∧ f ≤ hi) = true := decide_eq_true c1
        by_cases c2 : 0 ≤ r ∧ r ≤ 1000000
        · have hde : decide (0 ≤ r ∧ r ≤ 1000000) = true := decide_eq_true c2
          have HN : Hid (M.areB 0 0 bs = M.areB (f + 1) 9999999999999 (bs.drop (j + 1))) := by unfold Hid; rw [HM.out, M.areB_cons_ok c1 c2]
          have c3 : 0 ≤ f := by omega
          have c4 : f ≤ 9999999999999 := by omega
          clear c1 c2
          go_wp2_with (first | (go_at_call 35; have _u := tok1; clear tok1; refine (within_v f lo hi _ true hnu).mono ?_; rintro e w' ⟨rfl, rfl⟩) | (go_at_call 35; refine (within_v r 0 1000000 _ true hde).mono ?_; rintro e w' ⟨rfl, rfl⟩))
          go_roundw
          case rel => exact ⟨j + 1, f + 1, 9999999999999, by omega, by omega, by omega, by go_num, rfl, rfl, HN, hb.alloc hb.size _⟩
          case measure => simp [intOf]; omega
        · have hde : decide (0 ≤ r ∧ r ≤ 1000000) = false := decide_eq_false c2
          have HN : Hid (b = false) := by unfold Hid; rw [hb0.out, HM.out, M.areB_cons_rate c2]
          clear c1 c2
          go_wp2_with (first | (go_at_call 35; have _u := tok1; clear tok1; refine (within_v f lo hi _ true hnu).mono ?_; rintro e w' ⟨rfl, rfl⟩) | (go_at_call 35; refine (within_v r 0 1000000 _ false hde).mono ?_; rintro e w' ⟨rfl, rfl⟩))
          go_ret
          exact ⟨ret_bool HN.out.symm, hb.alloc hb.size _⟩
      · have hnu : decide (lo ≤ f ∧ f ≤ hi) = false := decide_eq_false c1
        have HN : Hid (b = false) := by unfold Hid; rw [hb0.out, HM.out, M.areB_cons_no c1]
        clear c1
        go_wp2_with (go_at_call 35; refine (within_v f lo hi _ false hnu).mono ?_; rintro e w' ⟨rfl, rfl⟩)
        go_ret
        exact ⟨ret_bool HN.out.symm, hb.alloc hb.size _⟩
    · have HN : Hid (b = true) := by
        have e : j = bs.length := by omega
        unfold Hid
        rw [hb0.out, hm.out, e, List.drop_length]
        rfl
      clear hm hVr
      go_wp2
      go_ret
      exact ⟨ret_bool HN.out.symm, hb⟩

theorem areBands_any (a : Option Addr) (cap : Nat) (bs : List (Int × Int)) (w : World) (hV : Vals w a bs) (b : Bool) (hb : Hid (b = M.areBands bs)) :
    Calls Tryd.prog 59 #[.slice a bs.length cap] w fun e w' => e = .returned (.bool b) ∧ Below w.heap.size w w' := by
  by_cases h1 : 1 ≤ bs.length
  · by_cases h8 : bs.length ≤ 8
    · exact areBands_loop a cap bs w hV h1 h8 b (by unfold Hid; rw [hb.out]; unfold M.areBands; rw [decide_eq_true ⟨h1, h8⟩]; rfl)
    · have e : b = false := by rw [hb.out]; unfold M.areBands; rw [decide_eq_false (by omega)]; rfl
      rw [e]
      have g1 : decide ((bs.length : Int) < 1) = false := by simp; omega
      have g2 : (8 : Int) < bs.length := by omega
      go_enter Tryd.func59, Tryd.ntmps59
      go_wp2
      go_ret
      exact ⟨rfl, Below.refl _ _⟩
  · have e : b = false := by rw [hb.out]; unfold M.areBands; rw [decide_eq_false (by omega)]; rfl
    rw [e]
    have g1 : (bs.length : Int) < 1 := by omega
    go_enter Tryd.func59, Tryd.ntmps59
    go_wp2
    go_ret
    exact ⟨rfl, Below.refl _ _⟩

end Go.Proofs.YtnmcniibcjjflaaDoor
