import Derived.Test.YtnmcniibcjjflaaDoorJoin24
import Derived.Test.YtnmcniibcjjflaaDoorTurnRefusal
import Derived.Test.YtnmcniibcjjflaaDoorJoin11
import Derived.Test.YtnmcniibcjjflaaDoorJoin10
namespace Go.Proofs.YtnmcniibcjjflaaDoor
open Go.RowKit

theorem within_v (n l h : Int) (w : World) (b : Bool) (hb : decide (l ≤ n ∧ n ≤ h) = b) : Calls Tryd.prog 35 #[.int .i64 n, .int .i64 l, .int .i64 h] w fun e w' => e = .returned (.bool b) ∧ w' = w := hb ▸ within_any n l h w

theorem quo_round (n0 unit mode : Int) (h0 : -9999999999999 ≤ n0 ∧ n0 ≤ 9999999999999) (h1 : 1 ≤ unit ∧ unit ≤ 9999999999999) (r : Int × Bool) (hr : r = M.wh (decide (n0 < 0)) mode n0.natAbs unit.natAbs) :
    Quo n0 1 unit mode (decide (n0 < 0)) (n0.natAbs / 18446744073709551616) (n0.natAbs % 18446744073709551616) unit.natAbs n0.natAbs r where
  a1 := by omega
  a2 := by omega
  n1 := by omega
  n2 := by omega
  d1 := by omega
  d2 := by omega
  hs := by have : ¬ unit < 0 := by omega
           simp [this]
  h1 := by simp
  h2 := by simp
  h3 := rfl
  hp := by simp
  h0 := by omega
  div := fun _ => divides_small _ _ (by omega) (by omega) (by omega)
  hr := hr

set_option maxHeartbeats 2000000 in
theorem round_any (k0 n0 unit mode : Int) (w : World) (hK : Kinds w) (m : Int × Bool) (hm : Hid (m = M.wh (decide (n0 < 0)) mode n0.natAbs unit.natAbs)) (r : Int × Int) (hr : Hid (r = M.ans (M.refuse (takesB k0 8) k0 n0 []) (M.rnd unit mode m.2 (wrap64 (m.1 * unit))))) :
    Calls Tryd.prog 32 #[.agg #[.int .i64 k0, .int .i64 n0], .int .i64 unit, .int .i64 mode] w fun e w' => e = .returned (.agg #[.int .i64 r.1, .int .i64 r.2]) ∧ Below w.heap.size w w' := by
  have hc := refusal_any 8 k0 n0 none 0 [] ((w.alloc (cellsV k0 n0)).alloc (cellsV 0 0)) ((hK.alloc _).alloc _) ⟨by simp, .inl rfl⟩
  cases h1 : M.refuse (takesB k0 8) k0 n0 [] with
  | some v =>
    obtain ⟨x, y⟩ := v
    rw [h1] at hc hr
    dsimp only [M.vk, M.vn, Option.isSome, List.length] at hc
    clear h1
    go_enter Tryd.func32, Tryd.ntmps32
    go_wp2_with (go_at_call 54; refine hc.mono ?_; clear hc; rintro e w1 ⟨rfl, hb1⟩; obtain ⟨-, hR1, hB1⟩ := start1 w k0 n0 hb1; obtain ⟨r0, r1, q0, q1⟩ := hR1.alloc (cellsV x y); clear hb1)
    exact bodyPost_ret (v := .agg #[.int .i64 x, .int .i64 y]) (by simp [results, Tryd.results32, go_sem, r0, r1]) rfl ⟨by rw [hr.out]; rfl, ((hB1.alloc hB1.size _).setCell (by simp) _).setCell (by simp) _⟩
  | none =>
    obtain ⟨t0, v0, -⟩ := M.refuse_none h1
    rw [h1] at hc hr
    dsimp only [M.vk, M.vn, Option.isSome, List.length] at hc
    have hr1 : r = M.rnd unit mode m.2 (wrap64 (m.1 * unit)) := hr
    clear h1 hr
    by_cases hu : 1 ≤ unit ∧ unit ≤ 9999999999999
    · have hun : decide (1 ≤ unit ∧ unit ≤ 9999999999999) = true := decide_eq_true hu
      by_cases hmd : 1 ≤ mode ∧ mode ≤ 5
      · have HR : Hid (r = M.fit m.2 1 (wrap64 (m.1 * unit))) := by unfold Hid; rw [hr1, M.rnd_ok hu hmd]
        rw [takes_8] at t0
        obtain rfl : k0 = 1 := by simpa using t0
        have hq := quo_round n0 unit mode (M.valid_1 v0) hu m hm
        clear hr1 t0 v0 hm hu
        generalize n0.natAbs / 18446744073709551616 = hi at *
        generalize n0.natAbs % 18446744073709551616 = lo at *
        generalize n0.natAbs = p at *
        generalize unit.natAbs = d at *
        generalize decide (n0 < 0) = s at *
        go_enter Tryd.func32, Tryd.ntmps32
        go_wp2_with (first | (go_at_call 54; refine hc.mono ?_; clear hc; rintro e w1 ⟨rfl, hb1⟩; obtain ⟨hX, hR1, hB1⟩ := start1 w 1 n0 hb1; obtain ⟨x0, x1, -, -⟩ := hX.alloc (cellsV 0 0); clear hb1 hX) | (go_at_call 35; refine (within_v _ _ _ _ true hun).mono ?_; rintro e w' ⟨rfl, rfl⟩) | (go_at_call 55; refine (isMode_yes _ _ hmd).mono ?_; rintro e w' ⟨rfl, rfl⟩) | (go_at_call 56; refine (hq.ratio _).mono ?_; rintro e w2 ⟨rfl, hb2⟩; have hR2 := (hR1.alloc _).later hb2; have hK2 := ((hK.later hB1).alloc _).later hb2; have hB2 := below_step (hB1.alloc hB1.size _) hb2; clear hb2) | (go_at_call 57; refine (hq.whole _).mono ?_; rintro e w3 ⟨rfl, hb3⟩; have hR3 := hR2.later hb3; have hK3 := hK2.later hb3; have hB3 := below_step hB2 hb3; clear hb3) | (go_at_call 53; refine (fitting_any _ _ _ _ hK3).mono ?_; rintro e w4 ⟨rfl, hb4⟩; obtain ⟨r0, r1, q0, q1⟩ := hR3.later hb4; have hB4 := below_step hB3 hb4; clear hb4))
        exact bodyPost_ret (v := .agg #[.int .i64 r.1, .int .i64 r.2]) (by rw [HR.out]; simp [results, Tryd.results32, go_sem, r0, r1]) rfl ⟨rfl, (hB4.setCell (by simp) _).setCell (by simp) _⟩
      · have HR : Hid (r = (6, 5)) := by unfold Hid; rw [hr1, M.rnd_no (fun h => hmd h.2)]
        clear hr1 t0 v0 hm hu
        go_enter Tryd.func32, Tryd.ntmps32
        go_wp2_with (first | (go_at_call 54; refine hc.mono ?_; clear hc; rintro e w1 ⟨rfl, hb1⟩; obtain ⟨hX, hR1, hB1⟩ := start1 w k0 n0 hb1; obtain ⟨x0, x1, -, -⟩ := hX.alloc (cellsV 0 0); clear hb1 hX) | (go_at_call 35; refine (within_v _ _ _ _ true hun).mono ?_; rintro e w' ⟨rfl, rfl⟩) | (go_at_call 55; refine (isMode_no _ _ hmd).mono ?_; rintro e w' ⟨rfl, rfl⟩) | (go_at_call 18; refine (fault_any _ _).mono ?_; rintro e w2 ⟨rfl, hb2⟩; obtain ⟨r0, r1, q0, q1⟩ := (hR1.alloc _).later hb2; have hB2 := below_step (hB1.alloc hB1.size _) hb2; clear hb2))
        exact bodyPost_ret (v := .agg #[.int .i64 6, .int .i64 5]) (by simp [results, Tryd.results32, go_sem, r0, r1]) rfl ⟨by rw [HR.out], (hB2.setCell (by simp) _).setCell (by simp) _⟩
    · have hun : decide (1 ≤ unit ∧ unit ≤ 9999999999999) = false := decide_eq_false hu
      have HR : Hid (r = (6, 5)) := by unfold Hid; rw [hr1, M.rnd_no (fun h => hu h.1)]
      clear hr1 t0 v0 hm hu
      go_enter Tryd.func32, Tryd.ntmps32
      go_wp2_with (first | (go_at_call 54; refine hc.mono ?_; clear hc; rintro e w1 ⟨rfl, hb1⟩; obtain ⟨hX, hR1, hB1⟩ := start1 w k0 n0 hb1; obtain ⟨x0, x1, -, -⟩ := hX.alloc (cellsV 0 0); clear hb1 hX) | (go_at_call 35; refine (within_v _ _ _ _ false hun).mono ?_; rintro e w' ⟨rfl, rfl⟩) | (go_at_call 18; refine (fault_any _ _).mono ?_; rintro e w2 ⟨rfl, hb2⟩; obtain ⟨r0, r1, q0, q1⟩ := (hR1.alloc _).later hb2; have hB2 := below_step (hB1.alloc hB1.size _) hb2; clear hb2))
      exact bodyPost_ret (v := .agg #[.int .i64 6, .int .i64 5]) (by simp [results, Tryd.results32, go_sem, r0, r1]) rfl ⟨by rw [HR.out], (hB2.setCell (by simp) _).setCell (by simp) _⟩

end Go.Proofs.YtnmcniibcjjflaaDoor
