import Derived.Test.YtnmcniibcjjflaaDoorJoin9
import Derived.Test.YtnmcniibcjjflaaDoorJoin6
namespace Go.Proofs.YtnmcniibcjjflaaDoor
open Go.RowKit

theorem rwithin_v (n l h : Int) (w : World) (b : Bool) (hb : decide (l ≤ n ∧ n ≤ h) = b) : Calls Tryd.prog 50 #[.int .i64 n, .int .i64 l, .int .i64 h] w fun e w' => e = .returned (.bool b) ∧ w' = w := hb ▸ rwithin_any n l h w

set_option maxHeartbeats 1000000 in
theorem rround_some (k0 n0 unit mode : Int) (w : World) (x y : Int) (h1 : M.mish [(k0, n0)] = some (x, y)) :
    Calls Tryd.prog 46 #[.agg #[.int .i64 k0, .int .i64 n0], .int .i64 unit, .int .i64 mode] w fun e w' => e = .returned (.agg #[.int .i64 x, .int .i64 y]) ∧ Below w.heap.size w w' := by
  have hlook := looked_any (some ⟨w.heap.size + 1 + 1, 0, none⟩) 1 [(k0, n0)] (((w.alloc (cellsV k0 n0)).alloc (cellsV 0 0)).alloc (cellsV k0 n0)) ((row_one _ k0 n0).of (by simp)).vals
  rw [h1] at hlook
  dsimp only [M.vk, M.vn, Option.isSome, List.length] at hlook
  clear h1
  go_enter Tryd.func46, Tryd.ntmps46
  go_wp2_with (go_at_call 64; refine hlook.mono ?_; clear hlook; rintro e w1 ⟨rfl, hb1⟩; obtain ⟨-, hR1, hB1⟩ := start1 w k0 n0 (over_alloc _ hb1); obtain ⟨r0, r1, q0, q1⟩ := hR1.alloc (cellsV x y); clear hb1)
  exact bodyPost_ret (v := .agg #[.int .i64 x, .int .i64 y]) (by simp [results, Tryd.results46, go_sem, r0, r1]) rfl ⟨rfl, ((hB1.alloc hB1.size _).setCell (by simp) _).setCell (by simp) _⟩

set_option maxHeartbeats 1000000 in
theorem rround_k0 (k0 n0 unit mode : Int) (w : World) (h1 : M.mish [(k0, n0)] = none) (c1 : (k0 != 1) = true) :
    Calls Tryd.prog 46 #[.agg #[.int .i64 k0, .int .i64 n0], .int .i64 unit, .int .i64 mode] w fun e w' => e = .returned (.agg #[.int .i64 6, .int .i64 5]) ∧ Below w.heap.size w w' := by
  have hlook := looked_any (some ⟨w.heap.size + 1 + 1, 0, none⟩) 1 [(k0, n0)] (((w.alloc (cellsV k0 n0)).alloc (cellsV 0 0)).alloc (cellsV k0 n0)) ((row_one _ k0 n0).of (by simp)).vals
  rw [h1] at hlook
  dsimp only [M.vk, M.vn, Option.isSome, List.length] at hlook
  clear h1
  go_enter Tryd.func46, Tryd.ntmps46
  go_wp2_with (first | (go_at_call 64; refine hlook.mono ?_; clear hlook; rintro e w1 ⟨rfl, hb1⟩; obtain ⟨hX, hR1, hB1⟩ := start1 w k0 n0 (over_alloc _ hb1); obtain ⟨x0, x1, -, -⟩ := hX.alloc (cellsV 0 0); clear hb1) | (go_at_call 14; refine (bad_any _ _).mono ?_; rintro e w3 ⟨rfl, hb3⟩; have hb3' := over_alloc _ hb3; obtain ⟨s0, s1, t0, t1⟩ := hR1.later hb3'; have hB3 := below_step hB1 hb3'; clear hb3 hb3'))
  exact bodyPost_ret (v := .agg #[.int .i64 6, .int .i64 5]) (by simp [results, Tryd.results46, go_sem, s0, s1]) rfl ⟨rfl, (hB3.setCell (by simp) _).setCell (by simp) _⟩

set_option maxHeartbeats 1000000 in
theorem rround_unit (n0 unit mode : Int) (w : World) (h1 : M.mish [(1, n0)] = none) (hun : decide (1 ≤ unit ∧ unit ≤ 9999999999999) = false) :
    Calls Tryd.prog 46 #[.agg #[.int .i64 1, .int .i64 n0], .int .i64 unit, .int .i64 mode] w fun e w' => e = .returned (.agg #[.int .i64 6, .int .i64 5]) ∧ Below w.heap.size w w' := by
  have hlook := looked_any (some ⟨w.heap.size + 1 + 1, 0, none⟩) 1 [(1, n0)] (((w.alloc (cellsV 1 n0)).alloc (cellsV 0 0)).alloc (cellsV 1 n0)) ((row_one _ 1 n0).of (by simp)).vals
  rw [h1] at hlook
  dsimp only [M.vk, M.vn, Option.isSome, List.length] at hlook
  clear h1
  go_enter Tryd.func46, Tryd.ntmps46
  go_wp2_with (first | (go_at_call 64; refine hlook.mono ?_; clear hlook; rintro e w1 ⟨rfl, hb1⟩; obtain ⟨hX, hR1, hB1⟩ := start1 w 1 n0 (over_alloc _ hb1); obtain ⟨x0, x1, -, -⟩ := hX.alloc (cellsV 0 0); clear hb1) | (go_at_call 50; refine (rwithin_v _ _ _ _ false hun).mono ?_; rintro e w' ⟨rfl, rfl⟩) | (go_at_call 14; refine (bad_any _ _).mono ?_; rintro e w3 ⟨rfl, hb3⟩; have hb3' := over_alloc _ hb3; obtain ⟨s0, s1, t0, t1⟩ := hR1.later hb3'; have hB3 := below_step hB1 hb3'; clear hb3 hb3'))
  exact bodyPost_ret (v := .agg #[.int .i64 6, .int .i64 5]) (by simp [results, Tryd.results46, go_sem, s0, s1]) rfl ⟨rfl, (hB3.setCell (by simp) _).setCell (by simp) _⟩

set_option maxHeartbeats 1000000 in
theorem rround_mode (n0 unit mode : Int) (w : World) (h1 : M.mish [(1, n0)] = none) (hun : decide (1 ≤ unit ∧ unit ≤ 9999999999999) = true) (hmd : ¬ (1 ≤ mode ∧ mode ≤ 5)) :
    Calls Tryd.prog 46 #[.agg #[.int .i64 1, .int .i64 n0], .int .i64 unit, .int .i64 mode] w fun e w' => e = .returned (.agg #[.int .i64 6, .int .i64 5]) ∧ Below w.heap.size w w' := by
  have hlook := looked_any (some ⟨w.heap.size + 1 + 1, 0, none⟩) 1 [(1, n0)] (((w.alloc (cellsV 1 n0)).alloc (cellsV 0 0)).alloc (cellsV 1 n0)) ((row_one _ 1 n0).of (by simp)).vals
  rw [h1] at hlook
  dsimp only [M.vk, M.vn, Option.isSome, List.length] at hlook
  clear h1
  go_enter Tryd.func46, Tryd.ntmps46
  go_wp2_with (first | (go_at_call 64; refine hlook.mono ?_; clear hlook; rintro e w1 ⟨rfl, hb1⟩; obtain ⟨hX, hR1, hB1⟩ := start1 w 1 n0 (over_alloc _ hb1); obtain ⟨x0, x1, -, -⟩ := hX.alloc (cellsV 0 0); clear hb1) | (go_at_call 50; refine (rwithin_v _ _ _ _ true hun).mono ?_; rintro e w' ⟨rfl, rfl⟩) | (go_at_call 65; refine (risMode_no _ _ hmd).mono ?_; rintro e w' ⟨rfl, rfl⟩) | (go_at_call 14; refine (bad_any _ _).mono ?_; rintro e w3 ⟨rfl, hb3⟩; have hb3' := over_alloc _ hb3; obtain ⟨s0, s1, t0, t1⟩ := hR1.later hb3'; have hB3 := below_step hB1 hb3'; clear hb3 hb3'))
  exact bodyPost_ret (v := .agg #[.int .i64 6, .int .i64 5]) (by simp [results, Tryd.results46, go_sem, s0, s1]) rfl ⟨rfl, (hB3.setCell (by simp) _).setCell (by simp) _⟩

set_option maxHeartbeats 4000000 in
theorem rround_ok (n0 unit mode : Int) (w : World) (h1 : M.mish [(1, n0)] = none) (hu1 : 1 ≤ unit) (hu2 : unit ≤ 9999999999999) (hmd : 1 ≤ mode ∧ mode ≤ 5) (u1 : -9999999999999 ≤ n0) (u2 : n0 ≤ 9999999999999)
    (s : Bool) (hs : Hid (s = decide (n0 < 0))) (r : Int × Int) (hr : Hid (r = M.fit true 1 (wrap64 (M.sgn s (M.rq s mode (M.cap14 (n0.natAbs / unit.natAbs)) (n0.natAbs % unit.natAbs) unit.natAbs) * unit)))) :
    Calls Tryd.prog 46 #[.agg #[.int .i64 1, .int .i64 n0], .int .i64 unit, .int .i64 mode] w fun e w' => e = .returned (.agg #[.int .i64 r.1, .int .i64 r.2]) ∧ Below w.heap.size w w' := by
  have hlook := looked_any (some ⟨w.heap.size + 1 + 1, 0, none⟩) 1 [(1, n0)] (((w.alloc (cellsV 1 n0)).alloc (cellsV 0 0)).alloc (cellsV 1 n0)) ((row_one _ 1 n0).of (by simp)).vals
  rw [h1] at hlook
  dsimp only [M.vk, M.vn, Option.isSome, List.length] at hlook
  clear h1
  have hun : decide (1 ≤ unit ∧ unit ≤ 9999999999999) = true := decide_eq_true ⟨hu1, hu2⟩
  obtain ⟨a0, ha0⟩ : ∃ a : Nat, Hid (a = n0.natAbs) := ⟨_, rfl⟩
  obtain ⟨d, hd⟩ : ∃ d : Nat, unit = d := ⟨unit.natAbs, by omega⟩
  subst hd
  have l0 : a0 < 10000000000000000 := by have := ha0.out; omega
  have l1 : d ≤ 10000000000000 := by omega
  have l2 : 0 < d := by omega
  obtain ⟨v, hv⟩ : ∃ v, Hid (v = M.sgn s (M.rq s mode (M.cap14 (a0 / d)) (a0 % d) d)) := ⟨_, rfl⟩
  have HR : Hid (r = M.fit true 1 (wrap64 (v * (d : Int)))) := by unfold Hid; rw [hr.out, hv.out, ha0.out]; simp
  have hv2 : Hid (v = M.sgn s (M.rq s mode (M.cap14 (M.val (M.digs a0) / d)) (M.val (M.digs a0) % d) d)) := by unfold Hid; rw [M.val_digs]; exact hv.out
  clear hr hv
  by_cases g0 : n0 < 0
  · obtain rfl : s = true := by rw [hs.out]; simp [g0]
    clear hs
    go_enter Tryd.func46, Tryd.ntmps46
    go_wp2_with (first | (go_at_call 64; refine hlook.mono ?_; clear hlook; rintro e w1 ⟨rfl, hb1⟩; obtain ⟨hX, hR1, hB1⟩ := start1 w 1 n0 (over_alloc _ hb1); obtain ⟨x0, x1, -, -⟩ := hX.alloc (cellsV 0 0); clear hb1) | (go_at_call 50; refine (rwithin_v _ _ _ _ true hun).mono ?_; rintro e w' ⟨rfl, rfl⟩) | (go_at_call 65; refine (risMode_yes _ _ hmd).mono ?_; rintro e w' ⟨rfl, rfl⟩))
    have hS : (w1.alloc (cellsV 0 0)).drew.cell? ⟨w.heap.size, 1, none⟩ = some (.int .i64 n0) ∧ Box (w1.alloc (cellsV 0 0)).drew (w.heap.size + 1) (.int .i64 0) (.int .i64 0) ∧ Below w.heap.size w (w1.alloc (cellsV 0 0)).drew := ⟨x1, (hR1.alloc _).drew, (hB1.alloc hB1.size _).drew⟩
    clear x0 x1 hX hR1 hB1
    go_region_held3 (fun X => X.cell? ⟨w.heap.size, 1, none⟩ = some (.int .i64 n0) ∧ Box X (w.heap.size + 1) (.int .i64 0) (.int .i64 0) ∧ Below w.heap.size w X) (first | with_reducible exact hS | with_reducible exact hS2)
      (first | (go_at_call 68; refine (rsize_v n0 a0 ha0 _ u1 u2).mono ?_; rintro e w' ⟨rfl, rfl⟩) | (go_at_call 67; refine (heldR1 (w0 := w) (b0 := w.heap.size) (b2 := w.heap.size + 1) (x0 := .int .i64 n0) ?_ (digits_any a0 l0 _) (fun _ _ ⟨_, _, _, _, h⟩ => h)).mono ?_; with_reducible exact hS; rintro e w2 ⟨⟨p0, c0, rfl, hD0, hb2⟩, hS2⟩) | (go_at_call 69; refine (rounded_any p0 c0 (M.digs a0) d true mode l2 l1 (Nat.le_trans (M.digs_len 16 a0 l0) (by omega)) (M.digs_getD a0) _ hD0 v hv2).mono ?_; rintro e w' ⟨rfl, rfl⟩))
    obtain ⟨z1, hR4, hB4⟩ := hS2
    clear hS hD0 hb2
    go_wp2_with (go_at_call 16; refine (bounded_any _ _ _).mono ?_; rintro e w5 ⟨rfl, hb5⟩; obtain ⟨r0, r1, q0, q1⟩ := hR4.later hb5; have hB5 := below_step hB4 hb5; clear hb5)
    exact bodyPost_ret (v := .agg #[.int .i64 r.1, .int .i64 r.2]) (by rw [HR.out]; simp [results, Tryd.results46, go_sem, r0, r1]) rfl ⟨rfl, (hB5.setCell (by simp) _).setCell (by simp) _⟩
  · obtain rfl : s = false := by rw [hs.out]; simp [g0]
    clear hs
    have g0' : decide (n0 < 0) = false := by simpa using g0
    go_enter Tryd.func46, Tryd.ntmps46
    go_wp2_with (first | (go_at_call 64; refine hlook.mono ?_; clear hlook; rintro e w1 ⟨rfl, hb1⟩; obtain ⟨hX, hR1, hB1⟩ := start1 w 1 n0 (over_alloc _ hb1); obtain ⟨x0, x1, -, -⟩ := hX.alloc (cellsV 0 0); clear hb1) | (go_at_call 50; refine (rwithin_v _ _ _ _ true hun).mono ?_; rintro e w' ⟨rfl, rfl⟩) | (go_at_call 65; refine (risMode_yes _ _ hmd).mono ?_; rintro e w' ⟨rfl, rfl⟩))
    have hS : (w1.alloc (cellsV 0 0)).drew.cell? ⟨w.heap.size, 1, none⟩ = some (.int .i64 n0) ∧ Box (w1.alloc (cellsV 0 0)).drew (w.heap.size + 1) (.int .i64 0) (.int .i64 0) ∧ Below w.heap.size w (w1.alloc (cellsV 0 0)).drew := ⟨x1, (hR1.alloc _).drew, (hB1.alloc hB1.size _).drew⟩
    clear x0 x1 hX hR1 hB1
    go_region_held3 (fun X => X.cell? ⟨w.heap.size, 1, none⟩ = some (.int .i64 n0) ∧ Box X (w.heap.size + 1) (.int .i64 0) (.int .i64 0) ∧ Below w.heap.size w X) (first | with_reducible exact hS | with_reducible exact hS2)
      (first | (go_at_call 68; refine (rsize_v n0 a0 ha0 _ u1 u2).mono ?_; rintro e w' ⟨rfl, rfl⟩) | (go_at_call 67; refine (heldR1 (w0 := w) (b0 := w.heap.size) (b2 := w.heap.size + 1) (x0 := .int .i64 n0) ?_ (digits_any a0 l0 _) (fun _ _ ⟨_, _, _, _, h⟩ => h)).mono ?_; with_reducible exact hS; rintro e w2 ⟨⟨p0, c0, rfl, hD0, hb2⟩, hS2⟩) | (go_at_call 69; refine (rounded_any p0 c0 (M.digs a0) d false mode l2 l1 (Nat.le_trans (M.digs_len 16 a0 l0) (by omega)) (M.digs_getD a0) _ hD0 v hv2).mono ?_; rintro e w' ⟨rfl, rfl⟩))
    obtain ⟨z1, hR4, hB4⟩ := hS2
    clear hS hD0 hb2
    go_wp2_with (go_at_call 16; refine (bounded_any _ _ _).mono ?_; rintro e w5 ⟨rfl, hb5⟩; obtain ⟨r0, r1, q0, q1⟩ := hR4.later hb5; have hB5 := below_step hB4 hb5; clear hb5)
    exact bodyPost_ret (v := .agg #[.int .i64 r.1, .int .i64 r.2]) (by rw [HR.out]; simp [results, Tryd.results46, go_sem, r0, r1]) rfl ⟨rfl, (hB5.setCell (by simp) _).setCell (by simp) _⟩

end Go.Proofs.YtnmcniibcjjflaaDoor


namespace Go.Proofs.YtnmcniibcjjflaaDoor
open Go.RowKit

theorem refuse_one_some {t : Bool} {k n x y : Int} (h : M.mish [(k, n)] = some (x, y)) : M.refuse t k n [] = some (x, y) := M.refuse_some_any h
theorem refuse_one {t : Bool} {k n : Int} (h : M.mish [(k, n)] = none) : M.refuse t k n [] = if t = true then none else some (6, 5) := by
  unfold M.refuse
  rw [h]
  cases t <;> rfl

theorem rround_any (k0 n0 unit mode : Int) (w : World) (m : Int × Bool) (hm : Hid (m = M.wh (decide (n0 < 0)) mode n0.natAbs unit.natAbs)) (r : Int × Int) (hr : Hid (r = M.ans (M.refuse (takesB k0 8) k0 n0 []) (M.rnd unit mode m.2 (wrap64 (m.1 * unit))))) :
    Calls Tryd.prog 46 #[.agg #[.int .i64 k0, .int .i64 n0], .int .i64 unit, .int .i64 mode] w fun e w' => e = .returned (.agg #[.int .i64 r.1, .int .i64 r.2]) ∧ Below w.heap.size w w' := by
  cases h1 : M.mish [(k0, n0)] with
  | some v =>
    have e2 : r = (v.1, v.2) := by rw [hr.out, refuse_one_some (x := v.1) (y := v.2) h1]; rfl
    rw [e2]
    exact rround_some k0 n0 unit mode w v.1 v.2 h1
  | none =>
    by_cases hk : k0 = 1
    · subst hk
      have e3 : r = M.rnd unit mode m.2 (wrap64 (m.1 * unit)) := by rw [hr.out, refuse_one h1]; rfl
      have v0 := M.valid_1 (M.mish_none h1 (1, n0) (by simp)).1
      by_cases hu : 1 ≤ unit ∧ unit ≤ 9999999999999
      · by_cases hmd : 1 ≤ mode ∧ mode ≤ 5
        · refine rround_ok n0 unit mode w h1 hu.1 hu.2 hmd v0.1 v0.2 _ rfl r ?_
          have hs : n0.natAbs / unit.natAbs ≤ 9999999999999 := Nat.le_trans (Nat.div_le_self _ _) (by omega)
          unfold Hid
          rw [e3, M.rnd_ok hu hmd, hm.out, M.wh_small hs]
        · rw [e3, M.rnd_no (fun h => hmd h.2)]
          exact rround_mode n0 unit mode w h1 (decide_eq_true hu) hmd
      · rw [e3, M.rnd_no (fun h => hu h.1)]
        exact rround_unit n0 unit mode w h1 (decide_eq_false hu)
    · have e2 : r = (6, 5) := by
        rw [hr.out, refuse_one h1, takes_8, if_neg (by simpa using hk)]
        rfl
      rw [e2]
      exact rround_k0 k0 n0 unit mode w h1 (by simpa using hk)

end Go.Proofs.YtnmcniibcjjflaaDoor
