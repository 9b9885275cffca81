import Derived.Test.YtoippgmecnlhcaaGreatDoorJoin7
namespace Go.Proofs.YtoippgmecnlhcaaGreatDoor
open Go.RowKit

set_option maxHeartbeats 2000000 in
theorem dateOf_any (n k d : Int) (h : D.At n k d) (w : World) (hM : Mon w) :
    Calls Tryz.prog 68 #[.int .i64 n] w fun e w' => e = .returned (.agg #[.int .i64 (1900 + k / 12), .int .i64 (k % 12 + 1), .int .i64 (d + 1)]) ∧ Below w.heap.size w w' := by
  obtain ⟨n0, n1⟩ := h.nn
  obtain ⟨y0, y1⟩ := h.year
  have hr := h.rest
  have k0 := h.k0
  have k1 := h.k1
  obtain ⟨Y, hY⟩ : ∃ Y, Y = 1900 + k / 12 := ⟨_, rfl⟩
  obtain ⟨m, hm⟩ : ∃ m, m = k % 12 + 1 := ⟨_, rfl⟩
  have dL : d < D.last Y m := by rw [hY, hm]; exact h.d1
  have d0 := h.d0
  rw [← hY] at y0 y1 hr ⊢
  rw [← hm] at hr ⊢
  have hg := D.guess n0 y1
  have Y0 : 1900 ≤ Y := by omega
  have Y1 : Y ≤ 2199 := by omega
  have m0 : 1 ≤ m := by omega
  have m1 : m ≤ 12 := by omega
  clear h hY hm k0 k1
  have e1 : n.tdiv 366 = n / 366 := Int.tdiv_eq_ediv_of_nonneg n0
  have e2 : wrap64 (1900 + n / 366) = 1900 + n / 366 := wrap64_id (by omega) (by omega)
  have hM0 := hM.alloc (.cells #[.int .i64 0, .int .i64 0, .int .i64 0] 144)
  obtain ⟨W0, hW0⟩ : ∃ W0, W0 = w.alloc (.cells #[.int .i64 0, .int .i64 0, .int .i64 0] 144) := ⟨_, rfl⟩
  have hB0 : Below w.heap.size w W0 := by rw [hW0]; exact (Below.refl _ _).alloc (Nat.le_refl _) _
  have hX := Box3.new w (.int .i64 0) (.int .i64 0) (.int .i64 0) 144
  rw [← hW0] at hX hM0
  obtain ⟨q0, q1, q2, f0, f1, f2⟩ := id hX
  go_enter Tryz.func68, Tryz.ntmps68
  go_wp2
  rw [← hW0]
  clear hW0
  go_loopw [3] (fun x wr => ∃ z : Int, x = .int .i64 z ∧ 1900 ≤ z ∧ z ≤ Y ∧ wr = W0) (fun x _ => (Y - intOf x).toNat)
  case atStart => exact ⟨_, rfl, by omega, hg, rfl⟩
  case round =>
    obtain ⟨z, rfl, z0, z1, rfl⟩ := hrel
    have e3 : wrap64 (z + 1) = z + 1 := wrap64_id (by omega) (by omega)
    have hS := yearStart_any (z + 1) (by omega) (by omega) wr
    by_cases hz : z = Y
    · subst hz
      have hS2 := yearStart_any z (by omega) (by omega) wr
      have t1 : ¬ D.ys (z + 1) ≤ n := by omega
      have by' := D.ys_bd z Y0 (by omega)
      have e4 : wrap64 (n - D.ys z) = n - D.ys z := wrap64_id (by omega) (by omega)
      have tok : True := trivial
      go_wp2_with (first | (go_at_call 90; have _u := tok; clear tok; refine hS.mono ?_; clear hS; rintro e wr ⟨rfl, rfl⟩) | (go_at_call 90; refine hS2.mono ?_; clear hS2; rintro e wr ⟨rfl, rfl⟩))
      obtain ⟨W1, hW1⟩ : ∃ W1, W1 = wr := ⟨_, rfl⟩
      go_loopw [4, 5] (fun v x wr => ∃ j : Int, x = .int .i64 j ∧ 1 ≤ j ∧ j ≤ m ∧ v = .int .i64 (n - D.ys z - D.ms z j) ∧ wr = W1) (fun _ x _ => (m - intOf x).toNat)
      case atStart => exact ⟨1, rfl, by omega, by omega, by rw [D.ms_1]; simp, hW1.symm⟩
      case round =>
        obtain ⟨j, rfl, j0, j1, rfl, hW2⟩ := hrel
        subst hW1
        subst hW2
        have hL := last_any z j wr hM0 _ rfl
        have hL2 := last_any z j wr hM0 _ rfl
        have bl := D.last_bd z j j0 (by omega)
        by_cases hj : j = m
        · subst hj
          have t2 : ¬ D.last z j ≤ n - D.ys z - D.ms z j := by omega
          have e5 : wrap64 (d + 1) = d + 1 := wrap64_id (by omega) (by omega)
          rw [hr] at *
          go_wp2_with (go_at_call 91; refine hL.mono ?_; clear hL; rintro e wr ⟨rfl, rfl⟩)
          exact bodyPost_ret (v := .agg #[.int .i64 z, .int .i64 j, .int .i64 (d + 1)]) (by simp [results, Tryz.results68, go_sem, q0, q1, q2]) rfl ⟨rfl, ((hB0.setCell (by simp) _).setCell (by simp) _).setCell (by simp) _⟩
        · have es := D.ms_succ z j j0 (by omega)
          have le := D.ms_le z (j + 1) m (by omega) (by omega) (by omega)
          have bj := D.ms_bd z j j0 (by omega)
          have t2 : D.last z j ≤ n - D.ys z - D.ms z j := by omega
          have e5 : wrap64 (n - D.ys z - D.ms z j - D.last z j) = n - D.ys z - D.ms z j - D.last z j := wrap64_id (by omega) (by omega)
          have e6 : wrap64 (j + 1) = j + 1 := wrap64_id (by omega) (by omega)
          go_wp2_with (first | (go_at_call 91; refine hL.mono ?_; clear hL; rintro e wr ⟨rfl, rfl⟩) | (go_at_call 91; refine hL2.mono ?_; clear hL2; rintro e wr ⟨rfl, rfl⟩))
          go_roundw
          case rel => exact ⟨j + 1, rfl, by omega, by omega, congrArg (Value.int .i64) (by omega), trivial⟩
          case measure => simp [intOf]; omega
    · have le := D.ys_le (y := z + 1) (z := Y) (by omega)
      have t1 : D.ys (z + 1) ≤ n := by omega
      go_wp2_with (go_at_call 90; refine hS.mono ?_; clear hS; rintro e wr ⟨rfl, rfl⟩)
      go_roundw
      case rel => exact ⟨z + 1, rfl, by omega, by omega, trivial⟩
      case measure => simp [intOf]; omega

end Go.Proofs.YtoippgmecnlhcaaGreatDoor


namespace Go.Proofs.YtoippgmecnlhcaaGreatDoor
open Go.RowKit

set_option maxHeartbeats 1000000 in
theorem number_any (y m d : Int) (w : World) (hM : Mon w) (v e : Int) (hv : Hid ((v, e) = D.num y m d)) :
    Calls Tryz.prog 94 #[.int .i64 y, .int .i64 m, .int .i64 d] w fun en w' => en = .returned (.tuple #[.int .i64 v, .int .i64 e]) ∧ Below w.heap.size w w' := by
  have hv := hv.out
  have hL := last_any y m w hM _ rfl
  unfold D.num at hv
  by_cases h1 : d < 1 ∨ D.last y m < d
  · rw [if_pos h1] at hv
    obtain ⟨rfl, rfl⟩ := Prod.mk.inj hv
    clear hv
    by_cases h2 : d < 1
    · clear h1 hL
      go_enter Tryz.func94, Tryz.ntmps94
      go_wp2
      exact bodyPost_ret (v := .tuple #[.int .i64 0, .int .i64 20]) (by simp [results, Tryz.results94, go_sem]) rfl ⟨rfl, Below.refl _ _⟩
    · have h3 : D.last y m < d := by omega
      generalize D.last y m = L at *
      clear h1
      go_enter Tryz.func94, Tryz.ntmps94
      go_wp2_with (go_at_call 91; refine hL.mono ?_; clear hL; rintro e w ⟨rfl, rfl⟩)
      exact bodyPost_ret (v := .tuple #[.int .i64 0, .int .i64 20]) (by simp [results, Tryz.results94, go_sem]) rfl ⟨rfl, Below.refl _ _⟩
  · rw [if_neg h1] at hv
    have h2 : ¬ d < 1 := by omega
    have h3 : d ≤ D.last y m := by omega
    by_cases h4 : y < 1900 ∨ 2199 < y
    · rw [if_pos h4] at hv
      obtain ⟨rfl, rfl⟩ := Prod.mk.inj hv
      have hY := isYear_no y (by omega) w
      generalize D.last y m = L at *
      clear h1 h4 hv
      go_enter Tryz.func94, Tryz.ntmps94
      go_wp2_with (first | (go_at_call 91; refine hL.mono ?_; clear hL; rintro e w ⟨rfl, rfl⟩) | (go_at_call 123; refine hY.mono ?_; clear hY; rintro e w ⟨rfl, rfl⟩))
      exact bodyPost_ret (v := .tuple #[.int .i64 0, .int .i64 21]) (by simp [results, Tryz.results94, go_sem]) rfl ⟨rfl, Below.refl _ _⟩
    · rw [if_neg h4] at hv
      obtain ⟨hv1, rfl⟩ := Prod.mk.inj hv
      have hY := isYear_yes y (by omega) (by omega) w
      have hm : 1 ≤ m ∧ m ≤ 12 := by
        apply Classical.byContradiction
        intro hn
        rw [D.last_no y m (by omega)] at h3
        omega
      have hl := D.last_bd y m hm.1 hm.2
      have hN := numberOf_any y m d (by omega) (by omega) hm.1 hm.2 (by omega) (by omega) w hM
      rw [← hv1] at hN
      generalize D.last y m = L at *
      clear h1 h4 hv hv1
      go_enter Tryz.func94, Tryz.ntmps94
      go_wp2_with (first | (go_at_call 91; refine hL.mono ?_; clear hL; rintro e w ⟨rfl, rfl⟩) | (go_at_call 123; refine hY.mono ?_; clear hY; rintro e w ⟨rfl, rfl⟩) | (go_at_call 124; refine hN.mono ?_; clear hN; rintro e w1 ⟨rfl, hb1⟩))
      exact bodyPost_ret (v := .tuple #[.int .i64 v, .int .i64 0]) (by simp [results, Tryz.results94, go_sem]) rfl ⟨rfl, hb1⟩



end Go.Proofs.YtoippgmecnlhcaaGreatDoor
