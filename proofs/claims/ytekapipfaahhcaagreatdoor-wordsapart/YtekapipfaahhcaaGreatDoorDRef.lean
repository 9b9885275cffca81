import Derived.Test.YtekapipfaahhcaaGreatDoorDNumber
namespace Go.Proofs.YtekapipfaahhcaaGreatDoor
open Go.RowKit

theorem rleap_any (y : Int) (w : World) : Calls Tryz.prog 161 #[.int .i64 y] w fun e w' => e = .returned (.bool (D.leap y)) ∧ w' = w := by
  rw [D.leap_tmod]
  by_cases h4 : y.tmod 4 = 0
  · by_cases h100 : y.tmod 100 = 0
    · go_enter Tryz.func161, Tryz.ntmps161
      go_wp2
      go_ret
      exact ⟨ret_bool (by rw [Bool.eq_iff_iff]; simp [h4, h100]), rfl⟩
    · go_enter Tryz.func161, Tryz.ntmps161
      go_wp2
      go_ret
      exact ⟨by simp [h4, h100], rfl⟩
  · go_enter Tryz.func161, Tryz.ntmps161
    go_wp2
    go_ret
    exact ⟨by simp [h4], rfl⟩

theorem rlast_any (y m : Int) (w : World) (L : Int) (hL : L = D.last y m) : Calls Tryz.prog 152 #[.int .i64 y, .int .i64 m] w fun e w' => e = .returned (.int .i64 L) ∧ w' = w := by
  by_cases h : 1 ≤ m ∧ m ≤ 12
  · have hm : m = 1 ∨ m = 2 ∨ m = 3 ∨ m = 4 ∨ m = 5 ∨ m = 6 ∨ m = 7 ∨ m = 8 ∨ m = 9 ∨ m = 10 ∨ m = 11 ∨ m = 12 := by omega
    clear h
    have hl := rleap_any y w
    cases hb : D.leap y with
    | true =>
      have hv : D.lv y = 1 := by rw [D.lv_leap, hb]; rfl
      rw [hb] at hl
      rcases hm with rfl | rfl | rfl | rfl | rfl | rfl | rfl | rfl | rfl | rfl | rfl | rfl
      all_goals
        simp [D.last, hv] at hL
        subst hL
        go_enter Tryz.func152, Tryz.ntmps152
        go_wp2_with (go_at_call 161; refine hl.mono ?_; rintro e w' ⟨rfl, rfl⟩)
        go_ret
        exact ⟨rfl, rfl⟩
    | false =>
      have hv : D.lv y = 0 := by rw [D.lv_leap, hb]; rfl
      rw [hb] at hl
      rcases hm with rfl | rfl | rfl | rfl | rfl | rfl | rfl | rfl | rfl | rfl | rfl | rfl
      all_goals
        simp [D.last, hv] at hL
        subst hL
        go_enter Tryz.func152, Tryz.ntmps152
        go_wp2_with (go_at_call 161; refine hl.mono ?_; rintro e w' ⟨rfl, rfl⟩)
        go_ret
        exact ⟨rfl, rfl⟩
  · rw [hL, D.last_no y m (by omega)]
    have h1 : (m == 1) = false := by simp; omega
    have h2 : (m == 2) = false := by simp; omega
    have h3 : (m == 3) = false := by simp; omega
    have h4 : (m == 4) = false := by simp; omega
    have h5 : (m == 5) = false := by simp; omega
    have h6 : (m == 6) = false := by simp; omega
    have h7 : (m == 7) = false := by simp; omega
    have h8 : (m == 8) = false := by simp; omega
    have h9 : (m == 9) = false := by simp; omega
    have h10 : (m == 10) = false := by simp; omega
    have h11 : (m == 11) = false := by simp; omega
    have h12 : (m == 12) = false := by simp; omega
    clear h hL
    go_enter Tryz.func152, Tryz.ntmps152
    go_wp2
    go_ret
    exact ⟨rfl, rfl⟩

set_option maxHeartbeats 1000000 in
theorem begins_any (k : Int) (h0 : 0 ≤ k) (h1 : k ≤ 3600) (w : World) :
    Calls Tryz.prog 153 #[.int .i64 k] w fun e w' => e = .returned (.int .i64 (D.bg k)) ∧ w' = w := by
  have e1 : k.tdiv 12 = k / 12 := Int.tdiv_eq_ediv_of_nonneg h0
  obtain ⟨q, hq⟩ : ∃ q, q = k / 12 := ⟨_, rfl⟩
  have q0 : 0 ≤ q := by omega
  have q1 : q ≤ 300 := by omega
  have hk0 : 12 * q ≤ k := by omega
  have hk1 : k < 12 * q + 12 := by omega
  rw [← hq] at e1
  clear hq
  obtain ⟨W, hW⟩ : ∃ W, W = w := ⟨_, rfl⟩
  rw [← hW]
  clear hW
  go_enter Tryz.func153, Tryz.ntmps153
  go_wp2
  go_loopw [3, 4] (fun v x wr => ∃ z : Int, x = .int .i64 z ∧ 0 ≤ z ∧ z ≤ q ∧ v = .int .i64 (D.ys (1900 + z)) ∧ wr = W) (fun _ x _ => (q - intOf x).toNat)
  case atStart => exact ⟨0, rfl, by omega, by omega, congrArg (Value.int .i64) (by decide), rfl⟩
  case round =>
    obtain ⟨z, rfl, z0, z1, rfl, rfl⟩ := hrel
    by_cases hz : z = q
    · subst hz
      have e2 : wrap64 (12 * z) = 12 * z := wrap64_id (by omega) (by omega)
      go_wp2
      obtain ⟨W1, hW1⟩ : ∃ W1, W1 = wr := ⟨_, rfl⟩
      go_loopw [3, 6] (fun v x wr => ∃ i : Int, x = .int .i64 i ∧ 12 * z ≤ i ∧ i ≤ k ∧ v = .int .i64 (D.bg i) ∧ wr = W1) (fun _ x _ => (k - intOf x).toNat)
      case atStart => exact ⟨12 * z, rfl, by omega, by omega, by rw [D.bg_year], hW1.symm⟩
      case round =>
        obtain ⟨i, rfl, i0, i1, rfl, hW2⟩ := hrel
        subst hW1
        subst hW2
        by_cases hi : i = k
        · subst hi
          go_wp2
          go_ret
          exact ⟨rfl, rfl⟩
        · have hlt : i < k := by omega
          have e3 : i.tmod 12 = i % 12 := Int.tmod_eq_emod_of_nonneg (by omega)
          have e4 : wrap64 (i % 12 + 1) = i % 12 + 1 := wrap64_id (by omega) (by omega)
          have e5 : wrap64 (1900 + z) = 1900 + z := wrap64_id (by omega) (by omega)
          have e6 : i / 12 = z := by omega
          have es := D.bg_succ i
          have bl := D.ln_bd i
          have b0 := D.bg_mono (j := 0) (k := i) (by omega)
          have b1 := D.bg_mono (j := i) (k := 3600) (by omega)
          rw [D.bg_0] at b0
          rw [D.bg_end] at b1
          have hL := rlast_any (1900 + z) (i % 12 + 1) wr (D.ln i) (by unfold D.ln; rw [e6])
          have e7 : wrap64 (D.bg i + D.ln i) = D.bg i + D.ln i := wrap64_id (by omega) (by omega)
          have e8 : wrap64 (i + 1) = i + 1 := wrap64_id (by omega) (by omega)
          go_wp2_with (go_at_call 152; refine hL.mono ?_; clear hL; rintro e wr ⟨rfl, rfl⟩)
          go_roundw
          case rel => exact ⟨i + 1, rfl, by omega, by omega, by rw [es], trivial⟩
          case measure => simp [intOf]; omega
    · have hlt : z < q := by omega
      have e2 : wrap64 (1900 + z) = 1900 + z := wrap64_id (by omega) (by omega)
      have es := D.ys_succ (1900 + z)
      have bz := D.ys_bd (1900 + z) (by omega) (by omega)
      have hl := rleap_any (1900 + z) wr
      have hv := D.lv_leap (1900 + z)
      have e3 : wrap64 (D.ys (1900 + z) + 365) = D.ys (1900 + z) + 365 := wrap64_id (by omega) (by omega)
      have e4 : wrap64 (D.ys (1900 + z) + 365 + 1) = D.ys (1900 + z) + 365 + 1 := wrap64_id (by omega) (by omega)
      have e5 : wrap64 (z + 1) = z + 1 := wrap64_id (by omega) (by omega)
      have e6 : 1900 + (z + 1) = 1900 + z + 1 := by omega
      cases hb : D.leap (1900 + z) with
      | true =>
        rw [hb] at hl hv
        simp only [if_pos] at hv
        have er : D.ys (1900 + (z + 1)) = D.ys (1900 + z) + 365 + 1 := by rw [e6, es, hv]
        clear e6 es hb hv
        go_wp2_with (go_at_call 161; refine hl.mono ?_; clear hl; rintro e wr ⟨rfl, rfl⟩)
        go_roundw
        case rel => exact ⟨z + 1, rfl, by omega, by omega, by rw [er], trivial⟩
        case measure => simp [intOf]; omega
      | false =>
        rw [hb] at hl hv
        rw [if_neg (by simp)] at hv
        have er : D.ys (1900 + (z + 1)) = D.ys (1900 + z) + 365 := by rw [e6, es, hv]; omega
        clear e6 es hb hv
        go_wp2_with (go_at_call 161; refine hl.mono ?_; clear hl; rintro e wr ⟨rfl, rfl⟩)
        go_roundw
        case rel => exact ⟨z + 1, rfl, by omega, by omega, by rw [er], trivial⟩
        case measure => simp [intOf]; omega


end Go.Proofs.YtekapipfaahhcaaGreatDoor
