import Derived.Test.YtdjfjcabfbencabDoorDRef
namespace Go.Proofs.YtdjfjcabfbencabDoor
open Go.RowKit

theorem is_any (n : Int) (w : World) : Calls Tryd.prog 35 #[.int .i64 n] w fun e w' => e = .returned (.bool (decide (0 ≤ n ∧ n ≤ 109572))) ∧ w' = w := by
  by_cases h : 0 ≤ n
  · go_enter Tryd.func35, Tryd.ntmps35
    go_wp2
    go_ret
    exact ⟨by simp [h], rfl⟩
  · go_enter Tryd.func35, Tryd.ntmps35
    go_wp2
    go_ret
    exact ⟨ret_bool (by simp; omega), rfl⟩
theorem is_yes (n : Int) (h0 : 0 ≤ n) (h1 : n ≤ 109572) (w : World) : Calls Tryd.prog 35 #[.int .i64 n] w fun e w' => e = .returned (.bool true) ∧ w' = w := by
  have := is_any n w
  rwa [decide_eq_true ⟨h0, h1⟩] at this
theorem is_no (n : Int) (h : ¬ (0 ≤ n ∧ n ≤ 109572)) (w : World) : Calls Tryd.prog 35 #[.int .i64 n] w fun e w' => e = .returned (.bool false) ∧ w' = w := by
  have := is_any n w
  rwa [decide_eq_false h] at this

set_option maxHeartbeats 1000000 in
theorem rnumber_any (y m d : Int) (w : World) (v e : Int) (hv : Hid ((v, e) = D.num y m d)) :
    Calls Tryd.prog 11 #[.int .i64 y, .int .i64 m, .int .i64 d] w fun en w' => en = .returned (.tuple #[.int .i64 v, .int .i64 e]) ∧ w' = w := by
  have hv := hv.out
  have hL := rlast_any y m w _ rfl
  unfold D.num at hv
  by_cases h1 : d < 1 ∨ D.last y m < d
  · rw [if_pos h1] at hv
    obtain ⟨rfl, rfl⟩ := Prod.mk.inj hv
    clear hv
    generalize D.last y m = L at *
    by_cases h2 : d < 1
    · clear h1
      go_enter Tryd.func11, Tryd.ntmps11
      go_wp2_with (go_at_call 9; refine hL.mono ?_; clear hL; rintro e w ⟨rfl, rfl⟩)
      exact bodyPost_ret (v := .tuple #[.int .i64 0, .int .i64 20]) (by simp [results, Tryd.results11, go_sem]) rfl ⟨rfl, rfl⟩
    · have h3 : L < d := by omega
      clear h1
      go_enter Tryd.func11, Tryd.ntmps11
      go_wp2_with (go_at_call 9; refine hL.mono ?_; clear hL; rintro e w ⟨rfl, rfl⟩)
      exact bodyPost_ret (v := .tuple #[.int .i64 0, .int .i64 20]) (by simp [results, Tryd.results11, go_sem]) rfl ⟨rfl, rfl⟩
  · rw [if_neg h1] at hv
    have h2 : ¬ d < 1 := by omega
    have h3 : d ≤ D.last y m := by omega
    by_cases h4 : y < 1900 ∨ 2199 < y
    · rw [if_pos h4] at hv
      obtain ⟨rfl, rfl⟩ := Prod.mk.inj hv
      generalize D.last y m = L at *
      clear h1 hv
      by_cases h5 : y < 1900
      · clear h4
        go_enter Tryd.func11, Tryd.ntmps11
        go_wp2_with (go_at_call 9; refine hL.mono ?_; clear hL; rintro e w ⟨rfl, rfl⟩)
        exact bodyPost_ret (v := .tuple #[.int .i64 0, .int .i64 21]) (by simp [results, Tryd.results11, go_sem]) rfl ⟨rfl, rfl⟩
      · have h6 : 2199 < y := by omega
        clear h4
        go_enter Tryd.func11, Tryd.ntmps11
        go_wp2_with (go_at_call 9; refine hL.mono ?_; clear hL; rintro e w ⟨rfl, rfl⟩)
        exact bodyPost_ret (v := .tuple #[.int .i64 0, .int .i64 21]) (by simp [results, Tryd.results11, go_sem]) rfl ⟨rfl, rfl⟩
    · rw [if_neg h4] at hv
      obtain ⟨hv1, rfl⟩ := Prod.mk.inj hv
      have hm : 1 ≤ m ∧ m ≤ 12 := by
        apply Classical.byContradiction
        intro hn
        rw [D.last_no y m (by omega)] at h3
        omega
      have hl := D.last_bd y m hm.1 hm.2
      have hy0 : ¬ y < 1900 := by omega
      have hy1 : y ≤ 2199 := by omega
      have hbg := D.bg_ym (y := y) hm.1 hm.2
      have hB := begins_any (12 * (y - 1900) + m - 1) (by omega) (by omega) w
      have bb := D.ys_bd y (by omega) (by omega)
      have bm := D.ms_bd y m (by omega) (by omega)
      have e1 : wrap64 (y - 1900) = y - 1900 := wrap64_id (by omega) (by omega)
      have e2 : wrap64 (12 * (y - 1900)) = 12 * (y - 1900) := wrap64_id (by omega) (by omega)
      have e3 : wrap64 (12 * (y - 1900) + m) = 12 * (y - 1900) + m := wrap64_id (by omega) (by omega)
      have e4 : wrap64 (12 * (y - 1900) + m - 1) = 12 * (y - 1900) + m - 1 := wrap64_id (by omega) (by omega)
      generalize D.bg (12 * (y - 1900) + m - 1) = B at *
      have e5 : wrap64 (B + d) = B + d := wrap64_id (by omega) (by omega)
      have e6 : wrap64 (B + d - 1) = B + d - 1 := wrap64_id (by omega) (by omega)
      have ev : v = B + d - 1 := by omega
      subst ev
      generalize D.last y m = L at *
      clear h1 h4 hv hv1 hbg
      go_enter Tryd.func11, Tryd.ntmps11
      go_wp2_with (first | (go_at_call 9; refine hL.mono ?_; clear hL; rintro e w ⟨rfl, rfl⟩) | (go_at_call 32; refine hB.mono ?_; clear hB; rintro e w ⟨rfl, rfl⟩))
      exact bodyPost_ret (v := .tuple #[.int .i64 (B + d - 1), .int .i64 0]) (by simp [results, Tryd.results11, go_sem, e6]) rfl ⟨rfl, rfl⟩

set_option maxHeartbeats 1000000 in
theorem rdate_any (n y m d e : Int) (w : World) (h : Hid (D.Dat n y m d e)) :
    Calls Tryd.prog 13 #[.int .i64 n] w fun en w' => en = .returned (.tuple #[.int .i64 y, .int .i64 m, .int .i64 d, .int .i64 e]) ∧ w' = w := by
  cases h.out with
  | yes k d hk =>
    have n0 := hk.nn
    have k0 := hk.k0
    have k1 := hk.k1
    have d0 := hk.d0
    have d1 := hk.d1
    have hl := D.ln_bd k
    have hD := month_any n k d hk w
    have hI := is_yes n n0.1 n0.2 w
    have e1 : k.tdiv 12 = k / 12 := Int.tdiv_eq_ediv_of_nonneg k0
    have e2 : k.tmod 12 = k % 12 := Int.tmod_eq_emod_of_nonneg k0
    have e3 : wrap64 (1900 + k / 12) = 1900 + k / 12 := wrap64_id (by omega) (by omega)
    have e4 : wrap64 (k % 12 + 1) = k % 12 + 1 := wrap64_id (by omega) (by omega)
    have e5 : wrap64 (d + 1) = d + 1 := wrap64_id (by omega) (by omega)
    clear h hk n0 d1 hl
    go_enter Tryd.func13, Tryd.ntmps13
    go_wp2_with (first | (go_at_call 35; refine hI.mono ?_; clear hI; rintro e w ⟨rfl, rfl⟩) | (go_at_call 36; refine hD.mono ?_; clear hD; rintro e w ⟨rfl, rfl⟩))
    exact bodyPost_ret (v := .tuple #[.int .i64 (1900 + k / 12), .int .i64 (k % 12 + 1), .int .i64 (d + 1), .int .i64 0]) (by simp [results, Tryd.results13, go_sem, e5]) rfl ⟨rfl, rfl⟩
  | no hn =>
    have hI := is_no n hn w
    clear h hn
    go_enter Tryd.func13, Tryd.ntmps13
    go_wp2_with (go_at_call 35; refine hI.mono ?_; clear hI; rintro e w1 ⟨rfl, rfl⟩)
    exact bodyPost_ret (v := .tuple #[.int .i64 0, .int .i64 0, .int .i64 0, .int .i64 21]) (by simp [results, Tryd.results13, go_sem]) rfl ⟨rfl, rfl⟩

theorem rweekday_any (n : Int) (w : World) (v e : Int) (hv : Hid ((v, e) = D.wk n)) :
    Calls Tryd.prog 15 #[.int .i64 n] w fun en w' => en = .returned (.tuple #[.int .i64 v, .int .i64 e]) ∧ w' = w := by
  have hv := hv.out
  unfold D.wk at hv
  by_cases h : 0 ≤ n ∧ n ≤ 109572
  · rw [if_pos h] at hv
    obtain ⟨rfl, rfl⟩ := Prod.mk.inj hv
    have hI := is_yes n h.1 h.2 w
    have e1 : n.tmod 7 = n % 7 := Int.tmod_eq_emod_of_nonneg h.1
    have e2 : wrap64 (n % 7 + 1) = n % 7 + 1 := wrap64_id (by omega) (by omega)
    clear h hv
    go_enter Tryd.func15, Tryd.ntmps15
    go_wp2_with (go_at_call 35; refine hI.mono ?_; clear hI; rintro e w ⟨rfl, rfl⟩)
    exact bodyPost_ret (v := .tuple #[.int .i64 (n % 7 + 1), .int .i64 0]) (by simp [results, Tryd.results15, go_sem]) rfl ⟨rfl, rfl⟩
  · rw [if_neg h] at hv
    obtain ⟨rfl, rfl⟩ := Prod.mk.inj hv
    have hI := is_no n h w
    clear h hv
    go_enter Tryd.func15, Tryd.ntmps15
    go_wp2_with (go_at_call 35; refine hI.mono ?_; clear hI; rintro e w ⟨rfl, rfl⟩)
    exact bodyPost_ret (v := .tuple #[.int .i64 0, .int .i64 21]) (by simp [results, Tryd.results15, go_sem]) rfl ⟨rfl, rfl⟩

end Go.Proofs.YtdjfjcabfbencabDoor
