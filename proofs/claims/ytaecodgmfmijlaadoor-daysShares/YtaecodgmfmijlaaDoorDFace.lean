import Derived.Test.YtaecodgmfmijlaaDoorDDate
namespace Go.Proofs.YtaecodgmfmijlaaDoor
open Go.RowKit

set_option maxHeartbeats 1000000 in
theorem number_any (y m d : Int) (w : World) (hM : Mon w) (v e : Int) (hv : Hid ((v, e) = D.num y m d)) :
    Calls Tryd.prog 11 #[.int .i64 y, .int .i64 m, .int .i64 d] w fun en w' => en = .returned (.tuple #[.int .i64 v, .int .i64 e]) ∧ Below w.heap.size w w' := by
  have hv := hv.out
  have hL := last_any y m w hM _ rfl
  unfold D.num at hv
  by_cases h1 : d < 1 ∨ D.last y m < d
  · rw [if_pos h1] at hv
    obtain ⟨rfl, rfl⟩ := Prod.mk.inj hv
    clear hv
    by_cases h2 : d < 1
    · clear h1 hL
      go_enter Tryd.func11, Tryd.ntmps11
      go_wp2
      exact bodyPost_ret (v := .tuple #[.int .i64 0, .int .i64 20]) (by simp [results, Tryd.results11, go_sem]) rfl ⟨rfl, Below.refl _ _⟩
    · have h3 : D.last y m < d := by omega
      generalize D.last y m = L at *
      clear h1
      go_enter Tryd.func11, Tryd.ntmps11
      go_wp2_with (go_at_call 12; refine hL.mono ?_; clear hL; rintro e w ⟨rfl, rfl⟩)
      exact bodyPost_ret (v := .tuple #[.int .i64 0, .int .i64 20]) (by simp [results, Tryd.results11, go_sem]) rfl ⟨rfl, Below.refl _ _⟩
  · rw [if_neg h1] at hv
    have h2 : ¬ d < 1 := by omega
    have h3 : d ≤ D.last y m := by omega
    by_cases h4 : y < 1900 ∨ 2199 < y
    · rw [if_pos h4] at hv
      obtain ⟨rfl, rfl⟩ := Prod.mk.inj hv
      have hY := isYear_no y (by omega) w
      generalize D.last y m = L at *
      clear h1 h4 hv
      go_enter Tryd.func11, Tryd.ntmps11
      go_wp2_with (first | (go_at_call 12; refine hL.mono ?_; clear hL; rintro e w ⟨rfl, rfl⟩) | (go_at_call 25; refine hY.mono ?_; clear hY; rintro e w ⟨rfl, rfl⟩))
      exact bodyPost_ret (v := .tuple #[.int .i64 0, .int .i64 21]) (by simp [results, Tryd.results11, go_sem]) rfl ⟨rfl, Below.refl _ _⟩
    · rw [if_neg h4] at hv
      obtain ⟨hv1, rfl⟩ := Prod.mk.inj hv
      have hY := isYear_yes y (by omega) (by omega) w
      have hm : 1 ≤ m ∧ m ≤ 12 := by
        apply Classical.byContradiction
        intro hn
        rw [D.last_no y m (by omega)] at h3
        omega
      have hl := D.last_bd y m hm.1 hm.2
      have hN := numberOf_any y m d (by omega) (by omega) hm.1 hm.2 (by omega) (by omega) w hM
      rw [← hv1] at hN
      generalize D.last y m = L at *
      clear h1 h4 hv hv1
      go_enter Tryd.func11, Tryd.ntmps11
      go_wp2_with (first | (go_at_call 12; refine hL.mono ?_; clear hL; rintro e w ⟨rfl, rfl⟩) | (go_at_call 25; refine hY.mono ?_; clear hY; rintro e w ⟨rfl, rfl⟩) | (go_at_call 26; refine hN.mono ?_; clear hN; rintro e w1 ⟨rfl, hb1⟩))
      exact bodyPost_ret (v := .tuple #[.int .i64 v, .int .i64 0]) (by simp [results, Tryd.results11, go_sem]) rfl ⟨rfl, hb1⟩

set_option maxHeartbeats 1000000 in
theorem date_any (n y m d e : Int) (w : World) (hM : Mon w) (h : Hid (D.Dat n y m d e)) :
    Calls Tryd.prog 24 #[.int .i64 n] w fun en w' => en = .returned (.tuple #[.agg #[.int .i64 y, .int .i64 m, .int .i64 d], .int .i64 e]) ∧ Below w.heap.size w w' := by
  cases h.out with
  | yes k d hk =>
    have n0 := hk.nn
    have hM1 := hM.alloc (.cells #[.int .i64 0, .int .i64 0, .int .i64 0] 33)
    have hD := dateOf_any n k d hk _ hM1
    have hI := isDay_yes n n0.1 n0.2 (w.alloc (.cells #[.int .i64 0, .int .i64 0, .int .i64 0] 33))
    have hX := Box3.new w (.int .i64 0) (.int .i64 0) (.int .i64 0) 33
    generalize 1900 + k / 12 = y at *
    generalize k % 12 + 1 = m at *
    clear hM hM1 h hk n0
    go_enter Tryd.func24, Tryd.ntmps24
    go_wp2_with (first | (go_at_call 29; refine hI.mono ?_; clear hI; rintro e w1 ⟨rfl, rfl⟩) | (go_at_call 22; refine hD.mono ?_; clear hD; rintro e w2 ⟨rfl, hb1⟩; obtain ⟨q0, q1, q2, f0, f1, f2⟩ := hX.later hb1; have hB1 := below_step ((Below.refl _ w).alloc (Nat.le_refl _) _) hb1))
    exact bodyPost_ret (v := .tuple #[.agg #[.int .i64 y, .int .i64 m, .int .i64 (d + 1)], .int .i64 0]) (by simp [results, Tryd.results24, go_sem, q0, q1, q2]) rfl ⟨rfl, ((hB1.setCell (by simp) _).setCell (by simp) _).setCell (by simp) _⟩
  | no hn =>
    have hI := isDay_no n hn (w.alloc (.cells #[.int .i64 0, .int .i64 0, .int .i64 0] 33))
    have hX := Box3.new w (.int .i64 0) (.int .i64 0) (.int .i64 0) 33
    obtain ⟨q0, q1, q2, f0, f1, f2⟩ := id hX
    clear h hn hM
    go_enter Tryd.func24, Tryd.ntmps24
    go_wp2_with (go_at_call 29; refine hI.mono ?_; clear hI; rintro e w1 ⟨rfl, rfl⟩)
    exact bodyPost_ret (v := .tuple #[.agg #[.int .i64 0, .int .i64 0, .int .i64 0], .int .i64 21]) (by simp [results, Tryd.results24, go_sem]) rfl ⟨rfl, (Below.refl _ _).alloc (Nat.le_refl _) _⟩

theorem weekdayOf_any (n : Int) (h0 : 0 ≤ n) (w : World) : Calls Tryd.prog 31 #[.int .i64 n] w fun e w' => e = .returned (.int .i64 (n % 7 + 1)) ∧ w' = w := by
  have e1 : n.tmod 7 = n % 7 := Int.tmod_eq_emod_of_nonneg h0
  have e2 : wrap64 (n % 7 + 1) = n % 7 + 1 := wrap64_id (by omega) (by omega)
  go_enter Tryd.func31, Tryd.ntmps31
  go_wp2
  go_ret
  exact ⟨rfl, rfl⟩

theorem weekday_any (n : Int) (w : World) (v e : Int) (hv : Hid ((v, e) = D.wk n)) :
    Calls Tryd.prog 16 #[.int .i64 n] w fun en w' => en = .returned (.tuple #[.int .i64 v, .int .i64 e]) ∧ w' = w := by
  have hv := hv.out
  unfold D.wk at hv
  by_cases h : 0 ≤ n ∧ n ≤ 109572
  · rw [if_pos h] at hv
    obtain ⟨rfl, rfl⟩ := Prod.mk.inj hv
    have hI := isDay_yes n h.1 h.2 w
    have hW := weekdayOf_any n h.1 w
    generalize n % 7 + 1 = v at *
    clear h hv
    go_enter Tryd.func16, Tryd.ntmps16
    go_wp2_with (first | (go_at_call 29; refine hI.mono ?_; clear hI; rintro e w ⟨rfl, rfl⟩) | (go_at_call 31; refine hW.mono ?_; clear hW; rintro e w ⟨rfl, rfl⟩))
    exact bodyPost_ret (v := .tuple #[.int .i64 v, .int .i64 0]) (by simp [results, Tryd.results16, go_sem]) rfl ⟨rfl, rfl⟩
  · rw [if_neg h] at hv
    obtain ⟨rfl, rfl⟩ := Prod.mk.inj hv
    have hI := isDay_no n h w
    clear h hv
    go_enter Tryd.func16, Tryd.ntmps16
    go_wp2_with (go_at_call 29; refine hI.mono ?_; clear hI; rintro e w ⟨rfl, rfl⟩)
    exact bodyPost_ret (v := .tuple #[.int .i64 0, .int .i64 21]) (by simp [results, Tryd.results16, go_sem]) rfl ⟨rfl, rfl⟩

end Go.Proofs.YtaecodgmfmijlaaDoor
