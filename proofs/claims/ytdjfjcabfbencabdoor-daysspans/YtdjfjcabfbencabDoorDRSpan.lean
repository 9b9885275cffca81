import Derived.Test.YtdjfjcabfbencabDoorDRefFace
import Derived.Test.YtdjfjcabfbencabDoorDPlain3
namespace Go.Proofs.YtdjfjcabfbencabDoor
open Go.RowKit

set_option maxHeartbeats 2000000 in
theorem radd_any (n by' v e : Int) (w : World) (h : Hid (D.AddIs n by' v e)) :
    Calls Tryd.prog 21 #[.int .i64 n, .int .i64 by'] w fun en w' => en = .returned (.tuple #[.int .i64 v, .int .i64 e]) ∧ w' = w := by
  cases h.out with
  | no hn =>
    have hI := is_no n hn w
    clear h hn
    go_enter Tryd.func21, Tryd.ntmps21
    go_wp2_with (go_at_call 35; refine hI.mono ?_; clear hI; rintro _ w ⟨rfl, rfl⟩)
    exact bodyPost_ret (v := .tuple #[.int .i64 0, .int .i64 21]) (by simp [results, Tryd.results21, go_sem]) rfl ⟨rfl, rfl⟩
  | out k d hk ho =>
    have n0 := hk.nn
    have k0 := hk.k0
    have k1 := hk.k1
    have hI := is_yes n n0.1 n0.2 w
    have hD := month_any n k d hk w
    clear h hk n0
    by_cases h1 : by' ≤ -3600
    · clear ho hD
      go_enter Tryd.func21, Tryd.ntmps21
      go_wp2_with (go_at_call 35; refine hI.mono ?_; clear hI; rintro _ w ⟨rfl, rfl⟩)
      exact bodyPost_ret (v := .tuple #[.int .i64 0, .int .i64 21]) (by simp [results, Tryd.results21, go_sem]) rfl ⟨rfl, rfl⟩
    · by_cases h2 : 3600 ≤ by'
      · clear ho hD
        go_enter Tryd.func21, Tryd.ntmps21
        go_wp2_with (go_at_call 35; refine hI.mono ?_; clear hI; rintro _ w ⟨rfl, rfl⟩)
        exact bodyPost_ret (v := .tuple #[.int .i64 0, .int .i64 21]) (by simp [results, Tryd.results21, go_sem]) rfl ⟨rfl, rfl⟩
      · have e1 : wrap64 (k + by') = k + by' := wrap64_id (by omega) (by omega)
        by_cases h3 : k + by' < 0
        · clear ho
          go_enter Tryd.func21, Tryd.ntmps21
          go_wp2_with (first | (go_at_call 35; refine hI.mono ?_; clear hI; rintro _ w ⟨rfl, rfl⟩) | (go_at_call 36; refine hD.mono ?_; clear hD; rintro _ w ⟨rfl, rfl⟩))
          exact bodyPost_ret (v := .tuple #[.int .i64 0, .int .i64 21]) (by simp [results, Tryd.results21, go_sem]) rfl ⟨rfl, rfl⟩
        · have h4 : 3600 ≤ k + by' := by omega
          clear ho
          go_enter Tryd.func21, Tryd.ntmps21
          go_wp2_with (first | (go_at_call 35; refine hI.mono ?_; clear hI; rintro _ w ⟨rfl, rfl⟩) | (go_at_call 36; refine hD.mono ?_; clear hD; rintro _ w ⟨rfl, rfl⟩))
          exact bodyPost_ret (v := .tuple #[.int .i64 0, .int .i64 21]) (by simp [results, Tryd.results21, go_sem]) rfl ⟨rfl, rfl⟩
  | yes k d hk h0 h1 =>
    have n0 := hk.nn
    have k0 := hk.k0
    have k1 := hk.k1
    have d0 := hk.d0
    have d1 := hk.d1
    have hI := is_yes n n0.1 n0.2 w
    have hD := month_any n k d hk w
    have t1 : ¬ by' ≤ -3600 := by omega
    have t2 : ¬ 3600 ≤ by' := by omega
    have t3 : ¬ k + by' < 0 := by omega
    have t4 : ¬ 3600 ≤ k + by' := by omega
    have e1 : wrap64 (k + by') = k + by' := wrap64_id (by omega) (by omega)
    have e2 : wrap64 (k + by' + 1) = k + by' + 1 := wrap64_id (by omega) (by omega)
    have hB := begins_any (k + by') h0 (by omega) w
    have hC := begins_any (k + by' + 1) (by omega) (by omega) w
    have es := D.bg_succ (k + by')
    have l1 := D.ln_bd (k + by')
    have l2 := D.ln_bd k
    have b0 := D.bg_mono h0
    have b1 := D.bg_mono (j := k + by') (k := 3600) (by omega)
    rw [D.bg_0] at b0
    rw [D.bg_end] at b1
    have hv : Hid (D.addv k d by' = if D.bg (k + by' + 1) ≤ D.bg (k + by') + d then D.bg (k + by' + 1) - 1 else D.bg (k + by') + d) := by
      unfold Hid D.addv
      split <;> split <;> omega
    generalize D.addv k d by' = V at *
    generalize D.bg (k + by' + 1) = N at *
    generalize D.bg (k + by') = B at *
    generalize D.ln (k + by') = L at *
    have e3 : wrap64 (B + d) = B + d := wrap64_id (by omega) (by omega)
    have e4 : wrap64 (N - 1) = N - 1 := wrap64_id (by omega) (by omega)
    clear h hk n0 es
    have tok : True := trivial
    by_cases c : N ≤ B + d
    · have hV := hv.out
      rw [if_pos c] at hV
      clear hv
      subst hV
      go_enter Tryd.func21, Tryd.ntmps21
      go_wp2_with (first | (go_at_call 35; refine hI.mono ?_; clear hI; rintro _ w ⟨rfl, rfl⟩) | (go_at_call 36; refine hD.mono ?_; clear hD; rintro _ w ⟨rfl, rfl⟩) | (go_at_call 32; have _u := tok; clear tok; refine hB.mono ?_; clear hB; rintro _ w ⟨rfl, rfl⟩) | (go_at_call 32; refine hC.mono ?_; clear hC; rintro _ w ⟨rfl, rfl⟩))
      exact bodyPost_ret (v := .tuple #[.int .i64 (N - 1), .int .i64 0]) (by simp [results, Tryd.results21, go_sem, e4]) rfl ⟨rfl, rfl⟩
    · have hV := hv.out
      rw [if_neg c] at hV
      clear hv
      subst hV
      go_enter Tryd.func21, Tryd.ntmps21
      go_wp2_with (first | (go_at_call 35; refine hI.mono ?_; clear hI; rintro _ w ⟨rfl, rfl⟩) | (go_at_call 36; refine hD.mono ?_; clear hD; rintro _ w ⟨rfl, rfl⟩) | (go_at_call 32; have _u := tok; clear tok; refine hB.mono ?_; clear hB; rintro _ w ⟨rfl, rfl⟩) | (go_at_call 32; refine hC.mono ?_; clear hC; rintro _ w ⟨rfl, rfl⟩))
      exact bodyPost_ret (v := .tuple #[.int .i64 (B + d), .int .i64 0]) (by simp [results, Tryd.results21, go_sem]) rfl ⟨rfl, rfl⟩

set_option maxHeartbeats 2000000 in
theorem rbetween_le (a b k1 d1 k2 d2 : Int) (h1 : D.At a k1 d1) (h2 : D.At b k2 d2) (hl : a ≤ b) (w : World) :
    Calls Tryd.prog 23 #[.int .i64 a, .int .i64 b] w fun en w' => en = .returned (.tuple #[.int .i64 (D.whole k1 d1 k2 b), .int .i64 0]) ∧ w' = w := by
  have a0 := h1.k0
  have a1 := h1.k1
  have b0 := h2.k0
  have b1 := h2.k1
  have hk := h1.le h2 hl
  have hI := is_yes a h1.nn.1 h1.nn.2 w
  have hJ := is_yes b h2.nn.1 h2.nn.2 w
  have hD := month_any a k1 d1 h1 w
  have hE := month_any b k2 d2 h2 w
  have hA : Hid (D.AddIs a (k2 - k1) (D.addv k1 d1 (k2 - k1)) 0) := .yes k1 d1 h1 (by omega) (by omega)
  have c0 : ¬ b < a := by omega
  have e1 : wrap64 (k2 - k1) = k2 - k1 := wrap64_id (by omega) (by omega)
  have e2 : wrap64 (k2 - k1 - 1) = k2 - k1 - 1 := wrap64_id (by omega) (by omega)
  have hW : D.whole k1 d1 k2 b = if b < D.addv k1 d1 (k2 - k1) then k2 - k1 - 1 else k2 - k1 := rfl
  generalize D.addv k1 d1 (k2 - k1) = V at *
  generalize D.whole k1 d1 k2 b = R at *
  clear h1 h2
  by_cases c : b < V
  · rw [if_pos c] at hW
    subst hW
    go_enter Tryd.func23, Tryd.ntmps23
    go_wp2_with (first | (go_at_call 35; refine hI.mono ?_; clear hI; rintro _ w ⟨rfl, rfl⟩) | (go_at_call 35; refine hJ.mono ?_; clear hJ; rintro _ w ⟨rfl, rfl⟩) | (go_at_call 36; refine hD.mono ?_; clear hD; rintro _ w ⟨rfl, rfl⟩) | (go_at_call 36; refine hE.mono ?_; clear hE; rintro _ w ⟨rfl, rfl⟩) | (go_at_call 21; refine (radd_any a (k2 - k1) V 0 _ hA).mono ?_; rintro _ w ⟨rfl, rfl⟩))
    exact bodyPost_ret (v := .tuple #[.int .i64 (k2 - k1 - 1), .int .i64 0]) (by simp [results, Tryd.results23, go_sem]) rfl ⟨rfl, rfl⟩
  · rw [if_neg c] at hW
    subst hW
    go_enter Tryd.func23, Tryd.ntmps23
    go_wp2_with (first | (go_at_call 35; refine hI.mono ?_; clear hI; rintro _ w ⟨rfl, rfl⟩) | (go_at_call 35; refine hJ.mono ?_; clear hJ; rintro _ w ⟨rfl, rfl⟩) | (go_at_call 36; refine hD.mono ?_; clear hD; rintro _ w ⟨rfl, rfl⟩) | (go_at_call 36; refine hE.mono ?_; clear hE; rintro _ w ⟨rfl, rfl⟩) | (go_at_call 21; refine (radd_any a (k2 - k1) V 0 _ hA).mono ?_; rintro _ w ⟨rfl, rfl⟩))
    exact bodyPost_ret (v := .tuple #[.int .i64 (k2 - k1), .int .i64 0]) (by simp [results, Tryd.results23, go_sem]) rfl ⟨rfl, rfl⟩

set_option maxHeartbeats 2000000 in
theorem rbetween_any (a b v e : Int) (w : World) (h : Hid (D.BetIs a b v e)) :
    Calls Tryd.prog 23 #[.int .i64 a, .int .i64 b] w fun en w' => en = .returned (.tuple #[.int .i64 v, .int .i64 e]) ∧ w' = w := by
  cases h.out with
  | no hn =>
    have hI := is_any a w
    have hJ := is_any b w
    by_cases ha : 0 ≤ a ∧ a ≤ 109572
    · have hb : ¬ (0 ≤ b ∧ b ≤ 109572) := fun hb => hn ⟨ha, hb⟩
      rw [decide_eq_true ha] at hI
      rw [decide_eq_false hb] at hJ
      clear h hn ha hb
      go_enter Tryd.func23, Tryd.ntmps23
      go_wp2_with (first | (go_at_call 35; refine hI.mono ?_; clear hI; rintro _ w ⟨rfl, rfl⟩) | (go_at_call 35; refine hJ.mono ?_; clear hJ; rintro _ w ⟨rfl, rfl⟩))
      exact bodyPost_ret (v := .tuple #[.int .i64 0, .int .i64 21]) (by simp [results, Tryd.results23, go_sem]) rfl ⟨rfl, rfl⟩
    · rw [decide_eq_false ha] at hI
      generalize decide (0 ≤ b ∧ b ≤ 109572) = q at *
      clear h hn ha
      go_enter Tryd.func23, Tryd.ntmps23
      go_wp2_with (first | (go_at_call 35; refine hI.mono ?_; clear hI; rintro _ w ⟨rfl, rfl⟩) | (go_at_call 35; refine hJ.mono ?_; clear hJ; rintro _ w ⟨rfl, rfl⟩))
      exact bodyPost_ret (v := .tuple #[.int .i64 0, .int .i64 21]) (by simp [results, Tryd.results23, go_sem]) rfl ⟨rfl, rfl⟩
  | le k1 d1 k2 d2 h1 h2 hl => exact rbetween_le a b k1 d1 k2 d2 h1 h2 hl w
  | gt k1 d1 k2 d2 h1 h2 hl =>
    have hI := is_yes a h1.nn.1 h1.nn.2 w
    have hJ := is_yes b h2.nn.1 h2.nn.2 w
    have hW := rbetween_le b a k2 d2 k1 d1 h2 h1 (by omega) w
    have hR := D.whole_bd h2 h1 (by omega)
    generalize D.whole k2 d2 k1 a = R at *
    have e1 : wrap64 (-R) = -R := wrap64_id (by omega) (by omega)
    clear h h1 h2
    go_enter Tryd.func23, Tryd.ntmps23
    go_wp2_with (first | (go_at_call 35; refine hI.mono ?_; clear hI; rintro _ w ⟨rfl, rfl⟩) | (go_at_call 35; refine hJ.mono ?_; clear hJ; rintro _ w ⟨rfl, rfl⟩) | (go_at_call 23; refine hW.mono ?_; clear hW; rintro _ w ⟨rfl, rfl⟩))
    exact bodyPost_ret (v := .tuple #[.int .i64 (-R), .int .i64 0]) (by simp [results, Tryd.results23, go_sem]) rfl ⟨rfl, rfl⟩

end Go.Proofs.YtdjfjcabfbencabDoor
