import Derived.Test.YtekapipfaahhcaaGreatDoorDIs
import Derived.Test.YtekapipfaahhcaaGreatDoorDRef
namespace Go.Proofs.YtekapipfaahhcaaGreatDoor
open Go.RowKit

set_option maxHeartbeats 1000000 in
theorem rnumber_any (y m d : Int) (w : World) (v e : Int) (hv : Hid ((v, e) = D.num y m d)) :
    Calls Tryz.prog 142 #[.int .i64 y, .int .i64 m, .int .i64 d] w fun en w' => en = .returned (.tuple #[.int .i64 v, .int .i64 e]) ∧ w' = w := by
  have hv := hv.out
  have hL := rlast_any y m w _ rfl
  unfold D.num at hv
  by_cases h1 : d < 1 ∨ D.last y m < d
  · rw [if_pos h1] at hv
    obtain ⟨rfl, rfl⟩ := Prod.mk.inj hv
    clear hv
    generalize D.last y m = L at *
    by_cases h2 : d < 1
    · clear h1
      go_enter Tryz.func142, Tryz.ntmps142
      go_wp2_with (go_at_call 152; refine hL.mono ?_; clear hL; rintro e w ⟨rfl, rfl⟩)
      exact bodyPost_ret (v := .tuple #[.int .i64 0, .int .i64 20]) (by simp [results, Tryz.results142, go_sem]) rfl ⟨rfl, rfl⟩
    · have h3 : L < d := by omega
      clear h1
      go_enter Tryz.func142, Tryz.ntmps142
      go_wp2_with (go_at_call 152; refine hL.mono ?_; clear hL; rintro e w ⟨rfl, rfl⟩)
      exact bodyPost_ret (v := .tuple #[.int .i64 0, .int .i64 20]) (by simp [results, Tryz.results142, go_sem]) rfl ⟨rfl, rfl⟩
  · rw [if_neg h1] at hv
    have h2 : ¬ d < 1 := by omega
    have h3 : d ≤ D.last y m := by omega
    by_cases h4 : y < 1900 ∨ 2199 < y
    · rw [if_pos h4] at hv
      obtain ⟨rfl, rfl⟩ := Prod.mk.inj hv
      generalize D.last y m = L at *
      clear h1 hv
      by_cases h5 : y < 1900
      · clear h4
        go_enter Tryz.func142, Tryz.ntmps142
        go_wp2_with (go_at_call 152; refine hL.mono ?_; clear hL; rintro e w ⟨rfl, rfl⟩)
        exact bodyPost_ret (v := .tuple #[.int .i64 0, .int .i64 21]) (by simp [results, Tryz.results142, go_sem]) rfl ⟨rfl, rfl⟩
      · have h6 : 2199 < y := by omega
        clear h4
        go_enter Tryz.func142, Tryz.ntmps142
        go_wp2_with (go_at_call 152; refine hL.mono ?_; clear hL; rintro e w ⟨rfl, rfl⟩)
        exact bodyPost_ret (v := .tuple #[.int .i64 0, .int .i64 21]) (by simp [results, Tryz.results142, go_sem]) rfl ⟨rfl, rfl⟩
    · rw [if_neg h4] at hv
      obtain ⟨hv1, rfl⟩ := Prod.mk.inj hv
      have hm : 1 ≤ m ∧ m ≤ 12 := by
        apply Classical.byContradiction
        intro hn
        rw [D.last_no y m (by omega)] at h3
        omega
      have hl := D.last_bd y m hm.1 hm.2
      have hy0 : ¬ y < 1900 := by omega
      have hy1 : y ≤ 2199 := by omega
      have hbg := D.bg_ym (y := y) hm.1 hm.2
      have hB := begins_any (12 * (y - 1900) + m - 1) (by omega) (by omega) w
      have bb := D.ys_bd y (by omega) (by omega)
      have bm := D.ms_bd y m (by omega) (by omega)
      have e1 : wrap64 (y - 1900) = y - 1900 := wrap64_id (by omega) (by omega)
      have e2 : wrap64 (12 * (y - 1900)) = 12 * (y - 1900) := wrap64_id (by omega) (by omega)
      have e3 : wrap64 (12 * (y - 1900) + m) = 12 * (y - 1900) + m := wrap64_id (by omega) (by omega)
      have e4 : wrap64 (12 * (y - 1900) + m - 1) = 12 * (y - 1900) + m - 1 := wrap64_id (by omega) (by omega)
      generalize D.bg (12 * (y - 1900) + m - 1) = B at *
      have e5 : wrap64 (B + d) = B + d := wrap64_id (by omega) (by omega)
      have e6 : wrap64 (B + d - 1) = B + d - 1 := wrap64_id (by omega) (by omega)
      have ev : v = B + d - 1 := by omega
      subst ev
      generalize D.last y m = L at *
      clear h1 h4 hv hv1 hbg
      go_enter Tryz.func142, Tryz.ntmps142
      go_wp2_with (first | (go_at_call 152; refine hL.mono ?_; clear hL; rintro e w ⟨rfl, rfl⟩) | (go_at_call 153; refine hB.mono ?_; clear hB; rintro e w ⟨rfl, rfl⟩))
      exact bodyPost_ret (v := .tuple #[.int .i64 (B + d - 1), .int .i64 0]) (by simp [results, Tryz.results142, go_sem, e6]) rfl ⟨rfl, rfl⟩



end Go.Proofs.YtekapipfaahhcaaGreatDoor
