import Derived.Test.YtekapipfaahhcaaGreatDoorDDate
namespace Go.Proofs.YtekapipfaahhcaaGreatDoor
open Go.RowKit

set_option maxHeartbeats 1000000 in
theorem number_any (y m d : Int) (w : World) (hM : Mon w) (v e : Int) (hv : Hid ((v, e) = D.num y m d)) :
    Calls Tryz.prog 147 #[.int .i64 y, .int .i64 m, .int .i64 d] w fun en w' => en = .returned (.tuple #[.int .i64 v, .int .i64 e]) ∧ Below w.heap.size w w' := by
  have hv := hv.out
  have hL := last_any y m w hM _ rfl
  unfold D.num at hv
  by_cases h1 : d < 1 ∨ D.last y m < d
  · rw [if_pos h1] at hv
    obtain ⟨rfl, rfl⟩ := Prod.mk.inj hv
    clear hv
    by_cases h2 : d < 1
    · clear h1 hL
      go_enter Tryz.func147, Tryz.ntmps147
      go_wp2
      exact bodyPost_ret (v := .tuple #[.int .i64 0, .int .i64 20]) (by simp [results, Tryz.results147, go_sem]) rfl ⟨rfl, Below.refl _ _⟩
    · have h3 : D.last y m < d := by omega
      generalize D.last y m = L at *
      clear h1
      go_enter Tryz.func147, Tryz.ntmps147
      go_wp2_with (go_at_call 155; refine hL.mono ?_; clear hL; rintro e w ⟨rfl, rfl⟩)
      exact bodyPost_ret (v := .tuple #[.int .i64 0, .int .i64 20]) (by simp [results, Tryz.results147, go_sem]) rfl ⟨rfl, Below.refl _ _⟩
  · rw [if_neg h1] at hv
    have h2 : ¬ d < 1 := by omega
    have h3 : d ≤ D.last y m := by omega
    by_cases h4 : y < 1900 ∨ 2199 < y
    · rw [if_pos h4] at hv
      obtain ⟨rfl, rfl⟩ := Prod.mk.inj hv
      have hY := isYear_no y (by omega) w
      generalize D.last y m = L at *
      clear h1 h4 hv
      go_enter Tryz.func147, Tryz.ntmps147
      go_wp2_with (first | (go_at_call 155; refine hL.mono ?_; clear hL; rintro e w ⟨rfl, rfl⟩) | (go_at_call 156; refine hY.mono ?_; clear hY; rintro e w ⟨rfl, rfl⟩))
      exact bodyPost_ret (v := .tuple #[.int .i64 0, .int .i64 21]) (by simp [results, Tryz.results147, go_sem]) rfl ⟨rfl, Below.refl _ _⟩
    · rw [if_neg h4] at hv
      obtain ⟨hv1, rfl⟩ := Prod.mk.inj hv
      have hY := isYear_yes y (by omega) (by omega) w
      have hm : 1 ≤ m ∧ m ≤ 12 := by
        apply Classical.byContradiction
        intro hn
        rw [D.last_no y m (by omega)] at h3
        omega
      have hl := D.last_bd y m hm.1 hm.2
      have hN := numberOf_any y m d (by omega) (by omega) hm.1 hm.2 (by omega) (by omega) w hM
      rw [← hv1] at hN
      generalize D.last y m = L at *
      clear h1 h4 hv hv1
      go_enter Tryz.func147, Tryz.ntmps147
      go_wp2_with (first | (go_at_call 155; refine hL.mono ?_; clear hL; rintro e w ⟨rfl, rfl⟩) | (go_at_call 156; refine hY.mono ?_; clear hY; rintro e w ⟨rfl, rfl⟩) | (go_at_call 157; refine hN.mono ?_; clear hN; rintro e w1 ⟨rfl, hb1⟩))
      exact bodyPost_ret (v := .tuple #[.int .i64 v, .int .i64 0]) (by simp [results, Tryz.results147, go_sem]) rfl ⟨rfl, hb1⟩



end Go.Proofs.YtekapipfaahhcaaGreatDoor
