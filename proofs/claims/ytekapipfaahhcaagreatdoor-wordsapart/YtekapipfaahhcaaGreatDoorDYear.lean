import Derived.Test.YtekapipfaahhcaaGreatDoorDLast
namespace Go.Proofs.YtekapipfaahhcaaGreatDoor
open Go.RowKit

theorem leaps_any (y : Int) (h0 : 0 ≤ y) (h1 : y ≤ 10000) (w : World) : Calls Tryz.prog 169 #[.int .i64 y] w fun e w' => e = .returned (.int .i64 (y / 4 - y / 100 + y / 400)) ∧ w' = w := by
  obtain ⟨e1, e2, e3⟩ := D.leaps_tdiv y h0
  have e4 : wrap64 (y / 4 - y / 100) = y / 4 - y / 100 := wrap64_id (by omega) (by omega)
  have e5 : wrap64 (y / 4 - y / 100 + y / 400) = y / 4 - y / 100 + y / 400 := wrap64_id (by omega) (by omega)
  go_enter Tryz.func169, Tryz.ntmps169
  go_wp2
  go_ret
  exact ⟨rfl, rfl⟩

theorem yearStart_any (y : Int) (h0 : 1900 ≤ y) (h1 : y ≤ 2200) (w : World) : Calls Tryz.prog 163 #[.int .i64 y] w fun e w' => e = .returned (.int .i64 (D.ys y)) ∧ w' = w := by
  have hy := D.ys_bd y h0 h1
  have e1 : wrap64 (y - 1) = y - 1 := wrap64_id (by omega) (by omega)
  have hA := leaps_any (y - 1) (by omega) (by omega) w
  have hB := leaps_any 1899 (by omega) (by omega) w
  obtain ⟨A, hAe⟩ : ∃ A, A = (y - 1) / 4 - (y - 1) / 100 + (y - 1) / 400 := ⟨_, rfl⟩
  have bA : 0 ≤ A ∧ A ≤ 1000 := by omega
  rw [← hAe] at hA
  have e2 : (1899 : Int) / 4 - 1899 / 100 + 1899 / 400 = 460 := by decide
  rw [e2] at hB
  have hys : D.ys y = (y - 1900) * 365 + A - 460 := by rw [hAe]; rfl
  clear hAe e2
  go_enter Tryz.func163, Tryz.ntmps163
  go_wp2_with (first | (go_at_call 169; refine hA.mono ?_; clear hA; rintro e w' ⟨rfl, rfl⟩) | (go_at_call 169; refine hB.mono ?_; clear hB; rintro e w' ⟨rfl, rfl⟩))
  go_ret
  exact ⟨ret_int (by rw [hys]), rfl⟩

end Go.Proofs.YtekapipfaahhcaaGreatDoor
