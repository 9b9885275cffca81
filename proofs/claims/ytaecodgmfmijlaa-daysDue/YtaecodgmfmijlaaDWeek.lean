import Derived.Test.YtaecodgmfmijlaaProg
import Derived.Test.YtaecodgmfmijlaaDPlain
import Derived.WalkKit
import Derived.WalkSpells
import Derived.WalkLawsBesides
import Derived.Deep.QuietTactic
import Derived.BigQuiet
namespace Go.Proofs.Ytaecodgmfmijlaa
open Go.RowKit

theorem wrap64_id {z : Int} (h1 : -9000000000000000000 ≤ z) (h2 : z ≤ 9000000000000000000) : wrap64 z = z := by unfold wrap64; omega
theorem ret_bool {a b : Bool} (h : a = b) : Ending.returned (.bool a) = .returned (.bool b) := by rw [h]
theorem ret_int {a b : Int} (h : a = b) : Ending.returned (.int .i64 a) = .returned (.int .i64 b) := by rw [h]

theorem isDay_any (n : Int) (w : World) : Calls Try.prog 8 #[.int .i64 n] w fun e w' => e = .returned (.bool (decide (0 ≤ n ∧ n ≤ 109572))) ∧ w' = w := by
  by_cases h : 0 ≤ n
  · go_enter Try.func8, Try.ntmps8
    go_wp2
    go_ret
    exact ⟨by simp [h], rfl⟩
  · go_enter Try.func8, Try.ntmps8
    go_wp2
    go_ret
    exact ⟨ret_bool (by simp; omega), rfl⟩
theorem isDay_yes (n : Int) (h0 : 0 ≤ n) (h1 : n ≤ 109572) (w : World) : Calls Try.prog 8 #[.int .i64 n] w fun e w' => e = .returned (.bool true) ∧ w' = w := by
  have := isDay_any n w
  rwa [decide_eq_true ⟨h0, h1⟩] at this
theorem isDay_no (n : Int) (h : ¬ (0 ≤ n ∧ n ≤ 109572)) (w : World) : Calls Try.prog 8 #[.int .i64 n] w fun e w' => e = .returned (.bool false) ∧ w' = w := by
  have := isDay_any n w
  rwa [decide_eq_false h] at this

theorem weekdayOf_any (n : Int) (h0 : 0 ≤ n) (w : World) : Calls Try.prog 10 #[.int .i64 n] w fun e w' => e = .returned (.int .i64 (n % 7 + 1)) ∧ w' = w := by
  have e1 : n.tmod 7 = n % 7 := Int.tmod_eq_emod_of_nonneg h0
  have e2 : wrap64 (n % 7 + 1) = n % 7 + 1 := wrap64_id (by omega) (by omega)
  go_enter Try.func10, Try.ntmps10
  go_wp2
  go_ret
  exact ⟨rfl, rfl⟩

end Go.Proofs.Ytaecodgmfmijlaa
