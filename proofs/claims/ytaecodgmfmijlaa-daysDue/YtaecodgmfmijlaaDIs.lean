import Derived.Test.YtaecodgmfmijlaaDWeek
namespace Go.Proofs.Ytaecodgmfmijlaa
open Go.RowKit

theorem is_any (n : Int) (w : World) : Calls Try.prog 11 #[.int .i64 n] w fun e w' => e = .returned (.bool (decide (0 ≤ n ∧ n ≤ 109572))) ∧ w' = w := by
  by_cases h : 0 ≤ n
  · go_enter Try.func11, Try.ntmps11
    go_wp2
    go_ret
    exact ⟨by simp [h], rfl⟩
  · go_enter Try.func11, Try.ntmps11
    go_wp2
    go_ret
    exact ⟨ret_bool (by simp; omega), rfl⟩
theorem is_yes (n : Int) (h0 : 0 ≤ n) (h1 : n ≤ 109572) (w : World) : Calls Try.prog 11 #[.int .i64 n] w fun e w' => e = .returned (.bool true) ∧ w' = w := by
  have := is_any n w
  rwa [decide_eq_true ⟨h0, h1⟩] at this
theorem is_no (n : Int) (h : ¬ (0 ≤ n ∧ n ≤ 109572)) (w : World) : Calls Try.prog 11 #[.int .i64 n] w fun e w' => e = .returned (.bool false) ∧ w' = w := by
  have := is_any n w
  rwa [decide_eq_false h] at this

end Go.Proofs.Ytaecodgmfmijlaa
