import Derived.Test.YtnmcniibcjjflaaDoorBox
namespace Go.Proofs.YtnmcniibcjjflaaDoor
open Go.RowKit

theorem isMode_yes (m : Int) (w : World) (h : 1 ≤ m ∧ m ≤ 5) : Calls Tryd.prog 55 #[.int .i64 m] w fun e w' => e = .returned (.bool true) ∧ w' = w := by
  obtain ⟨h1, h2⟩ := h
  go_enter Tryd.func55, Tryd.ntmps55
  go_wp2
  go_ret
  exact ⟨rfl, rfl⟩
theorem isMode_no (m : Int) (w : World) (h : ¬ (1 ≤ m ∧ m ≤ 5)) : Calls Tryd.prog 55 #[.int .i64 m] w fun e w' => e = .returned (.bool false) ∧ w' = w := by
  by_cases c : 1 ≤ m
  · have c2 : ¬ m ≤ 5 := by omega
    go_enter Tryd.func55, Tryd.ntmps55
    go_wp2
    go_ret
    exact ⟨rfl, rfl⟩
  · have c2 : decide (1 ≤ m) = false := by simpa using c
    go_enter Tryd.func55, Tryd.ntmps55
    go_wp2
    go_ret
    exact ⟨rfl, rfl⟩

theorem risMode_yes (m : Int) (w : World) (h : 1 ≤ m ∧ m ≤ 5) : Calls Tryd.prog 65 #[.int .i64 m] w fun e w' => e = .returned (.bool true) ∧ w' = w := by
  obtain ⟨h1, h2⟩ := h
  go_enter Tryd.func65, Tryd.ntmps65
  go_wp2
  go_ret
  exact ⟨rfl, rfl⟩
theorem risMode_no (m : Int) (w : World) (h : ¬ (1 ≤ m ∧ m ≤ 5)) : Calls Tryd.prog 65 #[.int .i64 m] w fun e w' => e = .returned (.bool false) ∧ w' = w := by
  by_cases c : 1 ≤ m
  · have c2 : ¬ m ≤ 5 := by omega
    go_enter Tryd.func65, Tryd.ntmps65
    go_wp2
    go_ret
    exact ⟨rfl, rfl⟩
  · have c2 : decide (1 ≤ m) = false := by simpa using c
    go_enter Tryd.func65, Tryd.ntmps65
    go_wp2
    go_ret
    exact ⟨rfl, rfl⟩

end Go.Proofs.YtnmcniibcjjflaaDoor
