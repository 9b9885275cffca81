import Derived.Test.YtekapipfaahhcaaGreatDoorDWeek
import Derived.Test.YtekapipfaahhcaaGreatDoorDPlain
import Derived.WalkKit
import Derived.WalkSpells
import Derived.WalkLawsBesides
import Derived.Deep.QuietTactic
import Derived.BigQuiet
namespace Go.Proofs.YtekapipfaahhcaaGreatDoor
open Go.RowKit

theorem leap_any (y : Int) (w : World) : Calls Tryz.prog 162 #[.int .i64 y] w fun e w' => e = .returned (.bool (D.leap y)) ∧ w' = w := by
  rw [D.leap_tmod]
  by_cases h4 : y.tmod 4 = 0
  · by_cases h100 : y.tmod 100 = 0
    · go_enter Tryz.func162, Tryz.ntmps162
      go_wp2
      go_ret
      exact ⟨ret_bool (by rw [Bool.eq_iff_iff]; simp [h4, h100]), rfl⟩
    · go_enter Tryz.func162, Tryz.ntmps162
      go_wp2
      go_ret
      exact ⟨by simp [h4, h100], rfl⟩
  · go_enter Tryz.func162, Tryz.ntmps162
    go_wp2
    go_ret
    exact ⟨by simp [h4], rfl⟩

theorem isYear_any (n : Int) (w : World) : Calls Tryz.prog 156 #[.int .i64 n] w fun e w' => e = .returned (.bool (decide (1900 ≤ n ∧ n ≤ 2199))) ∧ w' = w := by
  by_cases h : 1900 ≤ n
  · go_enter Tryz.func156, Tryz.ntmps156
    go_wp2
    go_ret
    exact ⟨by simp [h], rfl⟩
  · go_enter Tryz.func156, Tryz.ntmps156
    go_wp2
    go_ret
    exact ⟨ret_bool (by simp; omega), rfl⟩
theorem isYear_yes (n : Int) (h0 : 1900 ≤ n) (h1 : n ≤ 2199) (w : World) : Calls Tryz.prog 156 #[.int .i64 n] w fun e w' => e = .returned (.bool true) ∧ w' = w := by
  have := isYear_any n w
  rwa [decide_eq_true ⟨h0, h1⟩] at this
theorem isYear_no (n : Int) (h : ¬ (1900 ≤ n ∧ n ≤ 2199)) (w : World) : Calls Tryz.prog 156 #[.int .i64 n] w fun e w' => e = .returned (.bool false) ∧ w' = w := by
  have := isYear_any n w
  rwa [decide_eq_false h] at this

/-- The table of the months lies where the initialiser laid it. -/
def Mon (w : World) : Prop := 3 < w.heap.size ∧ ∀ i : Nat, i < 12 → w.cell? ⟨3, i, none⟩ = some (.int .i64 (D.md.getD i 0))

theorem Mon.later {w w' : World} (hM : Mon w) (hb : Below w.heap.size w w') : Mon w' :=
  ⟨Nat.lt_of_lt_of_le hM.1 hb.size, fun i hi => (hb.cell (p := ⟨3, i, none⟩) hM.1).trans (hM.2 i hi)⟩
theorem Mon.alloc {w : World} (hM : Mon w) (o : Obj) : Mon (w.alloc o) := hM.later ((Below.refl _ _).alloc (Nat.le_refl _) _)
theorem Mon.drew {w : World} (hM : Mon w) : Mon w.drew := hM.later (Below.refl _ _).drew
theorem Mon.drewN {w : World} (hM : Mon w) (n : Nat) : Mon (w.drewN n) := hM.later (below_drewN (Below.refl _ _) n)

theorem last_out (y m : Int) (h : m < 1 ∨ 12 < m) (w : World) : Calls Tryz.prog 155 #[.int .i64 y, .int .i64 m] w fun e w' => e = .returned (.int .i64 0) ∧ w' = w := by
  rcases h with h | h
  · go_enter Tryz.func155, Tryz.ntmps155
    go_wp2
    go_ret
    exact ⟨rfl, rfl⟩
  · have h1 : ¬ m < 1 := by omega
    go_enter Tryz.func155, Tryz.ntmps155
    go_wp2
    go_ret
    exact ⟨rfl, rfl⟩

theorem last_feb (y : Int) (h : D.leap y = true) (w : World) (hM : Mon w) : Calls Tryz.prog 155 #[.int .i64 y, .int .i64 2] w fun e w' => e = .returned (.int .i64 29) ∧ w' = w := by
  have h1 := hM.2 1 (by omega)
  have hl := leap_any y w
  rw [h] at hl
  clear hM
  simp [D.md] at h1
  go_enter Tryz.func155, Tryz.ntmps155
  go_wp2_with (go_at_call 162; refine hl.mono ?_; rintro e w' ⟨rfl, rfl⟩)
  go_ret
  exact ⟨rfl, rfl⟩

theorem last_in (y : Int) (i : Nat) (hi : i < 12) (h : i = 1 → D.leap y = false) (w : World) (hM : Mon w) : Calls Tryz.prog 155 #[.int .i64 y, .int .i64 ((i : Int) + 1)] w fun e w' => e = .returned (.int .i64 (D.md.getD i 0)) ∧ w' = w := by
  have h1 := hM.2 i hi
  have hl := leap_any y w
  generalize D.md.getD i 0 = r at *
  have a1 : ¬ (i : Int) + 1 < 1 := by omega
  have a2 : (i : Int) + 1 ≤ 12 := by omega
  have a3 : wrap64 ((i : Int) + 1 - 1) = i := by rw [wrap64_id] <;> omega
  by_cases h2 : i = 1
  · subst h2
    rw [h rfl] at hl
    go_enter Tryz.func155, Tryz.ntmps155
    go_wp2_with (go_at_call 162; refine hl.mono ?_; rintro e w' ⟨rfl, rfl⟩)
    go_ret
    exact ⟨rfl, rfl⟩
  · have a4 : ((i : Int) + 1 == 2) = false := by simp; omega
    clear hl h h2
    have a5 : (i : Int) < 12 := by omega
    have a6 : 0 ≤ (i : Int) := by omega
    go_enter Tryz.func155, Tryz.ntmps155
    go_wp2
    go_ret
    exact ⟨rfl, rfl⟩

theorem last_any (y m : Int) (w : World) (hM : Mon w) (L : Int) (hL : L = D.last y m) : Calls Tryz.prog 155 #[.int .i64 y, .int .i64 m] w fun e w' => e = .returned (.int .i64 L) ∧ w' = w := by
  by_cases h : m < 1 ∨ 12 < m
  · rw [hL, D.last_no y m h]
    exact last_out y m h w
  · by_cases h2 : m = 2 ∧ D.leap y = true
    · obtain ⟨rfl, h3⟩ := h2
      rw [hL, D.last_leap y h3]
      exact last_feb y h3 w hM
    · obtain ⟨i, hi⟩ : ∃ i : Nat, m = (i : Int) + 1 := ⟨(m - 1).toNat, by omega⟩
      have h4 : i = 1 → D.leap y = false := by
        intro h5
        cases h6 : D.leap y with
        | false => rfl
        | true => exact absurd ⟨by omega, h6⟩ h2
      rw [hL, hi, D.last_md y i (by omega) h4]
      exact last_in y i (by omega) h4 w hM

end Go.Proofs.YtekapipfaahhcaaGreatDoor
