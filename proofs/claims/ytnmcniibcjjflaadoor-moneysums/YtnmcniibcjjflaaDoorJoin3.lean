import Derived.Test.YtnmcniibcjjflaaDoorProg
import Derived.WalkKit
import Derived.WalkSpells
import Derived.WalkLawsBesides
import Derived.Deep.QuietTactic
import Derived.BigQuiet
/- THE PLAIN MATHEMATICS of layer 1: no Go in sight. -/
namespace Go.Proofs.YtnmcniibcjjflaaDoor
namespace M

def lo : List Int := [0, -9999999999999, -1000000000, 0, 0, 0, 1]
def hi : List Int := [0, 9999999999999, 1000000000, 1, 109572, 7, 5]
def us : List Int := [0, 15, 23, 4, 6, 4, 0]

/-- P1.1 -/
def valid (k n : Int) : Bool :=
  decide ((k = 0 ∧ n = 0) ∨ (k = 1 ∧ -9999999999999 ≤ n ∧ n ≤ 9999999999999) ∨ (k = 2 ∧ -1000000000 ≤ n ∧ n ≤ 1000000000) ∨ (k = 3 ∧ 0 ≤ n ∧ n ≤ 1) ∨
    (k = 4 ∧ 0 ≤ n ∧ n ≤ 109572) ∨ (k = 5 ∧ 0 ≤ n ∧ n ≤ 7) ∨ (k = 6 ∧ 1 ≤ n ∧ n ≤ 5))

theorem valid_of {k n : Int} {b : Bool} (p : Prop) [Decidable p] (hp : b = decide p)
    (h : p ↔ ((k = 0 ∧ n = 0) ∨ (k = 1 ∧ -9999999999999 ≤ n ∧ n ≤ 9999999999999) ∨ (k = 2 ∧ -1000000000 ≤ n ∧ n ≤ 1000000000) ∨ (k = 3 ∧ 0 ≤ n ∧ n ≤ 1) ∨
    (k = 4 ∧ 0 ≤ n ∧ n ≤ 109572) ∨ (k = 5 ∧ 0 ≤ n ∧ n ≤ 7) ∨ (k = 6 ∧ 1 ≤ n ∧ n ≤ 5))) : b = valid k n := by
  rw [hp]; unfold valid; rw [decide_eq_decide]; exact h

theorem valid_tab (i : Nat) (hi : i < 7) (n : Int) : valid i n = decide (lo.getD i 0 ≤ n ∧ n ≤ Go.Proofs.YtnmcniibcjjflaaDoor.M.hi.getD i 0) := by
  refine (valid_of _ rfl ?_).symm
  have : i = 0 ∨ i = 1 ∨ i = 2 ∨ i = 3 ∨ i = 4 ∨ i = 5 ∨ i = 6 := by omega
  rcases this with rfl | rfl | rfl | rfl | rfl | rfl | rfl <;> simp [lo, Go.Proofs.YtnmcniibcjjflaaDoor.M.hi] <;> omega

theorem valid_out (k n : Int) (hk : ¬ (0 ≤ k ∧ k < 7)) : valid k n = false := by
  unfold valid
  simp
  omega

end M
end Go.Proofs.YtnmcniibcjjflaaDoor


namespace Go.Proofs.YtnmcniibcjjflaaDoor
open Go.RowKit

theorem ret_bool {a b : Bool} (h : a = b) : Ending.returned (.bool a) = .returned (.bool b) := by rw [h]

theorem known_any (k : Int) (w : World) : Calls Tryd.prog 34 #[.int .i64 k] w fun e w' => e = .returned (.bool (decide (0 ≤ k ∧ k < 7))) ∧ w' = w := by
  by_cases h : 0 ≤ k
  · go_enter Tryd.func34, Tryd.ntmps34
    go_wp2
    go_ret
    exact ⟨by simp [h], rfl⟩
  · have h' : decide (0 ≤ k) = false := by simpa using h
    go_enter Tryd.func34, Tryd.ntmps34
    go_wp2
    go_ret
    exact ⟨by simp, rfl⟩

theorem within_any (n l h : Int) (w : World) : Calls Tryd.prog 35 #[.int .i64 n, .int .i64 l, .int .i64 h] w fun e w' => e = .returned (.bool (decide (l ≤ n ∧ n ≤ h))) ∧ w' = w := by
  by_cases c : l ≤ n
  · go_enter Tryd.func35, Tryd.ntmps35
    go_wp2
    go_ret
    exact ⟨by simp [c], rfl⟩
  · have h' : decide (l ≤ n) = false := by simpa using c
    go_enter Tryd.func35, Tryd.ntmps35
    go_wp2
    go_ret
    exact ⟨by simp, rfl⟩

theorem rwithin_any (n l h : Int) (w : World) : Calls Tryd.prog 50 #[.int .i64 n, .int .i64 l, .int .i64 h] w fun e w' => e = .returned (.bool (decide (l ≤ n ∧ n ≤ h))) ∧ w' = w := by
  by_cases c : l ≤ n
  · go_enter Tryd.func50, Tryd.ntmps50
    go_wp2
    go_ret
    exact ⟨by simp [c], rfl⟩
  · have h' : decide (l ≤ n) = false := by simpa using c
    go_enter Tryd.func50, Tryd.ntmps50
    go_wp2
    go_ret
    exact ⟨by simp, rfl⟩

theorem known_yes (k : Int) (w : World) (h : 0 ≤ k ∧ k < 7) : Calls Tryd.prog 34 #[.int .i64 k] w fun e w' => e = .returned (.bool true) ∧ w' = w := by
  have := known_any k w
  rwa [decide_eq_true h] at this

theorem known_no (k : Int) (w : World) (h : ¬ (0 ≤ k ∧ k < 7)) : Calls Tryd.prog 34 #[.int .i64 k] w fun e w' => e = .returned (.bool false) ∧ w' = w := by
  have := known_any k w
  rwa [decide_eq_false h] at this

/-- The table of the kinds lies where the initialiser laid it. -/
def Kinds (w : World) : Prop := 0 < w.heap.size ∧ ∀ i : Nat, i < 7 → w.cell? ⟨0, i * 3, none⟩ = some (.int .i64 (M.lo.getD i 0)) ∧ w.cell? ⟨0, i * 3 + 1, none⟩ = some (.int .i64 (M.hi.getD i 0)) ∧ w.cell? ⟨0, i * 3 + 2, none⟩ = some (.int .i64 (M.us.getD i 0))

theorem valid_yes (i : Nat) (hi : i < 7) (n : Int) (w : World) (hK : Kinds w) :
    Calls Tryd.prog 12 #[.agg #[.int .i64 i, .int .i64 n]] w fun e w' => e = .returned (.bool (decide (M.lo.getD i 0 ≤ n ∧ n ≤ M.hi.getD i 0))) ∧ Below w.heap.size w w' := by
  obtain ⟨hz, h0, h1, -⟩ := And.intro hK.1 (hK.2 i hi)
  generalize M.lo.getD i 0 = l at *
  generalize M.hi.getD i 0 = u at *
  clear hK
  have hi' : (i : Int) < 7 := by omega
  have h00 : 0 ≤ (i : Int) := by omega
  go_enter Tryd.func12, Tryd.ntmps12
  go_wp2
  go_quiet ((first | (go_at_call 34; exact Calls.quiet_of_same (known_yes _ _ (by omega))) | (go_at_call 35; exact Calls.quiet_of_same (within_any _ _ _ _))))
  go_wp2
  go_ret
  exact ⟨by simp, below_drewN ((Below.refl _ _).alloc (Nat.le_refl _) _) _⟩

theorem valid_no (k n : Int) (hk : ¬ (0 ≤ k ∧ k < 7)) (w : World) :
    Calls Tryd.prog 12 #[.agg #[.int .i64 k, .int .i64 n]] w fun e w' => e = .returned (.bool false) ∧ Below w.heap.size w w' := by
  go_enter Tryd.func12, Tryd.ntmps12
  go_wp2
  go_quiet ((go_at_call 34; exact Calls.quiet_of_same (known_no _ _ hk)))
  go_wp2
  go_ret
  exact ⟨by simp, below_drewN ((Below.refl _ _).alloc (Nat.le_refl _) _) _⟩

theorem valid_any (k n : Int) (w : World) (hK : Kinds w) :
    Calls Tryd.prog 12 #[.agg #[.int .i64 k, .int .i64 n]] w fun e w' => e = .returned (.bool (M.valid k n)) ∧ Below w.heap.size w w' := by
  by_cases hk : 0 ≤ k ∧ k < 7
  · obtain ⟨i, rfl⟩ : ∃ i : Nat, k = i := ⟨k.toNat, by omega⟩
    refine (valid_yes i (by omega) n w hK).mono ?_
    rintro e w' ⟨rfl, hb⟩
    refine ⟨?_, hb⟩
    rw [M.valid_tab i (by omega) n]
  · refine (valid_no k n hk w).mono ?_
    rintro e w' ⟨rfl, hb⟩
    exact ⟨by rw [M.valid_out k n hk], hb⟩

theorem rvalid_any (k n : Int) (w : World) :
    Calls Tryd.prog 15 #[.agg #[.int .i64 k, .int .i64 n]] w fun e w' => e = .returned (.bool (M.valid k n)) ∧ Below w.heap.size w w' := by
  by_cases hk : 0 ≤ k ∧ k < 7
  · obtain ⟨i, rfl⟩ : ∃ i : Nat, k = i := ⟨k.toNat, by omega⟩
    rw [M.valid_tab i (by omega) n]
    have hi : i = 0 ∨ i = 1 ∨ i = 2 ∨ i = 3 ∨ i = 4 ∨ i = 5 ∨ i = 6 := by omega
    clear hk
    rcases hi with rfl | rfl | rfl | rfl | rfl | rfl | rfl
    all_goals
      go_enter Tryd.func15, Tryd.ntmps15
      go_wp2_with (go_at_call 50; refine (rwithin_any _ _ _ _).mono ?_; rintro e w' ⟨rfl, rfl⟩)
      go_ret
      exact ⟨ret_bool (by rw [Bool.eq_iff_iff]; simp [M.lo, M.hi]; try omega), (Below.refl _ _).alloc (Nat.le_refl _) _⟩
  · rw [M.valid_out k n hk]
    have h0 : (k == 0) = false := by simp; omega
    have h1 : (k == 1) = false := by simp; omega
    have h2 : (k == 2) = false := by simp; omega
    have h3 : (k == 3) = false := by simp; omega
    have h4 : (k == 4) = false := by simp; omega
    have h5 : (k == 5) = false := by simp; omega
    have h6 : (k == 6) = false := by simp; omega
    clear hk
    go_enter Tryd.func15, Tryd.ntmps15
    go_wp2
    go_ret
    exact ⟨rfl, (Below.refl _ _).alloc (Nat.le_refl _) _⟩

end Go.Proofs.YtnmcniibcjjflaaDoor
