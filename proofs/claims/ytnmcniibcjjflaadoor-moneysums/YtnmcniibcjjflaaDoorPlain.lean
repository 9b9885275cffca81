/- THE PLAIN MATHEMATICS of layer 1: no Go in sight. -/
namespace Go.Proofs.YtnmcniibcjjflaaDoor
namespace M

def lo : List Int := [0, -9999999999999, -1000000000, 0, 0, 0, 1]
def hi : List Int := [0, 9999999999999, 1000000000, 1, 109572, 7, 5]
def us : List Int := [0, 15, 23, 4, 6, 4, 0]

/-- P1.1 -/
def valid (k n : Int) : Bool :=
  decide ((k = 0 ∧ n = 0) ∨ (k = 1 ∧ -9999999999999 ≤ n ∧ n ≤ 9999999999999) ∨ (k = 2 ∧ -1000000000 ≤ n ∧ n ≤ 1000000000) ∨ (k = 3 ∧ 0 ≤ n ∧ n ≤ 1) ∨
    (k = 4 ∧ 0 ≤ n ∧ n ≤ 109572) ∨ (k = 5 ∧ 0 ≤ n ∧ n ≤ 7) ∨ (k = 6 ∧ 1 ≤ n ∧ n ≤ 5))

theorem valid_of {k n : Int} {b : Bool} (p : Prop) [Decidable p] (hp : b = decide p)
    (h : p ↔ ((k = 0 ∧ n = 0) ∨ (k = 1 ∧ -9999999999999 ≤ n ∧ n ≤ 9999999999999) ∨ (k = 2 ∧ -1000000000 ≤ n ∧ n ≤ 1000000000) ∨ (k = 3 ∧ 0 ≤ n ∧ n ≤ 1) ∨
    (k = 4 ∧ 0 ≤ n ∧ n ≤ 109572) ∨ (k = 5 ∧ 0 ≤ n ∧ n ≤ 7) ∨ (k = 6 ∧ 1 ≤ n ∧ n ≤ 5))) : b = valid k n := by
  rw [hp]; unfold valid; rw [decide_eq_decide]; exact h

theorem valid_tab (i : Nat) (hi : i < 7) (n : Int) : valid i n = decide (lo.getD i 0 ≤ n ∧ n ≤ Go.Proofs.YtnmcniibcjjflaaDoor.M.hi.getD i 0) := by
  refine (valid_of _ rfl ?_).symm
  have : i = 0 ∨ i = 1 ∨ i = 2 ∨ i = 3 ∨ i = 4 ∨ i = 5 ∨ i = 6 := by omega
  rcases this with rfl | rfl | rfl | rfl | rfl | rfl | rfl <;> simp [lo, Go.Proofs.YtnmcniibcjjflaaDoor.M.hi] <;> omega

theorem valid_out (k n : Int) (hk : ¬ (0 ≤ k ∧ k < 7)) : valid k n = false := by
  unfold valid
  simp
  omega

end M
end Go.Proofs.YtnmcniibcjjflaaDoor
