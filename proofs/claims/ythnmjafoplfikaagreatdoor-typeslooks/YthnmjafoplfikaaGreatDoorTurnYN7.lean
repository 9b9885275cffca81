import Derived.Test.YthnmjafoplfikaaGreatDoorTurnYN5
namespace Go.Proofs.YthnmjafoplfikaaGreatDoor
open Go.RowKit

theorem tFold_errG {f : Ex → Nat → Nat × Except Ft Kd} (hf : ∀ x n m e, f x n = (m, .error e) → 0 < e.2) : ∀ (l : List Ex) (i n : Nat) (acc : List Kd) (m : Nat) (e : Ft), tFold f l i n acc = (m, .error e) → 0 < e.2
  | [], i, n, acc, m, e, h => by
    unfold tFold at h
    injection h with _ h
    cases h
  | x :: l, i, n, acc, m, e, h => by
    unfold tFold at h
    rcases hx : f x n with ⟨m1, er | k⟩
    · rw [hx] at h
      injection h with _ h
      injection h with h
      subst h
      exact hf x n m1 er hx
    · rw [hx] at h
      exact tFold_errG hf l (i + 1) m1 (acc ++ [k]) m e h
theorem tN_err (p : Pk) (g : Int) : ∀ (d : Nat) (x : Ex) (n m : Nat) (e : Ft), tN p g d x n = (m, .error e) → 0 < e.2
  | 0, x, n, m, e, h => by
    unfold tN at h
    injection h with _ h
    injection h with h
    subst h
    decide
  | d + 1, x, n, m, e, h => by
    have ih := tN_err p g d
    unfold tN at h
    split at h
    · injection h with _ h; injection h with h; subst h; decide
    split at h
    · injection h with _ h; injection h with h; subst h; decide
    split at h
    · injection h with _ h; injection h with h; subst h; decide
    split at h
    · injection h with _ h; injection h with h; subst h; decide
    rcases hf : tFold (tN p g d) (toL x.args) 0 (n + 1) [] with ⟨m1, er | ks⟩
    · rw [hf] at h
      injection h with _ h
      injection h with h
      subst h
      exact tFold_errG ih _ _ _ _ _ _ hf
    · rw [hf] at h
      injection h with _ h
      unfold worthF at h
      split at h
      · injection h with h; subst h; exact Nat.zero_lt_succ _
      · split at h
        · cases h
        · injection h with h; subst h; decide
theorem tFold_err (p : Pk) (g : Int) (d : Nat) (l : List Ex) (i n : Nat) (acc : List Kd) (m : Nat) (e : Ft) (h : tFold (tN p g d) l i n acc = (m, .error e)) : 0 < e.2 := tFold_errG (tN_err p g d) _ _ _ _ _ _ h
end Go.Proofs.YthnmjafoplfikaaGreatDoor
