import Derived.Test.YteefieidfgpijaaCpO
namespace Go.Proofs.Yteefieidfgpijaa.CF

theorem near_f (N : Nat) (p : Int) : Ieee.single.nearest false N p ≤ 2139095040 := by
  by_cases h : N = 0
  · subst h
    rw [nearest_zero, wd_false]
    omega
  · rw [nearest_eq _ _ _ h, wd_false]
    unfold rungQ
    exact Nat.min_le_right _ _
/-- A difference that is not below 0. -/
theorem subN_val {y l : Nat} (hy : y < 4294967296) (hl : l < 4294967296) (fy : y % 2147483648 < 2139095040) (fl : l % 2147483648 < 2139095040) (h : ordN l ≤ ordN y) : (subN y l = Ieee.single.nearest false (sv y - sv l).toNat (-149)) ∨ (subN y l = 2147483648 ∧ sv y - sv l = 0) := by
  have hs : ¬ sv y < sv l := fun e => by have := (sv_lt hy hl).1 e; omega
  have hm := negN_mod l hl
  unfold subN
  rw [addN_val fy (by rw [hm]; exact fl), hm]
  unfold sv at hs ⊢
  generalize vR (y % 2147483648) = A at *
  generalize vR (l % 2147483648) = B at *
  have ey : pS y = decide (2147483648 ≤ y) := rfl
  have el : pS (negN l) = decide (¬ 2147483648 ≤ l) := by
    unfold pS negN
    by_cases h1 : 2147483648 ≤ l
    · rw [if_pos h1, decide_eq_false (by omega), decide_eq_false (by omega)]
    · rw [if_neg h1, decide_eq_true (by omega), decide_eq_true h1]
  rw [ey, el]
  clear ey el hm h
  by_cases h1 : 2147483648 ≤ y
  · rw [if_pos h1] at hs ⊢
    rw [decide_eq_true h1]
    by_cases h2 : 2147483648 ≤ l
    · rw [if_pos h2] at hs ⊢
      rw [decide_eq_false (by omega)]
      left
      unfold sumN
      rw [if_neg (by decide)]
      by_cases h3 : A = B
      · rw [if_pos h3, show (-(A : Int) - -(B : Int)).toNat = 0 by omega, nearest_zero, wd_false]
      · rw [if_neg h3, if_neg (by omega), show (-(A : Int) - -(B : Int)).toNat = B - A by omega]
    · rw [if_neg h2] at hs ⊢
      rw [decide_eq_true h2]
      right
      have h3 : A = 0 ∧ B = 0 := by omega
      rw [h3.1, h3.2]
      unfold sumN
      rw [if_pos rfl, nearest_zero]
      exact ⟨rfl, rfl⟩
  · rw [if_neg h1] at hs ⊢
    rw [decide_eq_false h1]
    left
    by_cases h2 : 2147483648 ≤ l
    · rw [if_pos h2] at hs ⊢
      rw [decide_eq_false (by omega)]
      unfold sumN
      rw [if_pos rfl, show ((A : Int) - -(B : Int)).toNat = A + B by omega]
    · rw [if_neg h2] at hs ⊢
      rw [decide_eq_true h2]
      unfold sumN
      rw [if_neg (by decide)]
      by_cases h3 : A = B
      · rw [if_pos h3, show ((A : Int) - (B : Int)).toNat = 0 by omega, nearest_zero, wd_false]
      · rw [if_neg h3, if_pos (by omega), show ((A : Int) - (B : Int)).toNat = A - B by omega]
/-- Differences keep the order. -/
theorem subN_mono {x y l : Nat} (hx : x < 4294967296) (hy : y < 4294967296) (hl : l < 4294967296) (fx : x % 2147483648 < 2139095040) (fy : y % 2147483648 < 2139095040) (fl : l % 2147483648 < 2139095040) (h1 : ordN l ≤ ordN x) (h2 : ordN x ≤ ordN y) : subN x l % 2147483648 ≤ subN y l % 2147483648 := by
  have hs : ¬ sv y < sv x := fun e => by have := (sv_lt hy hx).1 e; omega
  have k1 := near_f (sv x - sv l).toNat (-149)
  have k2 := near_f (sv y - sv l).toNat (-149)
  rcases subN_val hx hl fx fl h1 with e1 | ⟨e1, -⟩
  · rcases subN_val hy hl fy fl (by omega) with e2 | ⟨e2, e3⟩
    · rw [e1, e2]
      have := near_mono (N := (sv x - sv l).toNat) (M := (sv y - sv l).toNat) (by omega)
      omega
    · rw [e1, e2, show (sv x - sv l).toNat = 0 by omega, nearest_zero, wd_false]
      omega
  · rw [e1]
    omega
end Go.Proofs.Yteefieidfgpijaa.CF
