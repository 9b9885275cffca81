import Derived.Test.YteefieidfgpijaaCpP
namespace Go.Proofs.Yteefieidfgpijaa.CF

theorem norm_pad {m : Nat} (h0 : m ≠ 0) (h : m < 16777216) : 8388608 ≤ m * 2 ^ padN m ∧ m * 2 ^ padN m < 16777216 ∧ padN m ≤ 23 := by
  have hl : m.log2 ≤ 23 := by have := (Nat.log2_lt h0 (k := 24)).2 (by omega); omega
  have h1 := Nat.log2_self_le h0
  have h2 : m < 2 ^ (m.log2 + 1) := Nat.lt_log2_self
  have e : m.log2 + padN m = 23 := by unfold padN; omega
  refine ⟨?_, ?_, by omega⟩
  · have := Nat.mul_le_mul_right (2 ^ padN m) h1
    rw [← Nat.pow_add, e] at this
    exact this
  · have := Nat.mul_lt_mul_of_pos_right h2 (Nat.two_pow_pos (padN m))
    rw [← Nat.pow_add, show m.log2 + 1 + padN m = 24 by omega] at this
    exact this
/-- A quotient of a height by one that is not below it is 1 at most. -/
theorem div_one {a b : Nat} (fa : a % 2147483648 < 2139095040) (hb : pM b ≠ 0) (h : a % 2147483648 ≤ b % 2147483648) : divN a b % 2147483648 ≤ 1065353216 := by
  unfold divN
  rw [if_neg (by omega)]
  by_cases ha : pM a = 0
  · rw [if_pos ha]
    unfold wd
    split <;> omega
  · rw [if_neg ha]
    obtain ⟨a1, a2, a3⟩ := norm_pad ha (pM_lt a)
    obtain ⟨b1, b2, b3⟩ := norm_pad hb (pM_lt b)
    have ea := pE_le a
    have eb := pE_le b
    have hv : vR (a % 2147483648) ≤ vR (b % 2147483648) := by
      rcases Nat.lt_or_eq_of_le h with h1 | h1
      · exact Nat.le_of_lt (vR_lt h1)
      · rw [h1]; exact Nat.le_refl _
    rw [← vR_eq a, ← vR_eq b] at hv
    generalize (pS a != pS b) = s
    generalize hA : pM a * 2 ^ padN (pM a) = A at *
    generalize hB : pM b * 2 ^ padN (pM b) = B at *
    obtain ⟨i, hi⟩ : ∃ i : Nat, (i : Int) = pE a - padN (pM a) + 172 := ⟨(pE a - padN (pM a) + 172).toNat, by omega⟩
    obtain ⟨j, hj⟩ : ∃ j : Nat, (j : Int) = pE b - padN (pM b) + 172 := ⟨(pE b - padN (pM b) + 172).toNat, by omega⟩
    have hAB : A * 2 ^ i ≤ B * 2 ^ j := by
      have := Nat.mul_le_mul_right (2 ^ 23) hv
      rw [Nat.mul_assoc, Nat.mul_assoc, ← Nat.pow_add, ← Nat.pow_add] at this
      rw [← hA, ← hB, Nat.mul_assoc, Nat.mul_assoc, ← Nat.pow_add, ← Nat.pow_add, show padN (pM a) + i = (pE a + 149).toNat + 23 by omega, show padN (pM b) + j = (pE b + 149).toNat + 23 by omega]
      exact this
    have hij : i ≤ j := by
      apply Classical.byContradiction
      intro hc
      have h1 : 2 ^ (j + 1) ≤ 2 ^ i := Nat.pow_le_pow_right (by decide) (by omega)
      have h2 : A * 2 ^ (j + 1) ≤ A * 2 ^ i := Nat.mul_le_mul_left _ h1
      rw [Nat.pow_succ] at h2
      have h3 : 8388608 * (2 ^ j * 2) ≤ A * (2 ^ j * 2) := Nat.mul_le_mul_right _ a1
      have h4 : B * 2 ^ j < 16777216 * 2 ^ j := Nat.mul_lt_mul_of_pos_right b2 (Nat.two_pow_pos j)
      omega
    obtain ⟨d, rfl⟩ : ∃ d, j = i + d := ⟨j - i, by omega⟩
    have hd : A ≤ B * 2 ^ d := by
      rw [Nat.pow_add, Nat.mul_comm (2 ^ i), ← Nat.mul_assoc] at hAB
      exact Nat.le_of_mul_le_mul_right hAB (Nat.two_pow_pos i)
    have hB0 : 0 < B := by omega
    have hX : A * 2 ^ 38 ≤ 2 ^ (38 + d) * B := by
      have := Nat.mul_le_mul_right (2 ^ 38) hd
      rw [Nat.pow_add]
      generalize 2 ^ d = P at *
      generalize (2 : Nat) ^ 38 = K at *
      rw [Nat.mul_comm (K * P) B, Nat.mul_comm K P, ← Nat.mul_assoc]
      exact this
    have hq : A * 2 ^ 38 / B ≤ 2 ^ (38 + d) := Nat.div_le_of_le_mul (by rw [Nat.mul_comm B]; exact hX)
    have hq0 : 16777216 ≤ A * 2 ^ 38 / B := by rw [Nat.le_div_iff_mul_le hB0]; omega
    rw [rnd_eq _ _ _ _ (fun _ => hq0)]
    generalize A * 2 ^ 38 = X at *
    have hN : 2 * (X / B) + (decide (0 < X % B)).toNat ≤ 2 ^ (39 + d) := by
      rw [show 39 + d = 38 + d + 1 by omega, Nat.pow_succ]
      by_cases hs : 0 < X % B
      · rw [decide_eq_true hs]
        have e1 := Nat.div_add_mod (X) B
        have : X / B ≠ 2 ^ (38 + d) := fun e => by rw [e, Nat.mul_comm] at e1; omega
        show _ + 1 ≤ _
        omega
      · rw [decide_eq_false hs]
        show _ + 0 ≤ _
        omega
    generalize 2 * (X / B) + (decide (0 < X % B)).toNat = N at *
    have hp : pE a - (padN (pM a) : Int) - (pE b - (padN (pM b) : Int)) - 38 - 1 = 0 - ((39 + d : Nat) : Int) := by omega
    rw [hp]
    have hone : Ieee.single.nearest false (1 * 2 ^ (39 + d)) (0 - ((39 + d : Nat) : Int)) = 1065353216 := by
      rw [nearest_scale]
      decide
    rw [Nat.one_mul] at hone
    by_cases hN0 : N = 0
    · subst hN0
      rw [nearest_zero]
      unfold wd
      split <;> omega
    · have hM0 : 2 ^ (39 + d) ≠ 0 := Nat.pos_iff_ne_zero.1 (Nat.two_pow_pos _)
      rw [nearest_eq _ _ _ hM0, wd_false] at hone
      rw [nearest_eq _ _ _ hN0]
      have := rung_mono (p := 0 - ((39 + d : Nat) : Int)) hN0 hN
      rw [hone] at this
      unfold wd
      split <;> omega
end Go.Proofs.Yteefieidfgpijaa.CF
