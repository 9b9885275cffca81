import Derived.Test.YteefieidfgpijaaCrM
namespace Go.Proofs.Yteefieidfgpijaa.CF

theorem rne_mono {n m g : Nat} (h : n ≤ m) : rne n g ≤ rne m g := by
  unfold rne
  have h1 : n / g ≤ m / g := Nat.div_le_div_right h
  have e1 := Nat.div_add_mod n g
  have e2 := Nat.div_add_mod m g
  by_cases hq : n / g = m / g
  · rw [hq] at e1 ⊢
    generalize m / g = q at *
    generalize n % g = r1 at *
    generalize m % g = r2 at *
    have h2 : r1 ≤ r2 := by omega
    split
    · rename_i hc
      rw [if_pos]
      · exact Nat.le_refl _
      · rcases hc with hc | ⟨hc, ho⟩
        · exact .inl (by omega)
        · by_cases h3 : r1 = r2
          · subst h3; exact .inr ⟨hc, ho⟩
          · exact .inl (by omega)
    · omega
  · split <;> split <;> omega
theorem rne_up {n g B : Nat} (hg : 0 < g) (h : n ≤ B * g) : rne n g ≤ B := by
  unfold rne
  have h1 : n / g ≤ B := Nat.div_le_of_le_mul (by rw [Nat.mul_comm]; exact h)
  by_cases hq : n / g = B
  · have e1 := Nat.div_add_mod n g
    rw [hq, Nat.mul_comm] at e1
    have h2 : n % g = 0 := by omega
    rw [h2, if_neg (by omega)]
    omega
  · split <;> omega
theorem rne_lo {n g B : Nat} (hg : 0 < g) (h : B * g ≤ n) : B ≤ rne n g := by
  unfold rne
  have h1 : B ≤ n / g := (Nat.le_div_iff_mul_le hg).2 h
  split <;> omega
/-- The greatest and the least that the rounded number can be. -/
theorem kept_up {N : Nat} {p : Int} : rne (N * 2 ^ (p - lastP p N.log2).toNat) (1 * 2 ^ (lastP p N.log2 - p).toNat) ≤ 16777216 := by
  refine rne_up (by rw [Nat.one_mul]; exact Nat.two_pow_pos _) ?_
  have h1 : N < 2 ^ (N.log2 + 1) := Nat.lt_log2_self
  have hL : p + N.log2 - 23 ≤ lastP p N.log2 := Int.le_max_left _ _
  generalize N.log2 = lg at *
  generalize lastP p lg = L at *
  have h2 : N * 2 ^ (p - L).toNat ≤ 2 ^ (lg + 1 + (p - L).toNat) := by rw [Nat.pow_add]; exact Nat.mul_le_mul_right _ (by omega)
  refine Nat.le_trans h2 ?_
  rw [Nat.one_mul, show 16777216 = 2 ^ 24 from rfl, ← Nat.pow_add]
  exact Nat.pow_le_pow_right (by decide) (by omega)
theorem kept_lo {N : Nat} {p : Int} (h0 : N ≠ 0) (hL : lastP p N.log2 = p + N.log2 - 23) : 8388608 ≤ rne (N * 2 ^ (p - lastP p N.log2).toNat) (1 * 2 ^ (lastP p N.log2 - p).toNat) := by
  refine rne_lo (by rw [Nat.one_mul]; exact Nat.two_pow_pos _) ?_
  have h1 : 2 ^ N.log2 ≤ N := Nat.log2_self_le h0
  generalize N.log2 = lg at *
  generalize lastP p lg = L at *
  have h2 : 2 ^ (lg + (p - L).toNat) ≤ N * 2 ^ (p - L).toNat := by rw [Nat.pow_add]; exact Nat.mul_le_mul_right _ h1
  refine Nat.le_trans ?_ h2
  rw [Nat.one_mul, show 8388608 = 2 ^ 23 from rfl, ← Nat.pow_add]
  exact Nat.pow_le_pow_right (by decide) (by omega)
/-- Rounding keeps the order. -/
theorem rung_mono {N M : Nat} {p : Int} (h0 : N ≠ 0) (h : N ≤ M) : rungQ N 1 p N.log2 ≤ rungQ M 1 p M.log2 := by
  have hl : N.log2 ≤ M.log2 := (Nat.le_log2 (by omega)).2 (Nat.le_trans (Nat.log2_self_le h0) h)
  have h149 : ∀ lg, -149 ≤ lastP p lg := fun lg => Int.le_max_right _ _
  unfold rungQ
  by_cases hL : lastP p N.log2 = lastP p M.log2
  · rw [hL]
    have := rne_mono (n := N * 2 ^ (p - lastP p M.log2).toNat) (m := M * 2 ^ (p - lastP p M.log2).toNat) (g := 1 * 2 ^ (lastP p M.log2 - p).toNat) (Nat.mul_le_mul_right _ h)
    omega
  · have hlt : lastP p N.log2 < lastP p M.log2 := by unfold lastP at hL ⊢; omega
    have h2 := kept_up (N := N) (p := p)
    have h3 := kept_lo (N := M) (p := p) (by omega) (by have := h149 N.log2; unfold lastP at hlt ⊢; omega)
    have := h149 N.log2
    have := h149 M.log2
    generalize rne (N * 2 ^ (p - lastP p N.log2).toNat) (1 * 2 ^ (lastP p N.log2 - p).toNat) = A at *
    generalize rne (M * 2 ^ (p - lastP p M.log2).toNat) (1 * 2 ^ (lastP p M.log2 - p).toNat) = B at *
    generalize lastP p N.log2 = L1 at *
    generalize lastP p M.log2 = L2 at *
    omega
end Go.Proofs.Yteefieidfgpijaa.CF
