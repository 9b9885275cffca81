import Derived.Test.YteefieidfgpijaaCpQ
namespace Go.Proofs.Yteefieidfgpijaa.CF

theorem vR_one : vR 1065353216 = 2 ^ 149 := by
  unfold vR
  rw [if_neg (by decide), show 1065353216 % 8388608 + 8388608 = 2 ^ 23 from rfl, ← Nat.pow_add]
theorem vR_le {r s : Nat} (h : r ≤ s) : vR r ≤ vR s := by
  rcases Nat.lt_or_eq_of_le h with h1 | h1
  · exact Nat.le_of_lt (vR_lt h1)
  · rw [h1]; exact Nat.le_refl _
/-- A height that is 1 at most: its parts. -/
theorem one_parts {t : Nat} (h : t % 2147483648 ≤ 1065353216) (h0 : pM t ≠ 0) : ∃ k : Nat, pE t = -(k : Int) ∧ pM t ≤ 2 ^ k := by
  have hv := vR_le h
  rw [vR_one, ← vR_eq t] at hv
  have he := pE_le t
  have hk : pE t ≤ 0 := by
    apply Classical.byContradiction
    intro hc
    have h1 : 2 ^ 150 ≤ 2 ^ (pE t + 149).toNat := Nat.pow_le_pow_right (by decide) (by omega)
    have h2 : 1 * 2 ^ (pE t + 149).toNat ≤ pM t * 2 ^ (pE t + 149).toNat := Nat.mul_le_mul_right _ (by omega)
    omega
  refine ⟨(-pE t).toNat, by omega, ?_⟩
  have e : 149 = (-pE t).toNat + (pE t + 149).toNat := by omega
  rw [show (2 : Nat) ^ 149 = 2 ^ ((-pE t).toNat + (pE t + 149).toNat) by rw [← e], Nat.pow_add] at hv
  exact Nat.le_of_mul_le_mul_right hv (Nat.two_pow_pos _)
/-- A part of a height is that height at most. -/
theorem mul_one_le {t b : Nat} (h : t % 2147483648 ≤ 1065353216) (hb : b < 2139095040) : mulN t b % 2147483648 ≤ b := by
  unfold mulN
  rw [rnd_exact]
  generalize (pS t != pS b) = s
  by_cases h0 : pM t * pM b = 0
  · rw [h0, nearest_zero]
    unfold wd
    split <;> omega
  · have ht : pM t ≠ 0 := fun e => h0 (by rw [e, Nat.zero_mul])
    have hm : pM b ≠ 0 := fun e => h0 (by rw [e, Nat.mul_zero])
    obtain ⟨k, hk, hle⟩ := one_parts h ht
    rw [hk]
    have hN : pM t * pM b ≤ pM b * 2 ^ k := by rw [Nat.mul_comm]; exact Nat.mul_le_mul_left _ hle
    have hM0 : pM b * 2 ^ k ≠ 0 := Nat.mul_ne_zero hm (Nat.pos_iff_ne_zero.1 (Nat.two_pow_pos k))
    have hone : Ieee.single.nearest false (pM b * 2 ^ k) (-(k : Int) + pE b) = b := by
      rw [show -(k : Int) + pE b = pE b - k by omega, nearest_scale, near149 _ _ (pE_le b), vR_eq, Nat.mod_eq_of_lt (by omega), near_vR false (fun e => by subst e; exact hm rfl) hb, wd_false]
    rw [nearest_eq _ _ _ hM0, wd_false] at hone
    rw [nearest_eq _ _ _ h0]
    have := rung_mono (p := -(k : Int) + pE b) h0 hN
    rw [hone] at this
    unfold wd
    split <;> omega
end Go.Proofs.Yteefieidfgpijaa.CF
