import Derived.Test.YteefieidfgpijaaCpM
import Derived.Test.YteefieidfgpijaaCfO
namespace Go.Proofs.Yteefieidfgpijaa.CF

/-- In units of the smallest height. -/
theorem near149 (s : Bool) (m : Nat) {e : Int} (h : -149 ≤ e) : Ieee.single.nearest s m e = Ieee.single.nearest s (m * 2 ^ (e + 149).toNat) (-149) := by
  have h1 := nearest_scale s m e (e + 149).toNat
  rw [show e - ((e + 149).toNat : Int) = -149 by omega] at h1
  exact h1.symm
/-- A height is told as it is. -/
theorem near_vR (s : Bool) {r : Nat} (h0 : r ≠ 0) (h : r < 2139095040) : Ieee.single.nearest s (vR r) (-149) = wd s r := by
  unfold vR
  by_cases hs : r / 8388608 = 0
  · rw [if_pos hs]
    have e : r % 8388608 = r := by omega
    rw [e, nearest_eq _ _ _ h0]
    have hl : r.log2 ≤ 22 := by have := (Nat.log2_lt h0 (k := 23)).2 (by omega); omega
    have hL : lastP (-149) r.log2 = -149 := by unfold lastP; omega
    unfold rungQ
    rw [hL]
    simp only [Int.sub_self, Int.toNat_zero, Nat.pow_zero, Nat.mul_one, rne_one]
    rw [show ((-149 : Int) + 149).toNat = 0 from rfl, Nat.zero_mul, Nat.zero_add, Nat.min_eq_left (by omega)]
  · rw [if_neg hs]
    obtain ⟨q, hq⟩ : ∃ q, r / 8388608 = q + 1 := ⟨r / 8388608 - 1, by omega⟩
    obtain ⟨f, hf⟩ : ∃ f, r % 8388608 = f := ⟨_, rfl⟩
    have hf2 : f < 8388608 := by rw [← hf]; exact Nat.mod_lt _ (by decide)
    have hr : r = 8388608 * (q + 1) + f := by rw [← hq, ← hf]; exact (Nat.div_add_mod r 8388608).symm
    rw [hq, hf, Nat.add_sub_cancel]
    have hm0 : (f + 8388608) * 2 ^ q ≠ 0 := Nat.mul_ne_zero (by omega) (Nat.pos_iff_ne_zero.1 (Nat.two_pow_pos q))
    have hlg : ((f + 8388608) * 2 ^ q).log2 = 23 + q := by
      rw [Nat.log2_eq_iff hm0]
      constructor
      · rw [Nat.pow_add]; exact Nat.mul_le_mul_right _ (by omega)
      · rw [show 23 + q + 1 = 24 + q by omega, Nat.pow_add]; exact Nat.mul_lt_mul_of_pos_right (by omega) (Nat.two_pow_pos q)
    rw [nearest_eq _ _ _ hm0, hlg]
    have hL : lastP (-149) (23 + q) = -149 + (q : Int) := by unfold lastP; omega
    unfold rungQ
    rw [hL]
    rw [show (-149 - (-149 + (q : Int))).toNat = 0 by omega, show (-149 + (q : Int) - -149).toNat = q by omega, show (-149 + (q : Int) + 149).toNat = q by omega, Nat.pow_zero, Nat.mul_one]
    have e2 : rne ((f + 8388608) * 2 ^ q) (1 * 2 ^ q) = f + 8388608 := by rw [rne_scale _ _ _ (Nat.two_pow_pos q), rne_one]
    rw [e2, Nat.min_eq_left (by omega)]
    congr 1
    omega
/-- Rounding keeps the order, in units of the smallest height. -/
theorem near_mono {N M : Nat} (h : N ≤ M) : Ieee.single.nearest false N (-149) ≤ Ieee.single.nearest false M (-149) := by
  by_cases h0 : N = 0
  · subst h0
    rw [nearest_zero, wd_false]
    exact Nat.zero_le _
  · rw [nearest_eq _ _ _ h0, nearest_eq _ _ _ (by omega), wd_false, wd_false]
    exact rung_mono h0 h
/-- What lies below a height is rounded to no more. -/
theorem near_below {N r : Nat} (hr : r < 2139095040) (h : N ≤ vR r) : Ieee.single.nearest false N (-149) ≤ r := by
  by_cases h0 : r = 0
  · subst h0
    rw [vR_zero] at h
    obtain rfl : N = 0 := by omega
    rw [nearest_zero, wd_false]
    exact Nat.le_refl _
  · have := near_mono h
    rw [near_vR false h0 hr, wd_false] at this
    exact this
theorem near_above {N r : Nat} (hr : r < 2139095040) (h : vR r ≤ N) : r ≤ Ieee.single.nearest false N (-149) := by
  by_cases h0 : r = 0
  · omega
  · have := near_mono h
    rw [near_vR false h0 hr, wd_false] at this
    exact this
end Go.Proofs.Yteefieidfgpijaa.CF
