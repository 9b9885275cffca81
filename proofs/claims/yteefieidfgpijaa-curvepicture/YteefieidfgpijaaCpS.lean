import Derived.Test.YteefieidfgpijaaCpR
namespace Go.Proofs.Yteefieidfgpijaa.CF

/-- The whole part of a height that is not below 0. -/
def partN (s : Nat) : Nat := vR s / 2 ^ 149
theorem half_tab : ∀ n, n < 40 → vR (wholeN ((n : Nat) : Int)) = n * 2 ^ 149 ∧ wholeN ((n : Nat) : Int) < 2139095040 ∧ vR (wholeN ((2 * n + 1 : Nat) : Int) - 8388608) = (2 * n + 1) * 2 ^ 148 ∧ wholeN ((2 * n + 1 : Nat) : Int) - 8388608 < 2139095040 := by
  decide +kernel
/-- Half a row more. -/
theorem add_half {m n : Nat} (hn : n < 40) (h : m % 2147483648 ≤ wholeN (n : Int)) (h0 : 2147483648 ≤ m → m = 2147483648) : addN m 1056964608 < 2139095040 ∧ partN (addN m 1056964608) ≤ n := by
  obtain ⟨t1, t2, t3, t4⟩ := half_tab n hn
  have hv := vR_le h
  rw [t1] at hv
  have hh : vR (1056964608 % 2147483648) = 2 ^ 148 := by decide +kernel
  have e : addN m 1056964608 = Ieee.single.nearest false (vR (m % 2147483648) + 2 ^ 148) (-149) := by
    rw [addN_val (by omega) (by decide), hh]
    have hp : pS 1056964608 = false := by decide
    rw [hp]
    by_cases hm : 2147483648 ≤ m
    · have hz : m % 2147483648 = 0 := by have := h0 hm; omega
      have ps : pS m = true := decide_eq_true hm
      rw [ps, hz, vR_zero]
      unfold sumN
      rw [if_neg (by decide), if_neg (by decide), if_neg (by decide), Nat.sub_zero, Nat.zero_add]
    · have ps : pS m = false := decide_eq_false hm
      rw [ps]
      unfold sumN
      rw [if_pos rfl]
  have hb := near_below (N := vR (m % 2147483648) + 2 ^ 148) t4 (by rw [t3]; omega)
  rw [e]
  refine ⟨by omega, ?_⟩
  have := vR_le hb
  rw [t3] at this
  unfold partN
  omega
end Go.Proofs.Yteefieidfgpijaa.CF
