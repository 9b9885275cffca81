import Derived.Test.YteefieidfgpijaaCpN
namespace Go.Proofs.Yteefieidfgpijaa.CF

theorem sumN_scale (s : Bool) (A : Nat) (t : Bool) (B : Nat) (e : Int) (k : Nat) : sumN s (A * 2 ^ k) t (B * 2 ^ k) (e - k) = sumN s A t B e := by
  have hp := Nat.two_pow_pos k
  unfold sumN
  by_cases h1 : s = t
  · rw [if_pos h1, if_pos h1, ← Nat.add_mul]
    exact nearest_scale _ _ _ _
  · rw [if_neg h1, if_neg h1]
    by_cases h2 : A = B
    · rw [if_pos h2, if_pos (by rw [h2])]
    · rw [if_neg h2, if_neg (fun e => h2 (Nat.eq_of_mul_eq_mul_right hp e))]
      by_cases h3 : B ≤ A
      · rw [if_pos h3, if_pos (Nat.mul_le_mul_right _ h3), ← Nat.sub_mul]
        exact nearest_scale _ _ _ _
      · rw [if_neg h3, if_neg (fun e => h3 (Nat.le_of_mul_le_mul_right e hp)), ← Nat.sub_mul]
        exact nearest_scale _ _ _ _
theorem sumN_comm (s : Bool) (A : Nat) (t : Bool) (B : Nat) (e : Int) : sumN s A t B e = sumN t B s A e := by
  unfold sumN
  by_cases h1 : s = t
  · rw [if_pos h1, if_pos h1.symm, h1, Nat.add_comm]
  · have h1' : ¬ t = s := fun e => h1 e.symm
    rw [if_neg h1, if_neg h1']
    by_cases h2 : A = B
    · rw [if_pos h2, if_pos h2.symm]
    · have h2' : ¬ B = A := fun e => h2 e.symm
      rw [if_neg h2, if_neg h2']
      by_cases h3 : B ≤ A
      · rw [if_pos h3, if_neg (by omega)]
      · rw [if_neg h3, if_pos (by omega)]
theorem val_eq {a b : Nat} (h : pE b ≤ pE a) : pM a * 2 ^ (pE a - pE b).toNat * 2 ^ (pE b + 149).toNat = vR (a % 2147483648) := by
  have := pE_le b
  rw [← vR_eq a, Nat.mul_assoc, ← Nat.pow_add]
  congr 2
  omega
/-- A sum, in units of the smallest height. -/
theorem addN_val {a b : Nat} (fa : a % 2147483648 < 2139095040) (fb : b % 2147483648 < 2139095040) : addN a b = sumN (pS a) (vR (a % 2147483648)) (pS b) (vR (b % 2147483648)) (-149) := by
  have hpa := pE_le a
  have hpb := pE_le b
  unfold addN
  rw [if_neg (by omega), if_neg (by omega), if_neg (by omega)]
  unfold swapF
  split
  · rw [addF_eq _ _ _ _ _ _ (by omega) (pM_lt b) (pM_lt a) (fun h => pM_norm (by omega)), sumN_comm, ← sumN_scale _ _ _ _ _ (pE a + 149).toNat, val_eq (by omega), vR_eq, show pE a - ((pE a + 149).toNat : Int) = -149 by omega]
  · rw [addF_eq _ _ _ _ _ _ (by omega) (pM_lt a) (pM_lt b) (fun h => pM_norm (by omega)), ← sumN_scale _ _ _ _ _ (pE b + 149).toNat, val_eq (by omega), vR_eq, show pE b - ((pE b + 149).toNat : Int) = -149 by omega]
/-- The value of a height, in units of the smallest. -/
def sv (a : Nat) : Int := if 2147483648 ≤ a then -(vR (a % 2147483648) : Int) else (vR (a % 2147483648) : Int)
theorem sv_lt {a b : Nat} (ha : a < 4294967296) (hb : b < 4294967296) : sv a < sv b ↔ ordN a < ordN b := by
  have i1 := vR_iff (a % 2147483648) (b % 2147483648)
  have i2 := vR_iff (b % 2147483648) (a % 2147483648)
  have i3 := vR_iff 0 (a % 2147483648)
  have i4 := vR_iff 0 (b % 2147483648)
  rw [vR_zero] at i3 i4
  have e1 : 2147483648 ≤ a → a - 2147483648 = a % 2147483648 := fun h => by omega
  have e2 : ¬ 2147483648 ≤ a → a = a % 2147483648 := fun h => by omega
  have e3 : 2147483648 ≤ b → b - 2147483648 = b % 2147483648 := fun h => by omega
  have e4 : ¬ 2147483648 ≤ b → b = b % 2147483648 := fun h => by omega
  unfold sv ordN
  split <;> split <;> omega
end Go.Proofs.Yteefieidfgpijaa.CF
