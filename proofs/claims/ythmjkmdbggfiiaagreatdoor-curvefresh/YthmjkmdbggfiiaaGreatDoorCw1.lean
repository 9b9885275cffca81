import Derived.Test.YthmjkmdbggfiiaaGreatDoorCfN
import Derived.WalkKit
import Derived.WalkSpells
import Derived.WalkLawsBesides
import Derived.Deep.QuietTactic
import Derived.BigQuiet
import Derived.Laws.Shifts
import Derived.Laws.FloatArith
import Derived.Deep.DeepCutAuto
import Derived.Deep.CutBlock
namespace Go.Proofs.YthmjkmdbggfiiaaGreatDoor.CF
open Go.RowKit

/-- A fact that the walk does not see. -/
structure Hid (p : Prop) : Prop where
  out : p

theorem run_store_float {P : Program} {w : World} {a : Addr} {m : Mode} (k : FloatKind) (b : Nat) : (store a (.float k b) m).run P w = stored P w a (.float k b) m := run_store P w a _ m rfl
theorem bitsN_half {m : Nat} (h : 0 < m) : bitsN m = bitsN (m / 2) + 1 := by
  unfold bitsN
  rw [if_neg (by omega)]
  by_cases h1 : m / 2 = 0
  · rw [if_pos h1, show m = 1 by omega]
    rfl
  · rw [if_neg h1]
    congr 1
    rw [Nat.log2_eq_iff (by omega)]
    have h2 := Nat.log2_self_le h1
    have h3 : m / 2 < 2 ^ ((m / 2).log2 + 1) := Nat.lt_log2_self
    rw [Nat.pow_succ 2 ((m / 2).log2 + 1), Nat.pow_succ 2 (m / 2).log2] at *
    omega
theorem bitsN_le {m : Nat} (h : m < 18446744073709551616) : bitsN m ≤ 64 := by
  unfold bitsN
  split
  · omega
  · rename_i h0
    have := (Nat.log2_lt h0 (k := 64)).2 (by omega)
    omega
theorem wrap_u64_of {n : Int} (h0 : 0 ≤ n) (h1 : n < 18446744073709551616) : IntKind.u64.wrap n = n := by
  show n % 18446744073709551616 = n
  omega
theorem kept_facts (m : Nat) (s : Int) (more : Bool) (one r q : Int) (hs0 : 0 < s) (hs63 : s ≤ 63) (hb : (bitsN m : Int) - 24 ≤ s) (hone : one = ((2 ^ s.toNat : Nat) : Int)) (hr : (m : Int) % one = r) (hq : (m : Int) / one = q) : IntKind.u64.wrap (2 ^ s.toNat) = one ∧ 2 ≤ one ∧ 0 ≤ q ∧ q < 16777216 ∧ ((keptN m s more : Nat) : Int) = q + if one / 2 < r ∨ (r = one / 2 ∧ (more = true ∨ q % 2 = 1)) then 1 else 0 := by
  have hp : 2 ^ s.toNat ≤ 2 ^ 63 := Nat.pow_le_pow_right (by omega) (by omega)
  have hp1 : 2 ^ 1 ≤ 2 ^ s.toNat := Nat.pow_le_pow_right (by omega) (by omega)
  have hq1 : m / 2 ^ s.toNat < 16777216 := by
    rw [Nat.div_lt_iff_lt_mul (Nat.two_pow_pos _), show (16777216 : Nat) = 2 ^ 24 by decide, ← Nat.pow_add]
    exact Nat.lt_of_lt_of_le (lt_bits m) (Nat.pow_le_pow_right (by omega) (by omega))
  have hqN : q = ((m / 2 ^ s.toNat : Nat) : Int) := by rw [← hq, hone, Int.natCast_ediv]
  have hrN : r = ((m % 2 ^ s.toNat : Nat) : Int) := by rw [← hr, hone, Int.natCast_emod]
  have hoI : (2 : Int) ^ s.toNat = one := by rw [hone, Int.natCast_pow]; rfl
  refine ⟨?_, by omega, by rw [hqN]; exact Int.natCast_nonneg _, by rw [hqN]; exact Int.ofNat_lt.2 hq1, ?_⟩
  · rw [hoI]
    exact wrap_u64_of (by omega) (by omega)
  · unfold keptN
    rw [if_pos hs0, Int.natCast_add, ← hqN]
    congr 1
    have : (2 ^ s.toNat / 2 < m % 2 ^ s.toNat ∨ (m % 2 ^ s.toNat = 2 ^ s.toNat / 2 ∧ (more = true ∨ m / 2 ^ s.toNat % 2 = 1))) ↔ (one / 2 < r ∨ (r = one / 2 ∧ (more = true ∨ q % 2 = 1))) := by
      rw [hqN, hrN, hone]
      generalize 2 ^ s.toNat = O
      generalize m % O = R
      generalize m / O = Q
      constructor
      · rintro (h | ⟨h, h2⟩)
        · left; omega
        · right; exact ⟨by omega, h2.imp id (fun h => by omega)⟩
      · rintro (h | ⟨h, h2⟩)
        · left; omega
        · right; exact ⟨by omega, h2.imp id (fun h => by omega)⟩
    by_cases hc : one / 2 < r ∨ (r = one / 2 ∧ (more = true ∨ q % 2 = 1))
    · rw [if_pos hc, if_pos (this.2 hc)]; rfl
    · rw [if_neg hc, if_neg (fun h => hc (this.1 h))]; rfl
theorem half_lt {s : Int} (h : s ≤ 63) : ((2 ^ s.toNat : Nat) : Int) / 2 < 18446744073709551616 := by
  have hp : 2 ^ s.toNat ≤ 2 ^ 63 := Nat.pow_le_pow_right (by omega) (by omega)
  omega
theorem kept_neg (m : Nat) (s : Int) (more : Bool) (hs : ¬ 0 < s) (hb : (bitsN m : Int) - 24 ≤ s) : IntKind.u64.wrap ((m : Int) * 2 ^ (-s).toNat) = ((keptN m s more : Nat) : Int) := by
  unfold keptN
  rw [if_neg hs]
  have h1 : m * 2 ^ (-s).toNat < 2 ^ bitsN m * 2 ^ (-s).toNat := Nat.mul_lt_mul_of_pos_right (lt_bits m) (Nat.two_pow_pos _)
  rw [← Nat.pow_add] at h1
  have h24 : 2 ^ (bitsN m + (-s).toNat) ≤ 2 ^ 24 := Nat.pow_le_pow_right (by omega) (by omega)
  rw [Int.natCast_mul, Int.natCast_pow]
  refine wrap_u64_of (Int.mul_nonneg (by omega) (Int.pow_nonneg (by decide))) ?_
  have e : ((m : Int) * 2 ^ (-s).toNat) = ((m * 2 ^ (-s).toNat : Nat) : Int) := by rw [Int.natCast_mul, Int.natCast_pow]; rfl
  rw [e]
  omega
theorem kept_le (m : Nat) (s : Int) (more : Bool) (hb : (bitsN m : Int) - 24 ≤ s) : keptN m s more ≤ 16777216 := by
  unfold keptN
  split
  · have hq1 : m / 2 ^ s.toNat < 16777216 := by
      rw [Nat.div_lt_iff_lt_mul (Nat.two_pow_pos _), show (16777216 : Nat) = 2 ^ 24 by decide, ← Nat.pow_add]
      exact Nat.lt_of_lt_of_le (lt_bits m) (Nat.pow_le_pow_right (by omega) (by omega))
    split <;> omega
  · have h1 : m * 2 ^ (-s).toNat < 2 ^ bitsN m * 2 ^ (-s).toNat := Nat.mul_lt_mul_of_pos_right (lt_bits m) (Nat.two_pow_pos _)
    rw [← Nat.pow_add] at h1
    have h24 : 2 ^ (bitsN m + (-s).toNat) ≤ 2 ^ 24 := Nat.pow_le_pow_right (by omega) (by omega)
    omega
theorem packN_lt (K : Nat) (L : Int) (hK : K ≤ 16777216) : packN K L < 2147483648 := by
  unfold packN
  repeat (first | split | omega)
theorem packN_int (K : Nat) (L : Int) (hL : -149 ≤ L) : ((packN K L : Nat) : Int) = if (K : Int) = 16777216 then (if L + 1 + 150 ≥ 255 then 2139095040 else (L + 1 + 150) * 8388608) else if (K : Int) < 8388608 then (K : Int) else if L + 150 ≥ 255 then 2139095040 else (L + 150) * 8388608 + ((K : Int) - 8388608) := by
  unfold packN
  by_cases h1 : K = 16777216
  · rw [if_pos h1, if_pos (show (K : Int) = 16777216 by omega)]
    by_cases h2 : L + 1 + 150 ≥ 255
    · rw [if_pos h2, if_pos h2]; rfl
    · rw [if_neg h2, if_neg h2]; omega
  · rw [if_neg h1, if_neg (show ¬ (K : Int) = 16777216 by omega)]
    by_cases h2 : K < 8388608
    · rw [if_pos h2, if_pos (show (K : Int) < 8388608 by omega)]
    · rw [if_neg h2, if_neg (show ¬ (K : Int) < 8388608 by omega)]
      by_cases h3 : L + 150 ≥ 255
      · rw [if_pos h3, if_pos h3]; rfl
      · rw [if_neg h3, if_neg h3]; omega
end Go.Proofs.YthmjkmdbggfiiaaGreatDoor.CF
