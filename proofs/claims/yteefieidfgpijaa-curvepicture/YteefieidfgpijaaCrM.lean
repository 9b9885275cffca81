import Derived.Test.YteefieidfgpijaaCfP
namespace Go.Proofs.Yteefieidfgpijaa.CF

/-- A whole number other than 0, as a height. -/
theorem whole_some {z : Int} (h0 : z ≠ 0) (h1 : -9223372036854775808 ≤ z) (h2 : z ≤ 9223372036854775807) : wholeN z < 4294967296 ∧ wholeN z % 2147483648 < 2139095040 ∧ pM (wholeN z) ≠ 0 := by
  have hz : z.natAbs ≠ 0 := by omega
  have hl : z.natAbs.log2 ≤ 63 := by have := (Nat.log2_lt hz (k := 64)).2 (by omega); omega
  have key : ∀ s : Bool, rnd s z.natAbs 0 false < 4294967296 ∧ rnd s z.natAbs 0 false % 2147483648 < 2139095040 ∧ pM (rnd s z.natAbs 0 false) ≠ 0 := fun s => by
    obtain ⟨r, hr, h3, h4⟩ := rnd_norm s (m := z.natAbs) (e := 0) false hz (by omega) (by omega)
    have h5 : 1065353216 ≤ r ∧ r ≤ 1602224128 := by omega
    rw [hr]
    clear hr h3 h4
    unfold pM wd
    cases s <;> simp <;> (refine ⟨?_, ?_, ?_⟩ <;> (try split) <;> omega)
  unfold wholeN
  split
  · exact key true
  · exact key false
theorem divN_lt {a b : Nat} (ha : a < 4294967296) (hb : b < 4294967296) (h2 : b % 2147483648 < 2139095040) (h0 : pM b ≠ 0) : divN a b < 4294967296 := by
  rw [divN_eq ha hb h2 h0]
  unfold Ieee.Format.div
  by_cases h1 : a % 2147483648 < 2139095040
  · rw [read_fin ha h1, read_fin hb h2]
    unfold Ieee.Datum.quotient
    simp only
    rw [if_neg h0]
    simp only [Option.map_some, Option.getD_some, write_num]
    exact near_lt _ _ _
  · by_cases h3 : 2139095040 < a % 2147483648
    · obtain ⟨s, t, e⟩ := read_nan h3
      rw [e]
      unfold Ieee.Datum.quotient
      show 2143289344 < 4294967296
      decide
    · rw [read_inf ha (by omega), read_fin hb h2]
      show Ieee.single.write (.infinity (pS a ^^ pS b)) < _
      rw [write_inf']
      unfold wd
      split <;> omega
/-- The quotient of what is no NaN. -/
theorem div_le {a b : Nat} (ha : a < 4294967296) (hb : b < 4294967296) (h1 : a % 2147483648 ≤ 2139095040) (h2 : b % 2147483648 < 2139095040) (h0 : pM b ≠ 0) : Ieee.single.div a b = some (divN a b) := by
  by_cases h : a % 2147483648 < 2139095040
  · exact div_some ha hb h h2 h0
  · exact div_some_inf ha hb (by omega) h2 h0
/-- P17.4: each point's height divided by its place. -/
def rateN (D : List (Int × Nat)) : Nat → List (Int × Nat)
  | 0 => []
  | k + 1 => rateN D k ++ if (D.getD k (0, 0)).1 ≠ 0 ∧ (D.getD k (0, 0)).2 % 2147483648 < 2139095040 then [((D.getD k (0, 0)).1, divN (D.getD k (0, 0)).2 (wholeN (D.getD k (0, 0)).1))] else []
theorem rateN_len (D : List (Int × Nat)) : ∀ k, (rateN D k).length ≤ k
  | 0 => Nat.le_refl _
  | k + 1 => by
    have := rateN_len D k
    unfold rateN
    rw [List.length_append]
    split <;> simp <;> omega
/-- P17.5: the rise between neighbours. -/
def riseN (a b : Int × Nat) : Nat := divN (subN b.2 a.2) (wholeN (b.1 - a.1))
def slopeN (D : List (Int × Nat)) : Nat → List (Int × Nat)
  | 0 => []
  | k + 1 => slopeN D k ++ [((D.getD k (0, 0)).1, riseN (D.getD k (0, 0)) (D.getD (k + 1) (0, 0)))]
theorem slopeN_len (D : List (Int × Nat)) : ∀ k, (slopeN D k).length = k
  | 0 => rfl
  | k + 1 => by
    unfold slopeN
    rw [List.length_append, slopeN_len D k]
    rfl
end Go.Proofs.Yteefieidfgpijaa.CF
