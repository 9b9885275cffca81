import Derived.Test.YteefieidfgpijaaCpU
/- WHOLE NUMBERS AS HEIGHTS. No program. -/
namespace Go.Proofs.Yteefieidfgpijaa.CF

/-- The rung of a whole number. -/
def rW (m : Nat) : Nat := if m = 0 then 0 else (m.log2 + 127) * 8388608 + (m * 2 ^ (23 - m.log2) - 8388608)
theorem rW_parts {m : Nat} (h0 : m ≠ 0) (h : m < 16777216) : m.log2 ≤ 23 ∧ 8388608 ≤ m * 2 ^ (23 - m.log2) ∧ m * 2 ^ (23 - m.log2) < 16777216 ∧ rW m / 8388608 = m.log2 + 127 ∧ rW m % 8388608 + 8388608 = m * 2 ^ (23 - m.log2) := by
  have hl : m.log2 ≤ 23 := by have := (Nat.log2_lt h0 (k := 24)).2 (by omega); omega
  have h1 := Nat.log2_self_le h0
  have h2 : m < 2 ^ (m.log2 + 1) := Nat.lt_log2_self
  have e1 : 8388608 ≤ m * 2 ^ (23 - m.log2) := by
    have : 2 ^ m.log2 * 2 ^ (23 - m.log2) ≤ m * 2 ^ (23 - m.log2) := Nat.mul_le_mul_right _ h1
    rw [← Nat.pow_add, show m.log2 + (23 - m.log2) = 23 by omega] at this
    exact this
  have e2 : m * 2 ^ (23 - m.log2) < 16777216 := by
    have : m * 2 ^ (23 - m.log2) < 2 ^ (m.log2 + 1) * 2 ^ (23 - m.log2) := Nat.mul_lt_mul_of_pos_right h2 (Nat.two_pow_pos _)
    rw [← Nat.pow_add, show m.log2 + 1 + (23 - m.log2) = 24 by omega] at this
    exact this
  refine ⟨hl, e1, e2, ?_⟩
  unfold rW
  rw [if_neg h0]
  omega
theorem rW_lt {m : Nat} (h : m < 16777216) : rW m < 2139095040 := by
  by_cases h0 : m = 0
  · subst h0; decide
  · have := rW_parts h0 h; omega
theorem rW_vR {m : Nat} (h : m < 16777216) : vR (rW m) = m * 2 ^ 149 := by
  by_cases h0 : m = 0
  · subst h0; rfl
  · obtain ⟨a1, a2, a3, a4, a5⟩ := rW_parts h0 h
    unfold vR
    rw [if_neg (by omega), a5, a4, Nat.mul_assoc, ← Nat.pow_add]
    congr 2
    omega
theorem rW_zero : rW 0 = 0 := rfl
theorem rW_le {a b : Nat} (ha : a < 16777216) (hb : b < 16777216) : rW a ≤ rW b ↔ a ≤ b := by
  have h1 := (vR_iff (rW b) (rW a)).1
  rw [rW_vR ha, rW_vR hb, Nat.mul_lt_mul_right (Nat.two_pow_pos 149)] at h1
  omega
theorem near_W (s : Bool) {m : Nat} (h : m < 16777216) : Ieee.single.nearest s (m * 2 ^ 149) (-149) = wd s (rW m) := by
  by_cases h0 : m = 0
  · subst h0
    rw [Nat.zero_mul, nearest_zero]
    rfl
  · have := near_vR s (r := rW m) (by have := rW_parts h0 h; omega) (rW_lt h)
    rw [rW_vR h] at this
    exact this
theorem whole_W {z : Int} (h : z.natAbs < 16777216) : wholeN z = wd (decide (z < 0)) (rW z.natAbs) := by
  rw [wholeN_eq, near149 _ _ (by decide)]
  exact near_W _ h
theorem whole_parts {z : Int} (h : z.natAbs < 16777216) : wholeN z < 4294967296 ∧ wholeN z % 2147483648 = rW z.natAbs ∧ pS (wholeN z) = decide (z < 0) ∧ rW z.natAbs < 2139095040 := by
  have hl := rW_lt h
  rw [whole_W h]
  unfold wd pS
  by_cases hz : z < 0
  · rw [decide_eq_true hz, if_pos rfl, decide_eq_true (by omega)]
    exact ⟨by omega, by omega, rfl, hl⟩
  · rw [decide_eq_false hz, if_neg (by decide), decide_eq_false (by omega)]
    exact ⟨by omega, by omega, rfl, hl⟩
theorem wd_true (r : Nat) : wd true r = 2147483648 + r := by unfold wd; rw [if_pos rfl]
theorem whole_ord {z : Int} (h : z.natAbs < 16777216) : ordN (wholeN z) = if z < 0 then -((rW z.natAbs : Nat) : Int) else ((rW z.natAbs : Nat) : Int) := by
  have hl := rW_lt h
  rw [whole_W h]
  by_cases hz : z < 0
  · rw [decide_eq_true hz, if_pos hz, wd_true]
    unfold ordN
    rw [if_pos (by omega)]
    omega
  · rw [decide_eq_false hz, if_neg hz, wd_false]
    unfold ordN
    rw [if_neg (by omega)]
theorem rW_pos {m : Nat} (h0 : m ≠ 0) (h : m < 16777216) : 0 < rW m := by
  have := rW_parts h0 h; omega
theorem whole_le {x y : Int} (hx : x.natAbs < 16777216) (hy : y.natAbs < 16777216) : ordN (wholeN x) ≤ ordN (wholeN y) ↔ x ≤ y := by
  rw [whole_ord hx, whole_ord hy]
  have h1 := rW_le hx hy
  have h2 := rW_le hy hx
  have h3 : x.natAbs ≠ 0 → 0 < rW x.natAbs := fun h => rW_pos h hx
  have h4 : y.natAbs ≠ 0 → 0 < rW y.natAbs := fun h => rW_pos h hy
  split <;> split <;> omega
theorem sum_W (s t : Bool) {a b : Nat} (h : a + b < 16777216) : sumN s (a * 2 ^ 149) t (b * 2 ^ 149) (-149) = if s = t then wd s (rW (a + b)) else if a = b then 0 else if b ≤ a then wd s (rW (a - b)) else wd t (rW (b - a)) := by
  have hp := Nat.two_pow_pos 149
  unfold sumN
  rw [← Nat.add_mul, ← Nat.sub_mul, ← Nat.sub_mul, near_W s h, near_W s (by omega), near_W t (by omega)]
  by_cases h1 : s = t
  · rw [if_pos h1, if_pos h1]
  · rw [if_neg h1, if_neg h1]
    by_cases h2 : a = b
    · rw [if_pos h2, if_pos (by rw [h2])]
    · rw [if_neg h2, if_neg (fun e => h2 (Nat.eq_of_mul_eq_mul_right hp e))]
      by_cases h3 : b ≤ a
      · rw [if_pos h3, if_pos (Nat.mul_le_mul_right _ h3)]
      · rw [if_neg h3, if_neg (fun e => h3 (Nat.le_of_mul_le_mul_right e hp))]
theorem sum_whole {x y : Int} (s t : Bool) (hs : s = decide (x < 0)) (ht : t = decide (y < 0) ∨ (y = 0)) (h : x.natAbs + y.natAbs < 16777216) (h0 : x ≠ 0 ∨ t = decide (y < 0) ∨ s ≠ t) : (if s = t then wd s (rW (x.natAbs + y.natAbs)) else if x.natAbs = y.natAbs then 0 else if y.natAbs ≤ x.natAbs then wd s (rW (x.natAbs - y.natAbs)) else wd t (rW (y.natAbs - x.natAbs))) = wholeN (x + y) := by
  rw [whole_W (by omega)]
  subst hs
  by_cases hx : x < 0
  · rw [decide_eq_true hx] at *
    cases t with
    | true =>
      rw [if_pos rfl, decide_eq_true (show x + y < 0 by rcases ht with ht | ht
                                                        · have := of_decide_eq_true ht.symm; omega
                                                        · omega)]
      congr 2
      rcases ht with ht | ht
      · have := of_decide_eq_true ht.symm; omega
      · omega
    | false =>
      have hy : ¬ y < 0 := by
        rcases ht with ht | ht
        · exact of_decide_eq_false ht.symm
        · omega
      rw [if_neg (by decide)]
      by_cases e1 : x.natAbs = y.natAbs
      · rw [if_pos e1, decide_eq_false (by omega), show (x + y).natAbs = 0 by omega]
        rfl
      · rw [if_neg e1]
        by_cases e2 : y.natAbs ≤ x.natAbs
        · rw [if_pos e2, decide_eq_true (by omega), show (x + y).natAbs = x.natAbs - y.natAbs by omega]
        · rw [if_neg e2, decide_eq_false (by omega), show (x + y).natAbs = y.natAbs - x.natAbs by omega]
  · rw [decide_eq_false hx] at *
    cases t with
    | false =>
      have hy : ¬ y < 0 := by
        rcases ht with ht | ht
        · exact of_decide_eq_false ht.symm
        · omega
      rw [if_pos rfl, decide_eq_false (by omega), show (x + y).natAbs = x.natAbs + y.natAbs by omega]
    | true =>
      have hy : y ≤ 0 := by
        rcases ht with ht | ht
        · have := of_decide_eq_true ht.symm; omega
        · omega
      rw [if_neg (by decide)]
      by_cases e1 : x.natAbs = y.natAbs
      · rw [if_pos e1, decide_eq_false (by omega), show (x + y).natAbs = 0 by omega]
        rfl
      · rw [if_neg e1]
        by_cases e2 : y.natAbs ≤ x.natAbs
        · rw [if_pos e2, decide_eq_false (by omega), show (x + y).natAbs = x.natAbs - y.natAbs by omega]
        · rw [if_neg e2, decide_eq_true (by omega), show (x + y).natAbs = y.natAbs - x.natAbs by omega]
/-- Sums of whole numbers are exact. -/
theorem add_whole {x y : Int} (h : x.natAbs + y.natAbs < 16777216) : addN (wholeN x) (wholeN y) = wholeN (x + y) := by
  obtain ⟨x1, x2, x3, x4⟩ := whole_parts (z := x) (by omega)
  obtain ⟨y1, y2, y3, y4⟩ := whole_parts (z := y) (by omega)
  rw [addN_val (by omega) (by omega), x2, y2, x3, y3, rW_vR (by omega), rW_vR (by omega), sum_W _ _ h]
  exact sum_whole _ _ rfl (.inl rfl) h (.inr (.inl rfl))
theorem sub_whole {x y : Int} (h : x.natAbs + y.natAbs < 16777216) : subN (wholeN x) (wholeN y) = wholeN (x - y) := by
  obtain ⟨x1, x2, x3, x4⟩ := whole_parts (z := x) (by omega)
  obtain ⟨y1, y2, y3, y4⟩ := whole_parts (z := y) (by omega)
  have m1 := negN_mod (wholeN y) y1
  have s1 : pS (negN (wholeN y)) = !decide (y < 0) := by
    rw [← y3]
    unfold pS negN
    by_cases hc : 2147483648 ≤ wholeN y
    · rw [if_pos hc, decide_eq_true hc, decide_eq_false (by omega)]; rfl
    · rw [if_neg hc, decide_eq_false hc, decide_eq_true (by omega)]; rfl
  unfold subN
  rw [addN_val (by omega) (by omega), x2, m1, y2, x3, s1, rW_vR (by omega), rW_vR (by omega), sum_W _ _ h]
  have e : x - y = x + (-y) := by omega
  rw [e, show y.natAbs = (-y).natAbs by omega]
  by_cases hy : y = 0
  · subst hy
    by_cases hx : x < 0
    · rw [decide_eq_true hx]
      exact sum_whole _ _ (decide_eq_true hx).symm (.inr rfl) (by omega) (.inl (by omega))
    · rw [decide_eq_false hx]
      exact sum_whole _ _ (decide_eq_false hx).symm (.inr rfl) (by omega) (.inr (.inr (by decide)))
  · refine sum_whole _ _ rfl (.inl ?_) (by omega) (.inr (.inl ?_))
    all_goals
      by_cases hc : y < 0
      · rw [decide_eq_true hc, decide_eq_false (by omega)]; rfl
      · rw [decide_eq_false hc, decide_eq_true (by omega)]; rfl
end Go.Proofs.Yteefieidfgpijaa.CF
