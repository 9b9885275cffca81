import Derived.Test.YthmjkmdbggfiiaaGreatDoorJoin27
/- WHOLE NUMBERS AS HEIGHTS. No program. -/
namespace Go.Proofs.YthmjkmdbggfiiaaGreatDoor.CF

/-- The rung of a whole number. -/
def rW (m : Nat) : Nat := if m = 0 then 0 else (m.log2 + 127) * 8388608 + (m * 2 ^ (23 - m.log2) - 8388608)
theorem rW_parts {m : Nat} (h0 : m ≠ 0) (h : m < 16777216) : m.log2 ≤ 23 ∧ 8388608 ≤ m * 2 ^ (23 - m.log2) ∧ m * 2 ^ (23 - m.log2) < 16777216 ∧ rW m / 8388608 = m.log2 + 127 ∧ rW m % 8388608 + 8388608 = m * 2 ^ (23 - m.log2) := by
  have hl : m.log2 ≤ 23 := by have := (Nat.log2_lt h0 (k := 24)).2 (by omega); omega
  have h1 := Nat.log2_self_le h0
  have h2 : m < 2 ^ (m.log2 + 1) := Nat.lt_log2_self
  have e1 : 8388608 ≤ m * 2 ^ (23 - m.log2) := by
    have : 2 ^ m.log2 * 2 ^ (23 - m.log2) ≤ m * 2 ^ (23 - m.log2) := Nat.mul_le_mul_right _ h1
    rw [← Nat.pow_add, show m.log2 + (23 - m.log2) = 23 by omega] at this
    exact this
  have e2 : m * 2 ^ (23 - m.log2) < 16777216 := by
    have : m * 2 ^ (23 - m.log2) < 2 ^ (m.log2 + 1) * 2 ^ (23 - m.log2) := Nat.mul_lt_mul_of_pos_right h2 (Nat.two_pow_pos _)
    rw [← Nat.pow_add, show m.log2 + 1 + (23 - m.log2) = 24 by omega] at this
    exact this
  refine ⟨hl, e1, e2, ?_⟩
  unfold rW
  rw [if_neg h0]
  omega
theorem rW_lt {m : Nat} (h : m < 16777216) : rW m < 2139095040 := by
  by_cases h0 : m = 0
  · subst h0; decide
  · have := rW_parts h0 h; omega
theorem rW_vR {m : Nat} (h : m < 16777216) : vR (rW m) = m * 2 ^ 149 := by
  by_cases h0 : m = 0
  · subst h0; rfl
  · obtain ⟨a1, a2, a3, a4, a5⟩ := rW_parts h0 h
    unfold vR
    rw [if_neg (by omega), a5, a4, Nat.mul_assoc, ← Nat.pow_add]
    congr 2
    omega
theorem rW_zero : rW 0 = 0 := rfl
theorem rW_le {a b : Nat} (ha : a < 16777216) (hb : b < 16777216) : rW a ≤ rW b ↔ a ≤ b := by
  have h1 := (vR_iff (rW b) (rW a)).1
  rw [rW_vR ha, rW_vR hb, Nat.mul_lt_mul_right (Nat.two_pow_pos 149)] at h1
  omega
theorem near_W (s : Bool) {m : Nat} (h : m < 16777216) : Ieee.single.nearest s (m * 2 ^ 149) (-149) = wd s (rW m) := by
  by_cases h0 : m = 0
  · subst h0
    rw [Nat.zero_mul, nearest_zero]
    rfl
  · have := near_vR s (r := rW m) (by have := rW_parts h0 h; omega) (rW_lt h)
    rw [rW_vR h] at this
    exact this
theorem whole_W {z : Int} (h : z.natAbs < 16777216) : wholeN z = wd (decide (z < 0)) (rW z.natAbs) := by
  rw [wholeN_eq, near149 _ _ (by decide)]
  exact near_W _ h
theorem whole_parts {z : Int} (h : z.natAbs < 16777216) : wholeN z < 4294967296 ∧ wholeN z % 2147483648 = rW z.natAbs ∧ pS (wholeN z) = decide (z < 0) ∧ rW z.natAbs < 2139095040 := by
  have hl := rW_lt h
  rw [whole_W h]
  unfold wd pS
  by_cases hz : z < 0
  · rw [decide_eq_true hz, if_pos rfl, decide_eq_true (by omega)]
    exact ⟨by omega, by omega, rfl, hl⟩
  · rw [decide_eq_false hz, if_neg (by decide), decide_eq_false (by omega)]
    exact ⟨by omega, by omega, rfl, hl⟩
theorem wd_true (r : Nat) : wd true r = 2147483648 + r := by unfold wd; rw [if_pos rfl]
theorem whole_ord {z : Int} (h : z.natAbs < 16777216) : ordN (wholeN z) = if z < 0 then -((rW z.natAbs : Nat) : Int) else ((rW z.natAbs : Nat) : Int) := by
  have hl := rW_lt h
  rw [whole_W h]
  by_cases hz : z < 0
  · rw [decide_eq_true hz, if_pos hz, wd_true]
    unfold ordN
    rw [if_pos (by omega)]
    omega
  · rw [decide_eq_false hz, if_neg hz, wd_false]
    unfold ordN
    rw [if_neg (by omega)]
theorem rW_pos {m : Nat} (h0 : m ≠ 0) (h : m < 16777216) : 0 < rW m := by
  have := rW_parts h0 h; omega
theorem whole_le {x y : Int} (hx : x.natAbs < 16777216) (hy : y.natAbs < 16777216) : ordN (wholeN x) ≤ ordN (wholeN y) ↔ x ≤ y := by
  rw [whole_ord hx, whole_ord hy]
  have h1 := rW_le hx hy
  have h2 := rW_le hy hx
  have h3 : x.natAbs ≠ 0 → 0 < rW x.natAbs := fun h => rW_pos h hx
  have h4 : y.natAbs ≠ 0 → 0 < rW y.natAbs := fun h => rW_pos h hy
  split <;> split <;> omega
theorem sum_W (s t : Bool) {a b : Nat} (h : a + b < 16777216) : sumN s (a * 2 ^ 149) t (b * 2 ^ 149) (-149) = if s = t then wd s (rW (a + b)) else if a = b then 0 else if b ≤ a then wd s (rW (a - b)) else wd t (rW (b - a)) := by
  have hp := Nat.two_pow_pos 149
  unfold sumN
  rw [← Nat.add_mul, ← Nat.sub_mul, ← Nat.sub_mul, near_W s h, near_W s (by omega), near_W t (by omega)]
  by_cases h1 : s = t
  · rw [if_pos h1, if_pos h1]
  · rw [if_neg h1, if_neg h1]
    by_cases h2 : a = b
    · rw [if_pos h2, if_pos (by rw [h2])]
    · rw [if_neg h2, if_neg (fun e => h2 (Nat.eq_of_mul_eq_mul_right hp e))]
      by_cases h3 : b ≤ a
      · rw [if_pos h3, if_pos (Nat.mul_le_mul_right _ h3)]
      · rw [if_neg h3, if_neg (fun e => h3 (Nat.le_of_mul_le_mul_right e hp))]
theorem sum_whole {x y : Int} (s t : Bool) (hs : s = decide (x < 0)) (ht : t = decide (y < 0) ∨ (y = 0)) (h : x.natAbs + y.natAbs < 16777216) (h0 : x ≠ 0 ∨ t = decide (y < 0) ∨ s ≠ t) : (if s = t then wd s (rW (x.natAbs + y.natAbs)) else if x.natAbs = y.natAbs then 0 else if y.natAbs ≤ x.natAbs then wd s (rW (x.natAbs - y.natAbs)) else wd t (rW (y.natAbs - x.natAbs))) = wholeN (x + y) := by
  rw [whole_W (by omega)]
  subst hs
  by_cases hx : x < 0
  · rw [decide_eq_true hx] at *
    cases t with
    | true =>
      rw [if_pos rfl, decide_eq_true (show x + y < 0 by rcases ht with ht | ht
                                                        · have := of_decide_eq_true ht.symm; omega
                                                        · omega)]
      congr 2
      rcases ht with ht | ht
      · have := of_decide_eq_true ht.symm; omega
      · omega
    | false =>
      have hy : ¬ y < 0 := by
        rcases ht with ht | ht
        · exact of_decide_eq_false ht.symm
        · omega
      rw [if_neg (by decide)]
      by_cases e1 : x.natAbs = y.natAbs
      · rw [if_pos e1, decide_eq_false (by omega), show (x + y).natAbs = 0 by omega]
        rfl
      · rw [if_neg e1]
        by_cases e2 : y.natAbs ≤ x.natAbs
        · rw [if_pos e2, decide_eq_true (by omega), show (x + y).natAbs = x.natAbs - y.natAbs by omega]
        · rw [if_neg e2, decide_eq_false (by omega), show (x + y).natAbs = y.natAbs - x.natAbs by omega]
  · rw [decide_eq_false hx] at *
    cases t with
    | false =>
      have hy : ¬ y < 0 := by
        rcases ht with ht | ht
        · exact of_decide_eq_false ht.symm
        · omega
      rw [if_pos rfl, decide_eq_false (by omega), show (x + y).natAbs = x.natAbs + y.natAbs by omega]
    | true =>
      have hy : y ≤ 0 := by
        rcases ht with ht | ht
        · have := of_decide_eq_true ht.symm; omega
        · omega
      rw [if_neg (by decide)]
      by_cases e1 : x.natAbs = y.natAbs
      · rw [if_pos e1, decide_eq_false (by omega), show (x + y).natAbs = 0 by omega]
        rfl
      · rw [if_neg e1]
        by_cases e2 : y.natAbs ≤ x.natAbs
        · rw [if_pos e2, decide_eq_false (by omega), show (x + y).natAbs = x.natAbs - y.natAbs by omega]
        · rw [if_neg e2, decide_eq_true (by omega), show (x + y).natAbs = y.natAbs - x.natAbs by omega]
/-- Sums of whole numbers are exact. -/
theorem add_whole {x y : Int} (h : x.natAbs + y.natAbs < 16777216) : addN (wholeN x) (wholeN y) = wholeN (x + y) := by
  obtain ⟨x1, x2, x3, x4⟩ := whole_parts (z := x) (by omega)
  obtain ⟨y1, y2, y3, y4⟩ := whole_parts (z := y) (by omega)
  rw [addN_val (by omega) (by omega), x2, y2, x3, y3, rW_vR (by omega), rW_vR (by omega), sum_W _ _ h]
  exact sum_whole _ _ rfl (.inl rfl) h (.inr (.inl rfl))
theorem sub_whole {x y : Int} (h : x.natAbs + y.natAbs < 16777216) : subN (wholeN x) (wholeN y) = wholeN (x - y) := by
  obtain ⟨x1, x2, x3, x4⟩ := whole_parts (z := x) (by omega)
  obtain ⟨y1, y2, y3, y4⟩ := whole_parts (z := y) (by omega)
  have m1 := negN_mod (wholeN y) y1
  have s1 : pS (negN (wholeN y)) = !decide (y < 0) := by
    rw [← y3]
    unfold pS negN
    by_cases hc : 2147483648 ≤ wholeN y
    · rw [if_pos hc, decide_eq_true hc, decide_eq_false (by omega)]; rfl
    · rw [if_neg hc, decide_eq_false hc, decide_eq_true (by omega)]; rfl
  unfold subN
  rw [addN_val (by omega) (by omega), x2, m1, y2, x3, s1, rW_vR (by omega), rW_vR (by omega), sum_W _ _ h]
  have e : x - y = x + (-y) := by omega
  rw [e, show y.natAbs = (-y).natAbs by omega]
  by_cases hy : y = 0
  · subst hy
    by_cases hx : x < 0
    · rw [decide_eq_true hx]
      exact sum_whole _ _ (decide_eq_true hx).symm (.inr rfl) (by omega) (.inl (by omega))
    · rw [decide_eq_false hx]
      exact sum_whole _ _ (decide_eq_false hx).symm (.inr rfl) (by omega) (.inr (.inr (by decide)))
  · refine sum_whole _ _ rfl (.inl ?_) (by omega) (.inr (.inl ?_))
    all_goals
      by_cases hc : y < 0
      · rw [decide_eq_true hc, decide_eq_false (by omega)]; rfl
      · rw [decide_eq_false hc, decide_eq_true (by omega)]; rfl
end Go.Proofs.YthmjkmdbggfiiaaGreatDoor.CF


namespace Go.Proofs.YthmjkmdbggfiiaaGreatDoor.CF

theorem whole_pME {z : Int} (h0 : z ≠ 0) (h : z.natAbs < 16777216) : pM (wholeN z) = z.natAbs * 2 ^ (23 - z.natAbs.log2) ∧ pE (wholeN z) = (z.natAbs.log2 : Int) - 23 ∧ padN (pM (wholeN z)) = 0 ∧ z.natAbs.log2 ≤ 23 ∧ 8388608 ≤ pM (wholeN z) ∧ pM (wholeN z) < 16777216 := by
  obtain ⟨x1, x2, x3, x4⟩ := whole_parts h
  obtain ⟨a1, a2, a3, a4, a5⟩ := rW_parts (m := z.natAbs) (by omega) h
  have e1 : wholeN z % 8388608 = rW z.natAbs % 8388608 := by omega
  have hM : pM (wholeN z) = z.natAbs * 2 ^ (23 - z.natAbs.log2) := by
    unfold pM
    rw [x2, if_neg (by omega), e1, a5]
  refine ⟨hM, ?_, ?_, a1, by omega, by omega⟩
  · unfold pE
    rw [x2, if_neg (by omega), a4]
    omega
  · unfold padN
    rw [hM, log2_norm a2 a3]
/-- A quotient of whole numbers, without its sign. -/
theorem quo_abs (s : Bool) {S n : Nat} (h1 : 1 ≤ S) (h2 : S < 16777216) (n1 : 1 ≤ n) (n2 : n < 16777216) : ∃ r, rnd s (S * 2 ^ (23 - S.log2) * 2 ^ 0 * 2 ^ 38 / (n * 2 ^ (23 - n.log2) * 2 ^ 0)) ((S.log2 : Int) - 23 - (0 : Nat) - ((n.log2 : Int) - 23 - (0 : Nat)) - 38) (decide (0 < S * 2 ^ (23 - S.log2) * 2 ^ 0 * 2 ^ 38 % (n * 2 ^ (23 - n.log2) * 2 ^ 0))) = wd s r ∧ r ≤ 2139095040 ∧ ∀ z, z < 16777216 → (S ≤ z * n → r ≤ rW z) ∧ (z * n ≤ S → rW z ≤ r) := by
  obtain ⟨a1, a2, a3, -, -⟩ := rW_parts (m := S) (by omega) h2
  obtain ⟨b1, b2, b3, -, -⟩ := rW_parts (m := n) (by omega) n2
  obtain ⟨lS, hlS⟩ : ∃ l, S.log2 = l := ⟨_, rfl⟩
  obtain ⟨ln, hln⟩ : ∃ l, n.log2 = l := ⟨_, rfl⟩
  rw [hlS] at a1 a2 a3 ⊢
  rw [hln] at b1 b2 b3 ⊢
  rw [Nat.pow_zero, Nat.mul_one, Nat.mul_one]
  obtain ⟨A, hA⟩ : ∃ A, A = S * 2 ^ (23 - lS) * 2 ^ 38 := ⟨_, rfl⟩
  obtain ⟨B, hB⟩ : ∃ B, B = n * 2 ^ (23 - ln) := ⟨_, rfl⟩
  have hq : 16777216 ≤ A / B := by rw [Nat.le_div_iff_mul_le (by omega)]; omega
  rw [← hA, ← hB, rnd_eq _ _ _ _ (fun _ => hq)]
  have eP : (lS : Int) - 23 - ((0 : Nat) : Int) - ((ln : Int) - 23 - ((0 : Nat) : Int)) - 38 - 1 = (lS : Int) - (ln : Int) - 39 := by omega
  rw [eP, near149 _ _ (by omega)]
  obtain ⟨P, hP⟩ : ∃ P : Nat, ((lS : Int) - (ln : Int) - 39 + 149).toNat = P ∧ (P : Int) = (lS : Int) - ln + 110 := ⟨((lS : Int) - (ln : Int) - 39 + 149).toNat, rfl, by omega⟩
  rw [hP.1]
  obtain ⟨m, hm⟩ : ∃ m, m = 2 * (A / B) + (decide (0 < A % B)).toNat := ⟨_, rfl⟩
  rw [← hm]
  have hm0 : m * 2 ^ P ≠ 0 := Nat.mul_ne_zero (by omega) (Nat.pos_iff_ne_zero.1 (Nat.two_pow_pos P))
  have hlate : ∀ t : Bool, ∃ r, Ieee.single.nearest t (m * 2 ^ P) (-149) = wd t r ∧ Ieee.single.nearest false (m * 2 ^ P) (-149) = r := fun t => by
    rw [nearest_eq _ _ _ hm0, nearest_eq _ _ _ hm0]
    exact ⟨_, rfl, wd_false _⟩
  obtain ⟨r, hr1, hr2⟩ := hlate s
  refine ⟨r, hr1, by rw [← hr2]; exact near_f _ _, fun z hz => ?_⟩
  obtain ⟨E, hE⟩ : ∃ E : Nat, (E : Int) = 38 + (ln : Int) - lS := ⟨(38 + (ln : Int) - lS).toNat, by omega⟩
  have hZ : z * n * 2 ^ (61 - lS) = z * 2 ^ E * B := by
    rw [hB, show 61 - lS = E + (23 - ln) by omega, Nat.pow_add]
    simp only [Nat.mul_assoc, Nat.mul_left_comm, Nat.mul_comm]
  have hA2 : A = S * 2 ^ (61 - lS) := by rw [hA, Nat.mul_assoc, ← Nat.pow_add]; congr 2; omega
  have h149 : z * 2 ^ 149 = 2 * (z * 2 ^ E) * 2 ^ P := by
    rw [show (149 : Nat) = 1 + E + P by omega, Nat.pow_add, Nat.pow_add]
    simp only [Nat.pow_one, Nat.mul_assoc, Nat.mul_left_comm]
  have hdm := Nat.div_add_mod A B
  have hB0 : 0 < B := by omega
  constructor
  · intro hle
    have h3 : A ≤ z * 2 ^ E * B := by rw [← hZ, hA2]; exact Nat.mul_le_mul_right _ hle
    rw [← hr2]
    refine near_below (rW_lt hz) ?_
    rw [rW_vR hz, h149]
    refine Nat.mul_le_mul_right _ ?_
    generalize z * 2 ^ E = Q at *
    rw [hm]
    by_cases hc : 0 < A % B
    · rw [decide_eq_true hc]
      have : A / B < Q := by rw [Nat.div_lt_iff_lt_mul hB0]; exact Nat.lt_of_le_of_ne h3 (fun e => by rw [e, Nat.mul_mod_left] at hc; omega)
      rw [Bool.toNat_true]
      omega
    · rw [decide_eq_false hc]
      have : A / B ≤ Q := Nat.div_le_of_le_mul (by rw [Nat.mul_comm]; exact h3)
      rw [Bool.toNat_false]
      omega
  · intro hle
    have h3 : z * 2 ^ E * B ≤ A := by rw [← hZ, hA2]; exact Nat.mul_le_mul_right _ hle
    rw [← hr2]
    refine near_above (rW_lt hz) ?_
    rw [rW_vR hz, h149]
    refine Nat.mul_le_mul_right _ ?_
    generalize z * 2 ^ E = Q at *
    have : Q ≤ A / B := (Nat.le_div_iff_mul_le hB0).2 h3
    omega
/-- A quotient of whole numbers lies between those that the quotient lies between. -/
theorem quo_whole {S : Int} {n : Nat} (hS : S.natAbs < 16777216) (n1 : 1 ≤ n) (n2 : n < 16777216) : divN (wholeN S) (wholeN (n : Int)) < 4294967296 ∧ divN (wholeN S) (wholeN (n : Int)) % 2147483648 < 2139095040 ∧ ∀ z : Int, z.natAbs < 16777216 → (S ≤ z * n → ordN (divN (wholeN S) (wholeN (n : Int))) ≤ ordN (wholeN z)) ∧ (z * n ≤ S → ordN (wholeN z) ≤ ordN (divN (wholeN S) (wholeN (n : Int)))) := by
  have hn : ((n : Int)).natAbs < 16777216 := by omega
  obtain ⟨x1, x2, x3, x4⟩ := whole_parts hS
  obtain ⟨y1, y2, y3, y4⟩ := whole_parts hn
  have sn : pS (wholeN (n : Int)) = false := by rw [y3]; exact decide_eq_false (by omega)
  by_cases hS0 : S = 0
  · subst hS0
    have e : divN (wholeN 0) (wholeN (n : Int)) = 0 := by
      have e0 : wholeN 0 = 0 := rfl
      rw [e0]
      unfold divN
      rw [if_neg (by decide), if_pos (show pM 0 = 0 from rfl), sn]
      rfl
    rw [e]
    refine ⟨by decide, by decide, fun z hz => ?_⟩
    have e1 := whole_le (x := 0) (y := z) (by decide) hz
    have e2 := whole_le (x := z) (y := 0) hz (by decide)
    have e3 : wholeN 0 = 0 := rfl
    rw [e3] at e1 e2
    refine ⟨fun h => e1.2 ?_, fun h => e2.2 ?_⟩
    · exact Int.not_lt.1 (fun hc => by have := Int.mul_neg_of_neg_of_pos hc (show (0 : Int) < n by omega); omega)
    · exact Int.not_lt.1 (fun hc => by have := Int.mul_pos hc (show (0 : Int) < n by omega); omega)
  · obtain ⟨u1, u2, u3, u4, u5, u6⟩ := whole_pME hS0 hS
    obtain ⟨v1, v2, v3, v4, v5, v6⟩ := whole_pME (z := (n : Int)) (by omega) hn
    have e : divN (wholeN S) (wholeN (n : Int)) = rnd (decide (S < 0)) (S.natAbs * 2 ^ (23 - S.natAbs.log2) * 2 ^ 0 * 2 ^ 38 / (n * 2 ^ (23 - n.log2) * 2 ^ 0)) ((S.natAbs.log2 : Int) - 23 - (0 : Nat) - ((n.log2 : Int) - 23 - (0 : Nat)) - 38) (decide (0 < S.natAbs * 2 ^ (23 - S.natAbs.log2) * 2 ^ 0 * 2 ^ 38 % (n * 2 ^ (23 - n.log2) * 2 ^ 0))) := by
      unfold divN
      rw [if_neg (by omega), if_neg (by omega), u3, v3, u1, v1, u2, v2, x3, sn]
      simp only [Int.natAbs_natCast, Bool.bne_false]
    obtain ⟨r, hr, hr0, hz⟩ := quo_abs (decide (S < 0)) (S := S.natAbs) (n := n) (by omega) hS n1 n2
    rw [e, hr]
    have hrl := (hz S.natAbs hS).1 (Nat.le_mul_of_pos_right _ (by omega))
    have hrf := rW_lt hS
    by_cases hneg : S < 0
    · rw [decide_eq_true hneg]
      have eo : ordN (wd true r) = -(r : Int) := by
        rw [wd_true]
        unfold ordN
        rw [if_pos (by omega)]
        omega
      rw [eo]
      refine ⟨by rw [wd_true]; omega, by rw [wd_true]; omega, fun z hzb => ?_⟩
      rw [whole_ord hzb]
      obtain ⟨k1, k2⟩ := hz z.natAbs hzb
      constructor
      · intro hle
        by_cases hzn : z < 0
        · rw [if_pos hzn]
          have : z.natAbs * n ≤ S.natAbs := by
            have e : ((z.natAbs * n : Nat) : Int) = -(z * n) := by rw [Int.natCast_mul, show (z.natAbs : Int) = -z by omega, Int.neg_mul]
            omega
          have := k2 this
          omega
        · rw [if_neg hzn]
          omega
      · intro hle
        have hzn : z < 0 := Int.not_le.1 (fun hc => by have := Int.mul_nonneg hc (show (0 : Int) ≤ n by omega); omega)
        rw [if_pos hzn]
        have : S.natAbs ≤ z.natAbs * n := by
          have e : ((z.natAbs * n : Nat) : Int) = -(z * n) := by rw [Int.natCast_mul, show (z.natAbs : Int) = -z by omega, Int.neg_mul]
          omega
        have := k1 this
        omega
    · rw [decide_eq_false hneg]
      have eo : ordN (wd false r) = (r : Int) := by
        rw [wd_false]
        unfold ordN
        rw [if_neg (by omega)]
      rw [eo]
      refine ⟨by rw [wd_false]; omega, by rw [wd_false]; omega, fun z hzb => ?_⟩
      rw [whole_ord hzb]
      obtain ⟨k1, k2⟩ := hz z.natAbs hzb
      constructor
      · intro hle
        have hzn : ¬ z < 0 := fun hc => by have := Int.mul_neg_of_neg_of_pos hc (show (0 : Int) < n by omega); omega
        rw [if_neg hzn]
        have : S.natAbs ≤ z.natAbs * n := by
          have e : ((z.natAbs * n : Nat) : Int) = z * n := by rw [Int.natCast_mul, show (z.natAbs : Int) = z by omega]
          omega
        have := k1 this
        omega
      · intro hle
        by_cases hzn : z < 0
        · rw [if_pos hzn]
          omega
        · rw [if_neg hzn]
          have : z.natAbs * n ≤ S.natAbs := by
            have e : ((z.natAbs * n : Nat) : Int) = z * n := by rw [Int.natCast_mul, show (z.natAbs : Int) = z by omega]
            omega
          have := k2 this
          omega
/-- Half of an even number. -/
theorem half_whole {z : Int} (h : (2 * z).natAbs < 16777216) : mulN (wholeN (2 * z)) 1056964608 = wholeN z := by
  obtain ⟨x1, x2, x3, x4⟩ := whole_parts h
  have hh : pS 1056964608 = false := by decide
  have hM : pM 1056964608 = 8388608 := by decide
  have hE : pE 1056964608 = -24 := by decide
  unfold mulN
  rw [rnd_exact, hh, hM, hE, x3, Bool.bne_false]
  by_cases h0 : z = 0
  · subst h0
    rfl
  · obtain ⟨u1, u2, u3, u4, u5, u6⟩ := whole_pME (z := 2 * z) (by omega) h
    have hv := vR_eq (wholeN (2 * z))
    rw [x2, rW_vR h] at hv
    rw [near149 _ _ (by omega)]
    have e : pM (wholeN (2 * z)) * 8388608 * 2 ^ (pE (wholeN (2 * z)) + -24 + 149).toNat = z.natAbs * 2 ^ 149 := by
      have e1 : (pE (wholeN (2 * z)) + 149).toNat = (pE (wholeN (2 * z)) + -24 + 149).toNat + 24 := by omega
      rw [e1, Nat.pow_add, show (2 * z).natAbs = 2 * z.natAbs by omega] at hv
      generalize 2 ^ (pE (wholeN (2 * z)) + -24 + 149).toNat = X at *
      generalize pM (wholeN (2 * z)) = Y at *
      generalize 2 ^ 149 = W at *
      have e2 : Y * (X * 2 ^ 24) = 2 * (Y * 8388608 * X) := by
        rw [show (2 : Nat) ^ 24 = 2 * 8388608 by decide]
        generalize 8388608 = K
        rw [Nat.mul_left_comm X 2 K, Nat.mul_left_comm Y 2, Nat.mul_comm X K, Nat.mul_assoc Y K X]
      rw [e2, Nat.mul_assoc 2] at hv
      exact Nat.eq_of_mul_eq_mul_left (by decide) hv
    rw [e, near_W _ (by omega), whole_W (by omega), decide_eq_decide.2 (show 2 * z < 0 ↔ z < 0 by omega)]
end Go.Proofs.YthmjkmdbggfiiaaGreatDoor.CF
