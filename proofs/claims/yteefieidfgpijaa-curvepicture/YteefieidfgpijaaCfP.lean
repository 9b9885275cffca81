import Derived.Test.YteefieidfgpijaaCfO
/- WHERE SUMS, PRODUCTS AND QUOTIENTS HAVE AN ANSWER. No program. -/
namespace Go.Proofs.Yteefieidfgpijaa.CF

theorem shift_eq {m : Nat} {e : Int} (h0 : m ≠ 0) (h1 : -126 ≤ e + m.log2) : shiftN m e = (m.log2 : Int) - 23 := by
  unfold shiftN bitsN
  rw [if_neg h0]
  split <;> omega
/-- A number in the midst: its word is that of a normal one. -/
theorem rnd_norm (minus : Bool) {m : Nat} {e : Int} (more : Bool) (h0 : m ≠ 0) (h1 : -126 ≤ e + m.log2) (h2 : e + m.log2 ≤ 120) : ∃ r, rnd minus m e more = wd minus r ∧ ((e + m.log2 + 127).toNat) * 8388608 ≤ r ∧ r ≤ ((e + m.log2 + 128).toNat) * 8388608 := by
  unfold rnd
  have hs := shift_eq h0 h1
  have hb : bitsN m = m.log2 + 1 := by unfold bitsN; rw [if_neg h0]
  rw [hs, if_neg (by omega)]
  refine ⟨_, rfl, ?_⟩
  have hl1 : 2 ^ m.log2 ≤ m := Nat.log2_self_le h0
  have hl2 : m < 2 ^ (m.log2 + 1) := Nat.lt_log2_self
  have hK : 8388608 ≤ keptN m ((m.log2 : Int) - 23) more ∧ keptN m ((m.log2 : Int) - 23) more ≤ 16777216 := by
    unfold keptN
    split
    · have hq : m / 2 ^ ((m.log2 : Int) - 23).toNat < 16777216 := by
        rw [Nat.div_lt_iff_lt_mul (Nat.two_pow_pos _), show (16777216 : Nat) = 2 ^ 24 by decide, ← Nat.pow_add, show 24 + ((m.log2 : Int) - 23).toNat = m.log2 + 1 by omega]
        exact hl2
      have hq2 : 8388608 ≤ m / 2 ^ ((m.log2 : Int) - 23).toNat := by
        rw [Nat.le_div_iff_mul_le (Nat.two_pow_pos _), show (8388608 : Nat) = 2 ^ 23 by decide, ← Nat.pow_add, show 23 + ((m.log2 : Int) - 23).toNat = m.log2 by omega]
        exact hl1
      split <;> omega
    · have h3 : 2 ^ m.log2 * 2 ^ (-((m.log2 : Int) - 23)).toNat ≤ m * 2 ^ (-((m.log2 : Int) - 23)).toNat := Nat.mul_le_mul_right _ hl1
      have h4 : m * 2 ^ (-((m.log2 : Int) - 23)).toNat < 2 ^ (m.log2 + 1) * 2 ^ (-((m.log2 : Int) - 23)).toNat := Nat.mul_lt_mul_of_pos_right hl2 (Nat.two_pow_pos _)
      rw [← Nat.pow_add, show m.log2 + (-((m.log2 : Int) - 23)).toNat = 23 by omega] at h3
      rw [← Nat.pow_add, show m.log2 + 1 + (-((m.log2 : Int) - 23)).toNat = 24 by omega] at h4
      have e1 : (2 : Nat) ^ 23 = 8388608 := by decide
      have e2 : (2 : Nat) ^ 24 = 16777216 := by decide
      omega
  rw [packN_eq (by omega) hK.2 (fun h => absurd h (by omega))]
  rw [Nat.min_eq_left (by omega)]
  omega
theorem wd_false (r : Nat) : wd false r = r := rfl
/-- A whole number from 1 on that is not great. -/
theorem whole_norm {z : Int} (h1 : 1 ≤ z) (h2 : z ≤ 20000000000000) : 1065353216 ≤ wholeN z ∧ wholeN z ≤ 1442840576 := by
  have h0 : z.natAbs ≠ 0 := by omega
  have hl : z.natAbs.log2 ≤ 44 := by have := (Nat.log2_lt h0 (k := 45)).2 (by omega); omega
  obtain ⟨r, hr, h3, h4⟩ := rnd_norm false (m := z.natAbs) (e := 0) false h0 (by omega) (by omega)
  unfold wholeN
  rw [if_neg (by omega), hr, wd_false]
  omega
theorem log2_norm {m : Nat} (h1 : 8388608 ≤ m) (h2 : m < 16777216) : m.log2 = 23 := by
  rw [Nat.log2_eq_iff (by omega)]
  exact ⟨h1, h2⟩
theorem norm_parts {a : Nat} (h1 : 8388608 ≤ a) (h2 : a < 2139095040) : pS a = false ∧ 8388608 ≤ pM a ∧ padN (pM a) = 0 ∧ pE a = ((a / 8388608 : Nat) : Int) - 150 := by
  have e : a % 2147483648 = a := by omega
  have hm : 8388608 ≤ pM a := by unfold pM; rw [e, if_neg (by omega)]; omega
  refine ⟨?_, hm, ?_, ?_⟩
  · unfold pS; exact decide_eq_false (by omega)
  · unfold padN; rw [log2_norm hm (pM_lt a)]
  · unfold pE; rw [e, if_neg (by omega)]
/-- The quotient of two such numbers. -/
theorem div_norm {u v : Nat} (hu : 1065353216 ≤ u ∧ u ≤ 1442840576) (hv : 1065353216 ≤ v ∧ v ≤ 1442840576) : 8388608 ≤ divN u v ∧ divN u v < 2139095040 := by
  obtain ⟨s1, m1, p1, e1⟩ := norm_parts (a := u) (by omega) (by omega)
  obtain ⟨s2, m2, p2, e2⟩ := norm_parts (a := v) (by omega) (by omega)
  have l1 := pM_lt u
  have l2 := pM_lt v
  unfold divN
  rw [if_neg (by omega), if_neg (by omega), s1, s2, p1, p2, e1, e2, Nat.pow_zero, Nat.mul_one, Nat.mul_one]
  show 8388608 ≤ rnd false _ _ _ ∧ rnd false _ _ _ < _
  obtain ⟨q, hq⟩ : ∃ q, q = pM u * 2 ^ 38 / pM v := ⟨_, rfl⟩
  have hq1 : 137438953472 ≤ q := by
    have h : 137438953472 ≤ pM u * 274877906944 / pM v := (Nat.le_div_iff_mul_le (by omega)).2 (by omega)
    rw [hq]
    exact h
  have hq2 : q < 1099511627776 := by
    have h : pM u * 274877906944 / pM v < 1099511627776 := (Nat.div_lt_iff_lt_mul (by omega)).2 (by omega)
    rw [hq]
    exact h
  rw [← hq]
  have hq0 : q ≠ 0 := by omega
  have hg1 : 37 ≤ q.log2 := (Nat.le_log2 hq0).2 hq1
  have hg2 : q.log2 < 40 := (Nat.log2_lt hq0).2 hq2
  obtain ⟨r, hr, h3, h4⟩ := rnd_norm false (m := q) (e := ((u / 8388608 : Nat) : Int) - 150 - ((0 : Nat) : Int) - (((v / 8388608 : Nat) : Int) - 150 - ((0 : Nat) : Int)) - 38) (decide (0 < pM u * 2 ^ 38 % pM v)) hq0 (by omega) (by omega)
  rw [hr, wd_false]
  omega
theorem div_some {a b : Nat} (ha : a < 4294967296) (hb : b < 4294967296) (h1 : a % 2147483648 < 2139095040) (h2 : b % 2147483648 < 2139095040) (h0 : pM b ≠ 0) : Ieee.single.div a b = some (divN a b) := by
  have h := divN_eq ha hb h2 h0
  unfold Ieee.Format.div at h ⊢
  rw [read_fin ha h1, read_fin hb h2] at h ⊢
  unfold Ieee.Datum.quotient at h ⊢
  simp only at h ⊢
  rw [if_neg h0] at h ⊢
  rw [h]
  rfl
/-- An infinity by what is finite. -/
theorem div_some_inf {a b : Nat} (ha : a < 4294967296) (hb : b < 4294967296) (h1 : a % 2147483648 = 2139095040) (h2 : b % 2147483648 < 2139095040) (h0 : pM b ≠ 0) : Ieee.single.div a b = some (divN a b) := by
  have h := divN_eq ha hb h2 h0
  unfold Ieee.Format.div at h ⊢
  rw [read_inf ha h1, read_fin hb h2] at h ⊢
  rw [h]
  rfl
theorem add_some {a b : Nat} (ha : a < 4294967296) (hb : b < 4294967296) (h1 : a % 2147483648 < 2139095040) (h2 : b % 2147483648 ≤ 2139095040) : Ieee.single.add a b = some (addN a b) := by
  have h := addN_eq ha hb
  unfold Ieee.Format.add at h ⊢
  by_cases f2 : b % 2147483648 < 2139095040
  · rw [read_fin ha h1, read_fin hb f2] at h ⊢
    rw [h]
    rfl
  · rw [read_fin ha h1, read_inf hb (by omega)] at h ⊢
    rw [h]
    rfl
theorem sub_some {a b : Nat} (ha : a < 4294967296) (hb : b < 4294967296) (h1 : a % 2147483648 < 2139095040) (h2 : b % 2147483648 < 2139095040) : Ieee.single.sub a b = some (subN a b) := by
  have h := subN_eq ha hb
  unfold Ieee.Format.sub at h ⊢
  rw [read_fin ha h1, read_fin hb h2] at h ⊢
  rw [h]
  rfl
/-- What is written of a number is a number or an infinity. -/
theorem near_le (s : Bool) (m : Nat) (p : Int) : Ieee.single.nearest s m p % 2147483648 ≤ 2139095040 := by
  by_cases h : m = 0
  · subst h
    rw [nearest_zero]
    cases s <;> decide
  · rw [nearest_eq _ _ _ h]
    have : rungQ m 1 p m.log2 ≤ 2139095040 := by unfold rungQ; exact Nat.min_le_right _ _
    unfold wd
    split <;> omega
theorem near_lt (s : Bool) (m : Nat) (p : Int) : Ieee.single.nearest s m p < 4294967296 := by
  by_cases h : m = 0
  · subst h
    rw [nearest_zero]
    cases s <;> decide
  · rw [nearest_eq _ _ _ h]
    have : rungQ m 1 p m.log2 ≤ 2139095040 := by unfold rungQ; exact Nat.min_le_right _ _
    unfold wd
    split <;> omega
theorem sumN_le (s : Bool) (A : Nat) (t : Bool) (B : Nat) (e : Int) : sumN s A t B e % 2147483648 ≤ 2139095040 ∧ sumN s A t B e < 4294967296 := by
  unfold sumN
  split
  · exact ⟨near_le _ _ _, near_lt _ _ _⟩
  · split
    · exact ⟨by decide, by decide⟩
    · split
      · exact ⟨near_le _ _ _, near_lt _ _ _⟩
      · exact ⟨near_le _ _ _, near_lt _ _ _⟩
theorem addN_le {a b : Nat} (hb : b < 4294967296) (h1 : a % 2147483648 < 2139095040) (h2 : b % 2147483648 ≤ 2139095040) : addN a b % 2147483648 ≤ 2139095040 ∧ addN a b < 4294967296 := by
  have hpa := pE_le a
  have hpb := pE_le b
  unfold addN
  rw [if_neg (by omega), if_neg (by omega)]
  split
  · exact ⟨h2, hb⟩
  · unfold swapF
    split
    · rw [addF_eq _ _ _ _ _ _ (by omega) (pM_lt b) (pM_lt a) (fun h => pM_norm (by omega))]
      exact sumN_le _ _ _ _ _
    · rw [addF_eq _ _ _ _ _ _ (by omega) (pM_lt a) (pM_lt b) (fun h => pM_norm (by omega))]
      exact sumN_le _ _ _ _ _
theorem subN_le {a b : Nat} (hb : b < 4294967296) (h1 : a % 2147483648 < 2139095040) (h2 : b % 2147483648 < 2139095040) : subN a b % 2147483648 ≤ 2139095040 ∧ subN a b < 4294967296 := by
  unfold subN
  exact addN_le (negN_lt hb) h1 (by rw [negN_mod b hb]; omega)
theorem mulN_le (a b : Nat) : mulN a b % 2147483648 ≤ 2139095040 ∧ mulN a b < 4294967296 := by
  unfold mulN
  rw [rnd_exact]
  exact ⟨near_le _ _ _, near_lt _ _ _⟩
/-- An infinity by a number above 0 is that infinity. -/
theorem mul_inf {d t : Nat} (hd : d < 4294967296) (h1 : d % 2147483648 = 2139095040) (ht1 : 8388608 ≤ t) (ht2 : t < 2139095040) : Ieee.single.mul d t = some d := by
  obtain ⟨s1, m1, -, -⟩ := norm_parts ht1 ht2
  unfold Ieee.Format.mul
  rw [read_inf hd h1, read_fin (by omega) (by omega), s1]
  show Option.map _ (if pM t = 0 then none else some (Ieee.Datum.infinity (pS d ^^ false))) = _
  rw [if_neg (by omega), Bool.xor_false]
  show some (Ieee.single.write (.infinity (pS d))) = _
  rw [write_inf hd h1]
/-- The height at x between two points. -/
def btwN (a b : Int × Nat) (x : Int) : Nat := if subN b.2 a.2 % 2147483648 < 2139095040 then addN a.2 (mulN (subN b.2 a.2) (divN (wholeN (x - a.1)) (wholeN (b.1 - a.1)))) else subN b.2 a.2
theorem btw_ok {a b : Int × Nat} {x : Int} (ha : a.2 < 4294967296) (hb : b.2 < 4294967296) (fa : a.2 % 2147483648 < 2139095040) (fb : b.2 % 2147483648 < 2139095040) (h1 : a.1 < x) (h2 : x < b.1) (h3 : b.1 - a.1 ≤ 20000000000000) : ∃ part dif prod, Ieee.single.div (wholeN (x - a.1)) (wholeN (b.1 - a.1)) = some part ∧ part = divN (wholeN (x - a.1)) (wholeN (b.1 - a.1)) ∧ Ieee.single.sub b.2 a.2 = some dif ∧ dif = subN b.2 a.2 ∧ Ieee.single.mul dif part = some prod ∧ Ieee.single.add a.2 prod = some (btwN a b x) := by
  have hu := whole_norm (z := x - a.1) (by omega) (by omega)
  have hv := whole_norm (z := b.1 - a.1) (by omega) h3
  have ht := div_norm hu hv
  obtain ⟨-, mv, -, -⟩ := norm_parts (a := wholeN (b.1 - a.1)) (by omega) (by omega)
  have hd := subN_le ha fb fa
  by_cases hf : subN b.2 a.2 % 2147483648 < 2139095040
  · have hm := mulN_le (subN b.2 a.2) (divN (wholeN (x - a.1)) (wholeN (b.1 - a.1)))
    refine ⟨_, _, _, div_some (by omega) (by omega) (by omega) (by omega) (by omega), rfl, sub_some hb ha fb fa, rfl, mulN_eq hd.2 (by omega) hf (by omega), ?_⟩
    rw [add_some ha hm.2 fa hm.1]
    unfold btwN
    rw [if_pos hf]
  · refine ⟨_, _, _, div_some (by omega) (by omega) (by omega) (by omega) (by omega), rfl, sub_some hb ha fb fa, rfl, mul_inf hd.2 (by omega) ht.1 ht.2, ?_⟩
    rw [add_some ha hd.2 fa hd.1]
    unfold btwN
    rw [if_neg hf]
    unfold addN
    rw [if_neg (by omega), if_neg (by omega), if_pos hf]
theorem btwN_lt {a b : Int × Nat} {x : Int} (ha : a.2 < 4294967296) (fa : a.2 % 2147483648 < 2139095040) (fb : b.2 % 2147483648 < 2139095040) : btwN a b x < 4294967296 := by
  have hd := subN_le ha fb fa
  unfold btwN
  split
  · have hm := mulN_le (subN b.2 a.2) (divN (wholeN (x - a.1)) (wholeN (b.1 - a.1)))
    exact (addN_le hm.2 fa hm.1).2
  · exact hd.2
end Go.Proofs.Yteefieidfgpijaa.CF
