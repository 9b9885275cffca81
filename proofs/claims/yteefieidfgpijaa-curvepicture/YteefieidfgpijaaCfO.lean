import Derived.Test.YteefieidfgpijaaCfN
/- THE ORDER OF HEIGHTS. No program. -/
namespace Go.Proofs.Yteefieidfgpijaa.CF

/-- Heights as whole numbers in their order. -/
def ordN (a : Nat) : Int := if 2147483648 ≤ a then -((a - 2147483648 : Nat) : Int) else (a : Int)
/-- What a height's rung is worth, in the least units. -/
def vR (r : Nat) : Nat := if r / 8388608 = 0 then r % 8388608 else (r % 8388608 + 8388608) * 2 ^ (r / 8388608 - 1)
theorem vR_step (r : Nat) : vR r < vR (r + 1) := by
  unfold vR
  by_cases h1 : r % 8388608 + 1 = 8388608
  · have e1 : (r + 1) % 8388608 = 0 := by omega
    have e2 : (r + 1) / 8388608 = r / 8388608 + 1 := by omega
    rw [if_neg (show ¬ (r + 1) / 8388608 = 0 by omega), e1, e2, Nat.zero_add, Nat.add_sub_cancel]
    by_cases h0 : r / 8388608 = 0
    · rw [if_pos h0, h0]
      omega
    · rw [if_neg h0]
      obtain ⟨k, hk⟩ : ∃ k, r / 8388608 = k + 1 := ⟨r / 8388608 - 1, by omega⟩
      rw [hk, Nat.add_sub_cancel, Nat.pow_succ]
      have hp : 0 < 2 ^ k := Nat.two_pow_pos k
      have : (r % 8388608 + 8388608) * 2 ^ k < 16777216 * 2 ^ k := Nat.mul_lt_mul_of_pos_right (by omega) hp
      omega
  · have e1 : (r + 1) % 8388608 = r % 8388608 + 1 := by omega
    have e2 : (r + 1) / 8388608 = r / 8388608 := by omega
    rw [e1, e2]
    split
    · omega
    · exact Nat.mul_lt_mul_of_pos_right (by omega) (Nat.two_pow_pos _)
theorem vR_lt {r s : Nat} (h : r < s) : vR r < vR s := by
  induction s with
  | zero => omega
  | succ n ih =>
    rcases Nat.lt_succ_iff_lt_or_eq.1 h with h1 | h1
    · exact Nat.lt_trans (ih h1) (vR_step n)
    · subst h1; exact vR_step r
theorem vR_zero : vR 0 = 0 := rfl
theorem vR_eq (a : Nat) : pM a * 2 ^ (pE a + 149).toNat = vR (a % 2147483648) := by
  unfold pM pE vR
  have e : a % 2147483648 % 8388608 = a % 8388608 := by omega
  by_cases h : a % 2147483648 / 8388608 = 0
  · rw [if_pos h, if_pos h, if_pos h, e]
    show _ * 2 ^ 0 = _
    rw [Nat.pow_zero, Nat.mul_one]
  · rw [if_neg h, if_neg h, if_neg h, e, show (((a % 2147483648 / 8388608 : Nat) : Int) - 150 + 149).toNat = a % 2147483648 / 8388608 - 1 by omega]
/-- How two heights stand to one another. -/
def cmpI (x y : Int) : Ordering := if x < y then .lt else if x = y then .eq else .gt
theorem compare_eq (x y : Int) : compare x y = cmpI x y := rfl
theorem cmpI_scale {x y u v : Int} (h1 : x < y ↔ u < v) (h2 : x = y ↔ u = v) : cmpI x y = cmpI u v := by
  unfold cmpI
  by_cases c1 : x < y
  · rw [if_pos c1, if_pos (h1.1 c1)]
  · rw [if_neg c1, if_neg (fun h => c1 (h1.2 h))]
    by_cases c2 : x = y
    · rw [if_pos c2, if_pos (h2.1 c2)]
    · rw [if_neg c2, if_neg (fun h => c2 (h2.2 h))]
theorem vR_iff (r s : Nat) : (vR r < vR s ↔ r < s) ∧ (vR r = vR s ↔ r = s) := by
  rcases Nat.lt_trichotomy r s with h | h | h
  · have := vR_lt h; omega
  · subst h; omega
  · have := vR_lt h; omega
theorem order_fin {a b : Nat} (ha : a < 4294967296) (hb : b < 4294967296) (h1 : a % 2147483648 < 2139095040) (h2 : b % 2147483648 < 2139095040) : Ieee.single.order a b = some (cmpI (ordN a) (ordN b)) := by
  unfold Ieee.Format.order
  rw [read_fin ha h1, read_fin hb h2]
  show some (compare (Ieee.signed _ _ _) (Ieee.signed _ _ _)) = _
  rw [compare_eq]
  congr 1
  have l1 := pE_le a
  have l2 := pE_le b
  obtain ⟨c, hc⟩ : ∃ c : Nat, (c : Int) = min (pE a) (pE b) + 149 := ⟨(min (pE a) (pE b) + 149).toNat, by omega⟩
  have v1 := vR_eq a
  have v2 := vR_eq b
  rw [show (pE a + 149).toNat = (pE a - min (pE a) (pE b)).toNat + c by omega, Nat.pow_add, ← Nat.mul_assoc] at v1
  rw [show (pE b + 149).toNat = (pE b - min (pE a) (pE b)).toNat + c by omega, Nat.pow_add, ← Nat.mul_assoc] at v2
  have hp : 0 < 2 ^ c := Nat.two_pow_pos c
  have hv := vR_iff (a % 2147483648) (b % 2147483648)
  rw [← v1, ← v2] at hv
  rw [Nat.mul_lt_mul_right hp] at hv
  have hv2 : pM a * 2 ^ (pE a - min (pE a) (pE b)).toNat = pM b * 2 ^ (pE b - min (pE a) (pE b)).toNat ↔ a % 2147483648 = b % 2147483648 := ⟨fun h => hv.2.1 (by rw [h]), fun h => Nat.eq_of_mul_eq_mul_right hp (hv.2.2 h)⟩
  have z1 : pM a * 2 ^ (pE a - min (pE a) (pE b)).toNat = 0 ↔ a % 2147483648 = 0 := by
    have h0 := (vR_iff (a % 2147483648) 0).2
    rw [vR_zero, ← v1] at h0
    exact ⟨fun h => h0.1 (by rw [h, Nat.zero_mul]), fun h => by
      have := h0.2 h
      exact (Nat.mul_eq_zero.1 this).resolve_right (by omega)⟩
  have z2 : pM b * 2 ^ (pE b - min (pE a) (pE b)).toNat = 0 ↔ b % 2147483648 = 0 := by
    have h0 := (vR_iff (b % 2147483648) 0).2
    rw [vR_zero, ← v2] at h0
    exact ⟨fun h => h0.1 (by rw [h, Nat.zero_mul]), fun h => by
      have := h0.2 h
      exact (Nat.mul_eq_zero.1 this).resolve_right (by omega)⟩
  have hlt := hv.1
  unfold Ieee.signed
  rw [Nat.shiftLeft_eq, Nat.shiftLeft_eq]
  generalize pM a * 2 ^ (pE a - min (pE a) (pE b)).toNat = x at *
  generalize pM b * 2 ^ (pE b - min (pE a) (pE b)).toNat = y at *
  unfold ordN pS
  by_cases ca : 2147483648 ≤ a <;> by_cases cb : 2147483648 ≤ b
  · rw [decide_eq_true ca, decide_eq_true cb, if_pos rfl, if_pos rfl, if_pos ca, if_pos cb]
    refine cmpI_scale ?_ ?_ <;> omega
  · rw [decide_eq_true ca, decide_eq_false cb, if_pos rfl, if_neg (by decide), if_pos ca, if_neg cb]
    refine cmpI_scale ?_ ?_ <;> omega
  · rw [decide_eq_false ca, decide_eq_true cb, if_neg (by decide), if_pos rfl, if_neg ca, if_pos cb]
    refine cmpI_scale ?_ ?_ <;> omega
  · rw [decide_eq_false ca, decide_eq_false cb, if_neg (by decide), if_neg (by decide), if_neg ca, if_neg cb]
    refine cmpI_scale ?_ ?_ <;> omega
theorem order_eq {a b : Nat} (ha : a < 4294967296) (hb : b < 4294967296) (h1 : a % 2147483648 ≤ 2139095040) (h2 : b % 2147483648 ≤ 2139095040) : Ieee.single.order a b = some (cmpI (ordN a) (ordN b)) := by
  by_cases f1 : a % 2147483648 < 2139095040
  · by_cases f2 : b % 2147483648 < 2139095040
    · exact order_fin ha hb f1 f2
    · unfold Ieee.Format.order
      rw [read_fin ha f1, read_inf hb (by omega)]
      show some (if pS b then Ordering.gt else .lt) = _
      unfold pS
      congr 1
      by_cases cb : 2147483648 ≤ b
      · rw [decide_eq_true cb, if_pos rfl]
        unfold cmpI ordN
        rw [if_neg, if_neg] <;> (split <;> first | omega | (split <;> omega))
      · rw [decide_eq_false cb, if_neg (by decide)]
        unfold cmpI ordN
        rw [if_pos]
        split <;> first | omega | (split <;> omega)
  · by_cases f2 : b % 2147483648 < 2139095040
    · unfold Ieee.Format.order
      rw [read_inf ha (by omega), read_fin hb f2]
      show some (if pS a then Ordering.lt else .gt) = _
      unfold pS
      congr 1
      by_cases ca : 2147483648 ≤ a
      · rw [decide_eq_true ca, if_pos rfl]
        unfold cmpI ordN
        rw [if_pos]
        split <;> first | omega | (split <;> omega)
      · rw [decide_eq_false ca, if_neg (by decide)]
        unfold cmpI ordN
        rw [if_neg, if_neg] <;> (split <;> first | omega | (split <;> omega))
    · unfold Ieee.Format.order
      rw [read_inf ha (by omega), read_inf hb (by omega)]
      show some (compare (pS b).toNat (pS a).toNat) = _
      unfold pS
      congr 1
      by_cases ca : 2147483648 ≤ a <;> by_cases cb : 2147483648 ≤ b
      · rw [decide_eq_true ca, decide_eq_true cb]
        unfold cmpI ordN
        rw [if_neg, if_pos]
        · rfl
        all_goals (split <;> first | omega | (split <;> omega))
      · rw [decide_eq_true ca, decide_eq_false cb]
        unfold cmpI ordN
        rw [if_pos]
        · rfl
        all_goals (split <;> first | omega | (split <;> omega))
      · rw [decide_eq_false ca, decide_eq_true cb]
        unfold cmpI ordN
        rw [if_neg, if_neg]
        · rfl
        all_goals (split <;> first | omega | (split <;> omega))
      · rw [decide_eq_false ca, decide_eq_false cb]
        unfold cmpI ordN
        rw [if_neg, if_pos]
        · rfl
        all_goals (split <;> first | omega | (split <;> omega))
theorem order_nan {a b : Nat} (h : 2139095040 < a % 2147483648 ∨ 2139095040 < b % 2147483648) : Ieee.single.order a b = none := by
  unfold Ieee.Format.order
  rcases h with h | h
  · obtain ⟨s, t, e⟩ := read_nan h
    rw [e]
    unfold Ieee.Datum.order
    rfl
  · obtain ⟨s, t, e⟩ := read_nan h
    rw [e]
    cases Ieee.single.read a <;> rfl
/-- Is it a number, and no infinity? -/
theorem fin_iff {b : Nat} (hb : b < 4294967296) : ((Ieee.single.order 4286578687 b == some .lt || Ieee.single.order 4286578687 b == some .eq) && (Ieee.single.order b 2139095039 == some .lt || Ieee.single.order b 2139095039 == some .eq)) = decide (b % 2147483648 < 2139095040) := by
  by_cases hn : 2139095040 < b % 2147483648
  · rw [order_nan (.inr hn), order_nan (.inl hn), decide_eq_false (by omega)]
    rfl
  · rw [order_eq (by decide) hb (by decide) (by omega), order_eq hb (by decide) (by omega) (by decide)]
    have e1 : ordN 4286578687 = -2139095039 := by decide
    have e2 : ordN 2139095039 = 2139095039 := by decide
    rw [e1, e2]
    have hz : (b % 2147483648 < 2139095040) ↔ (-2139095039 ≤ ordN b ∧ ordN b ≤ 2139095039) := by unfold ordN; split <;> omega
    rw [decide_eq_decide.2 hz]
    unfold cmpI
    by_cases c1 : -2139095039 < ordN b
    · rw [if_pos c1]
      by_cases c2 : ordN b < 2139095039
      · rw [if_pos c2, decide_eq_true (by omega)]; rfl
      · rw [if_neg c2]
        by_cases c3 : ordN b = 2139095039
        · rw [if_pos c3, decide_eq_true (by omega)]; rfl
        · rw [if_neg c3, decide_eq_false (by omega)]; rfl
    · rw [if_neg c1]
      by_cases c3 : -2139095039 = ordN b
      · rw [if_pos c3, if_pos (by omega), decide_eq_true (by omega)]; rfl
      · rw [if_neg c3, decide_eq_false (by omega)]; rfl
end Go.Proofs.Yteefieidfgpijaa.CF
