import Derived.Test.YthmjkmdbggfiiaaGreatDoorCfN
import Derived.Test.YthmjkmdbggfiiaaGreatDoorCw1
import Derived.OwnWalk
import Derived.Laws.OwnMore
import Derived.Laws.Externs
/- THE ORDER OF HEIGHTS. No program. -/
namespace Go.Proofs.YthmjkmdbggfiiaaGreatDoor.CF

/-- Heights as whole numbers in their order. -/
def ordN (a : Nat) : Int := if 2147483648 ≤ a then -((a - 2147483648 : Nat) : Int) else (a : Int)
/-- What a height's rung is worth, in the least units. -/
def vR (r : Nat) : Nat := if r / 8388608 = 0 then r % 8388608 else (r % 8388608 + 8388608) * 2 ^ (r / 8388608 - 1)
theorem vR_step (r : Nat) : vR r < vR (r + 1) := by
  unfold vR
  by_cases h1 : r % 8388608 + 1 = 8388608
  · have e1 : (r + 1) % 8388608 = 0 := by omega
    have e2 : (r + 1) / 8388608 = r / 8388608 + 1 := by omega
    rw [if_neg (show ¬ (r + 1) / 8388608 = 0 by omega), e1, e2, Nat.zero_add, Nat.add_sub_cancel]
    by_cases h0 : r / 8388608 = 0
    · rw [if_pos h0, h0]
      omega
    · rw [if_neg h0]
      obtain ⟨k, hk⟩ : ∃ k, r / 8388608 = k + 1 := ⟨r / 8388608 - 1, by omega⟩
      rw [hk, Nat.add_sub_cancel, Nat.pow_succ]
      have hp : 0 < 2 ^ k := Nat.two_pow_pos k
      have : (r % 8388608 + 8388608) * 2 ^ k < 16777216 * 2 ^ k := Nat.mul_lt_mul_of_pos_right (by omega) hp
      omega
  · have e1 : (r + 1) % 8388608 = r % 8388608 + 1 := by omega
    have e2 : (r + 1) / 8388608 = r / 8388608 := by omega
    rw [e1, e2]
    split
    · omega
    · exact Nat.mul_lt_mul_of_pos_right (by omega) (Nat.two_pow_pos _)
theorem vR_lt {r s : Nat} (h : r < s) : vR r < vR s := by
  induction s with
  | zero => omega
  | succ n ih =>
    rcases Nat.lt_succ_iff_lt_or_eq.1 h with h1 | h1
    · exact Nat.lt_trans (ih h1) (vR_step n)
    · subst h1; exact vR_step r
theorem vR_zero : vR 0 = 0 := rfl
theorem vR_eq (a : Nat) : pM a * 2 ^ (pE a + 149).toNat = vR (a % 2147483648) := by
  unfold pM pE vR
  have e : a % 2147483648 % 8388608 = a % 8388608 := by omega
  by_cases h : a % 2147483648 / 8388608 = 0
  · rw [if_pos h, if_pos h, if_pos h, e]
    show _ * 2 ^ 0 = _
    rw [Nat.pow_zero, Nat.mul_one]
  · rw [if_neg h, if_neg h, if_neg h, e, show (((a % 2147483648 / 8388608 : Nat) : Int) - 150 + 149).toNat = a % 2147483648 / 8388608 - 1 by omega]
/-- How two heights stand to one another. -/
def cmpI (x y : Int) : Ordering := if x < y then .lt else if x = y then .eq else .gt
theorem compare_eq (x y : Int) : compare x y = cmpI x y := rfl
theorem cmpI_scale {x y u v : Int} (h1 : x < y ↔ u < v) (h2 : x = y ↔ u = v) : cmpI x y = cmpI u v := by
  unfold cmpI
  by_cases c1 : x < y
  · rw [if_pos c1, if_pos (h1.1 c1)]
  · rw [if_neg c1, if_neg (fun h => c1 (h1.2 h))]
    by_cases c2 : x = y
    · rw [if_pos c2, if_pos (h2.1 c2)]
    · rw [if_neg c2, if_neg (fun h => c2 (h2.2 h))]
theorem vR_iff (r s : Nat) : (vR r < vR s ↔ r < s) ∧ (vR r = vR s ↔ r = s) := by
  rcases Nat.lt_trichotomy r s with h | h | h
  · have := vR_lt h; omega
  · subst h; omega
  · have := vR_lt h; omega
theorem order_fin {a b : Nat} (ha : a < 4294967296) (hb : b < 4294967296) (h1 : a % 2147483648 < 2139095040) (h2 : b % 2147483648 < 2139095040) : Ieee.single.order a b = some (cmpI (ordN a) (ordN b)) := by
  unfold Ieee.Format.order
  rw [read_fin ha h1, read_fin hb h2]
  show some (compare (Ieee.signed _ _ _) (Ieee.signed _ _ _)) = _
  rw [compare_eq]
  congr 1
  have l1 := pE_le a
  have l2 := pE_le b
  obtain ⟨c, hc⟩ : ∃ c : Nat, (c : Int) = min (pE a) (pE b) + 149 := ⟨(min (pE a) (pE b) + 149).toNat, by omega⟩
  have v1 := vR_eq a
  have v2 := vR_eq b
  rw [show (pE a + 149).toNat = (pE a - min (pE a) (pE b)).toNat + c by omega, Nat.pow_add, ← Nat.mul_assoc] at v1
  rw [show (pE b + 149).toNat = (pE b - min (pE a) (pE b)).toNat + c by omega, Nat.pow_add, ← Nat.mul_assoc] at v2
  have hp : 0 < 2 ^ c := Nat.two_pow_pos c
  have hv := vR_iff (a % 2147483648) (b % 2147483648)
  rw [← v1, ← v2] at hv
  rw [Nat.mul_lt_mul_right hp] at hv
  have hv2 : pM a * 2 ^ (pE a - min (pE a) (pE b)).toNat = pM b * 2 ^ (pE b - min (pE a) (pE b)).toNat ↔ a % 2147483648 = b % 2147483648 := ⟨fun h => hv.2.1 (by rw [h]), fun h => Nat.eq_of_mul_eq_mul_right hp (hv.2.2 h)⟩
  have z1 : pM a * 2 ^ (pE a - min (pE a) (pE b)).toNat = 0 ↔ a % 2147483648 = 0 := by
    have h0 := (vR_iff (a % 2147483648) 0).2
    rw [vR_zero, ← v1] at h0
    exact ⟨fun h => h0.1 (by rw [h, Nat.zero_mul]), fun h => by
      have := h0.2 h
      exact (Nat.mul_eq_zero.1 this).resolve_right (by omega)⟩
  have z2 : pM b * 2 ^ (pE b - min (pE a) (pE b)).toNat = 0 ↔ b % 2147483648 = 0 := by
    have h0 := (vR_iff (b % 2147483648) 0).2
    rw [vR_zero, ← v2] at h0
    exact ⟨fun h => h0.1 (by rw [h, Nat.zero_mul]), fun h => by
      have := h0.2 h
      exact (Nat.mul_eq_zero.1 this).resolve_right (by omega)⟩
  have hlt := hv.1
  unfold Ieee.signed
  rw [Nat.shiftLeft_eq, Nat.shiftLeft_eq]
  generalize pM a * 2 ^ (pE a - min (pE a) (pE b)).toNat = x at *
  generalize pM b * 2 ^ (pE b - min (pE a) (pE b)).toNat = y at *
  unfold ordN pS
  by_cases ca : 2147483648 ≤ a <;> by_cases cb : 2147483648 ≤ b
  · rw [decide_eq_true ca, decide_eq_true cb, if_pos rfl, if_pos rfl, if_pos ca, if_pos cb]
    refine cmpI_scale ?_ ?_ <;> omega
  · rw [decide_eq_true ca, decide_eq_false cb, if_pos rfl, if_neg (by decide), if_pos ca, if_neg cb]
    refine cmpI_scale ?_ ?_ <;> omega
  · rw [decide_eq_false ca, decide_eq_true cb, if_neg (by decide), if_pos rfl, if_neg ca, if_pos cb]
    refine cmpI_scale ?_ ?_ <;> omega
  · rw [decide_eq_false ca, decide_eq_false cb, if_neg (by decide), if_neg (by decide), if_neg ca, if_neg cb]
    refine cmpI_scale ?_ ?_ <;> omega
theorem order_eq {a b : Nat} (ha : a < 4294967296) (hb : b < 4294967296) (h1 : a % 2147483648 ≤ 2139095040) (h2 : b % 2147483648 ≤ 2139095040) : Ieee.single.order a b = some (cmpI (ordN a) (ordN b)) := by
  by_cases f1 : a % 2147483648 < 2139095040
  · by_cases f2 : b % 2147483648 < 2139095040
    · exact order_fin ha hb f1 f2
    · unfold Ieee.Format.order
      rw [read_fin ha f1, read_inf hb (by omega)]
      show some (if pS b then Ordering.gt else .lt) = _
      unfold pS
      congr 1
      by_cases cb : 2147483648 ≤ b
      · rw [decide_eq_true cb, if_pos rfl]
        unfold cmpI ordN
        rw [if_neg, if_neg] <;> (split <;> first | omega | (split <;> omega))
      · rw [decide_eq_false cb, if_neg (by decide)]
        unfold cmpI ordN
        rw [if_pos]
        split <;> first | omega | (split <;> omega)
  · by_cases f2 : b % 2147483648 < 2139095040
    · unfold Ieee.Format.order
      rw [read_inf ha (by omega), read_fin hb f2]
      show some (if pS a then Ordering.lt else .gt) = _
      unfold pS
      congr 1
      by_cases ca : 2147483648 ≤ a
      · rw [decide_eq_true ca, if_pos rfl]
        unfold cmpI ordN
        rw [if_pos]
        split <;> first | omega | (split <;> omega)
      · rw [decide_eq_false ca, if_neg (by decide)]
        unfold cmpI ordN
        rw [if_neg, if_neg] <;> (split <;> first | omega | (split <;> omega))
    · unfold Ieee.Format.order
      rw [read_inf ha (by omega), read_inf hb (by omega)]
      show some (compare (pS b).toNat (pS a).toNat) = _
      unfold pS
      congr 1
      by_cases ca : 2147483648 ≤ a <;> by_cases cb : 2147483648 ≤ b
      · rw [decide_eq_true ca, decide_eq_true cb]
        unfold cmpI ordN
        rw [if_neg, if_pos]
        · rfl
        all_goals (split <;> first | omega | (split <;> omega))
      · rw [decide_eq_true ca, decide_eq_false cb]
        unfold cmpI ordN
        rw [if_pos]
        · rfl
        all_goals (split <;> first | omega | (split <;> omega))
      · rw [decide_eq_false ca, decide_eq_true cb]
        unfold cmpI ordN
        rw [if_neg, if_neg]
        · rfl
        all_goals (split <;> first | omega | (split <;> omega))
      · rw [decide_eq_false ca, decide_eq_false cb]
        unfold cmpI ordN
        rw [if_neg, if_pos]
        · rfl
        all_goals (split <;> first | omega | (split <;> omega))
theorem order_nan {a b : Nat} (h : 2139095040 < a % 2147483648 ∨ 2139095040 < b % 2147483648) : Ieee.single.order a b = none := by
  unfold Ieee.Format.order
  rcases h with h | h
  · obtain ⟨s, t, e⟩ := read_nan h
    rw [e]
    unfold Ieee.Datum.order
    rfl
  · obtain ⟨s, t, e⟩ := read_nan h
    rw [e]
    cases Ieee.single.read a <;> rfl
/-- Is it a number, and no infinity? -/
theorem fin_iff {b : Nat} (hb : b < 4294967296) : ((Ieee.single.order 4286578687 b == some .lt || Ieee.single.order 4286578687 b == some .eq) && (Ieee.single.order b 2139095039 == some .lt || Ieee.single.order b 2139095039 == some .eq)) = decide (b % 2147483648 < 2139095040) := by
  by_cases hn : 2139095040 < b % 2147483648
  · rw [order_nan (.inr hn), order_nan (.inl hn), decide_eq_false (by omega)]
    rfl
  · rw [order_eq (by decide) hb (by decide) (by omega), order_eq hb (by decide) (by omega) (by decide)]
    have e1 : ordN 4286578687 = -2139095039 := by decide
    have e2 : ordN 2139095039 = 2139095039 := by decide
    rw [e1, e2]
    have hz : (b % 2147483648 < 2139095040) ↔ (-2139095039 ≤ ordN b ∧ ordN b ≤ 2139095039) := by unfold ordN; split <;> omega
    rw [decide_eq_decide.2 hz]
    unfold cmpI
    by_cases c1 : -2139095039 < ordN b
    · rw [if_pos c1]
      by_cases c2 : ordN b < 2139095039
      · rw [if_pos c2, decide_eq_true (by omega)]; rfl
      · rw [if_neg c2]
        by_cases c3 : ordN b = 2139095039
        · rw [if_pos c3, decide_eq_true (by omega)]; rfl
        · rw [if_neg c3, decide_eq_false (by omega)]; rfl
    · rw [if_neg c1]
      by_cases c3 : -2139095039 = ordN b
      · rw [if_pos c3, if_pos (by omega), decide_eq_true (by omega)]; rfl
      · rw [if_neg c3, decide_eq_false (by omega)]; rfl
end Go.Proofs.YthmjkmdbggfiiaaGreatDoor.CF


/- WHERE SUMS, PRODUCTS AND QUOTIENTS HAVE AN ANSWER. No program. -/
namespace Go.Proofs.YthmjkmdbggfiiaaGreatDoor.CF

theorem shift_eq {m : Nat} {e : Int} (h0 : m ≠ 0) (h1 : -126 ≤ e + m.log2) : shiftN m e = (m.log2 : Int) - 23 := by
  unfold shiftN bitsN
  rw [if_neg h0]
  split <;> omega
/-- A number in the midst: its word is that of a normal one. -/
theorem rnd_norm (minus : Bool) {m : Nat} {e : Int} (more : Bool) (h0 : m ≠ 0) (h1 : -126 ≤ e + m.log2) (h2 : e + m.log2 ≤ 120) : ∃ r, rnd minus m e more = wd minus r ∧ ((e + m.log2 + 127).toNat) * 8388608 ≤ r ∧ r ≤ ((e + m.log2 + 128).toNat) * 8388608 := by
  unfold rnd
  have hs := shift_eq h0 h1
  have hb : bitsN m = m.log2 + 1 := by unfold bitsN; rw [if_neg h0]
  rw [hs, if_neg (by omega)]
  refine ⟨_, rfl, ?_⟩
  have hl1 : 2 ^ m.log2 ≤ m := Nat.log2_self_le h0
  have hl2 : m < 2 ^ (m.log2 + 1) := Nat.lt_log2_self
  have hK : 8388608 ≤ keptN m ((m.log2 : Int) - 23) more ∧ keptN m ((m.log2 : Int) - 23) more ≤ 16777216 := by
    unfold keptN
    split
    · have hq : m / 2 ^ ((m.log2 : Int) - 23).toNat < 16777216 := by
        rw [Nat.div_lt_iff_lt_mul (Nat.two_pow_pos _), show (16777216 : Nat) = 2 ^ 24 by decide, ← Nat.pow_add, show 24 + ((m.log2 : Int) - 23).toNat = m.log2 + 1 by omega]
        exact hl2
      have hq2 : 8388608 ≤ m / 2 ^ ((m.log2 : Int) - 23).toNat := by
        rw [Nat.le_div_iff_mul_le (Nat.two_pow_pos _), show (8388608 : Nat) = 2 ^ 23 by decide, ← Nat.pow_add, show 23 + ((m.log2 : Int) - 23).toNat = m.log2 by omega]
        exact hl1
      split <;> omega
    · have h3 : 2 ^ m.log2 * 2 ^ (-((m.log2 : Int) - 23)).toNat ≤ m * 2 ^ (-((m.log2 : Int) - 23)).toNat := Nat.mul_le_mul_right _ hl1
      have h4 : m * 2 ^ (-((m.log2 : Int) - 23)).toNat < 2 ^ (m.log2 + 1) * 2 ^ (-((m.log2 : Int) - 23)).toNat := Nat.mul_lt_mul_of_pos_right hl2 (Nat.two_pow_pos _)
      rw [← Nat.pow_add, show m.log2 + (-((m.log2 : Int) - 23)).toNat = 23 by omega] at h3
      rw [← Nat.pow_add, show m.log2 + 1 + (-((m.log2 : Int) - 23)).toNat = 24 by omega] at h4
      have e1 : (2 : Nat) ^ 23 = 8388608 := by decide
      have e2 : (2 : Nat) ^ 24 = 16777216 := by decide
      omega
  rw [packN_eq (by omega) hK.2 (fun h => absurd h (by omega))]
  rw [Nat.min_eq_left (by omega)]
  omega
theorem wd_false (r : Nat) : wd false r = r := rfl
/-- A whole number from 1 on that is not great. -/
theorem whole_norm {z : Int} (h1 : 1 ≤ z) (h2 : z ≤ 20000000000000) : 1065353216 ≤ wholeN z ∧ wholeN z ≤ 1442840576 := by
  have h0 : z.natAbs ≠ 0 := by omega
  have hl : z.natAbs.log2 ≤ 44 := by have := (Nat.log2_lt h0 (k := 45)).2 (by omega); omega
  obtain ⟨r, hr, h3, h4⟩ := rnd_norm false (m := z.natAbs) (e := 0) false h0 (by omega) (by omega)
  unfold wholeN
  rw [if_neg (by omega), hr, wd_false]
  omega
theorem log2_norm {m : Nat} (h1 : 8388608 ≤ m) (h2 : m < 16777216) : m.log2 = 23 := by
  rw [Nat.log2_eq_iff (by omega)]
  exact ⟨h1, h2⟩
theorem norm_parts {a : Nat} (h1 : 8388608 ≤ a) (h2 : a < 2139095040) : pS a = false ∧ 8388608 ≤ pM a ∧ padN (pM a) = 0 ∧ pE a = ((a / 8388608 : Nat) : Int) - 150 := by
  have e : a % 2147483648 = a := by omega
  have hm : 8388608 ≤ pM a := by unfold pM; rw [e, if_neg (by omega)]; omega
  refine ⟨?_, hm, ?_, ?_⟩
  · unfold pS; exact decide_eq_false (by omega)
  · unfold padN; rw [log2_norm hm (pM_lt a)]
  · unfold pE; rw [e, if_neg (by omega)]
/-- The quotient of two such numbers. -/
theorem div_norm {u v : Nat} (hu : 1065353216 ≤ u ∧ u ≤ 1442840576) (hv : 1065353216 ≤ v ∧ v ≤ 1442840576) : 8388608 ≤ divN u v ∧ divN u v < 2139095040 := by
  obtain ⟨s1, m1, p1, e1⟩ := norm_parts (a := u) (by omega) (by omega)
  obtain ⟨s2, m2, p2, e2⟩ := norm_parts (a := v) (by omega) (by omega)
  have l1 := pM_lt u
  have l2 := pM_lt v
  unfold divN
  rw [if_neg (by omega), if_neg (by omega), s1, s2, p1, p2, e1, e2, Nat.pow_zero, Nat.mul_one, Nat.mul_one]
  show 8388608 ≤ rnd false _ _ _ ∧ rnd false _ _ _ < _
  obtain ⟨q, hq⟩ : ∃ q, q = pM u * 2 ^ 38 / pM v := ⟨_, rfl⟩
  have hq1 : 137438953472 ≤ q := by
    have h : 137438953472 ≤ pM u * 274877906944 / pM v := (Nat.le_div_iff_mul_le (by omega)).2 (by omega)
    rw [hq]
    exact h
  have hq2 : q < 1099511627776 := by
    have h : pM u * 274877906944 / pM v < 1099511627776 := (Nat.div_lt_iff_lt_mul (by omega)).2 (by omega)
    rw [hq]
    exact h
  rw [← hq]
  have hq0 : q ≠ 0 := by omega
  have hg1 : 37 ≤ q.log2 := (Nat.le_log2 hq0).2 hq1
  have hg2 : q.log2 < 40 := (Nat.log2_lt hq0).2 hq2
  obtain ⟨r, hr, h3, h4⟩ := rnd_norm false (m := q) (e := ((u / 8388608 : Nat) : Int) - 150 - ((0 : Nat) : Int) - (((v / 8388608 : Nat) : Int) - 150 - ((0 : Nat) : Int)) - 38) (decide (0 < pM u * 2 ^ 38 % pM v)) hq0 (by omega) (by omega)
  rw [hr, wd_false]
  omega
theorem div_some {a b : Nat} (ha : a < 4294967296) (hb : b < 4294967296) (h1 : a % 2147483648 < 2139095040) (h2 : b % 2147483648 < 2139095040) (h0 : pM b ≠ 0) : Ieee.single.div a b = some (divN a b) := by
  have h := divN_eq ha hb h2 h0
  unfold Ieee.Format.div at h ⊢
  rw [read_fin ha h1, read_fin hb h2] at h ⊢
  unfold Ieee.Datum.quotient at h ⊢
  simp only at h ⊢
  rw [if_neg h0] at h ⊢
  rw [h]
  rfl
/-- An infinity by what is finite. -/
theorem div_some_inf {a b : Nat} (ha : a < 4294967296) (hb : b < 4294967296) (h1 : a % 2147483648 = 2139095040) (h2 : b % 2147483648 < 2139095040) (h0 : pM b ≠ 0) : Ieee.single.div a b = some (divN a b) := by
  have h := divN_eq ha hb h2 h0
  unfold Ieee.Format.div at h ⊢
  rw [read_inf ha h1, read_fin hb h2] at h ⊢
  rw [h]
  rfl
theorem add_some {a b : Nat} (ha : a < 4294967296) (hb : b < 4294967296) (h1 : a % 2147483648 < 2139095040) (h2 : b % 2147483648 ≤ 2139095040) : Ieee.single.add a b = some (addN a b) := by
  have h := addN_eq ha hb
  unfold Ieee.Format.add at h ⊢
  by_cases f2 : b % 2147483648 < 2139095040
  · rw [read_fin ha h1, read_fin hb f2] at h ⊢
    rw [h]
    rfl
  · rw [read_fin ha h1, read_inf hb (by omega)] at h ⊢
    rw [h]
    rfl
theorem sub_some {a b : Nat} (ha : a < 4294967296) (hb : b < 4294967296) (h1 : a % 2147483648 < 2139095040) (h2 : b % 2147483648 < 2139095040) : Ieee.single.sub a b = some (subN a b) := by
  have h := subN_eq ha hb
  unfold Ieee.Format.sub at h ⊢
  rw [read_fin ha h1, read_fin hb h2] at h ⊢
  rw [h]
  rfl
/-- What is written of a number is a number or an infinity. -/
theorem near_le (s : Bool) (m : Nat) (p : Int) : Ieee.single.nearest s m p % 2147483648 ≤ 2139095040 := by
  by_cases h : m = 0
  · subst h
    rw [nearest_zero]
    cases s <;> decide
  · rw [nearest_eq _ _ _ h]
    have : rungQ m 1 p m.log2 ≤ 2139095040 := by unfold rungQ; exact Nat.min_le_right _ _
    unfold wd
    split <;> omega
theorem near_lt (s : Bool) (m : Nat) (p : Int) : Ieee.single.nearest s m p < 4294967296 := by
  by_cases h : m = 0
  · subst h
    rw [nearest_zero]
    cases s <;> decide
  · rw [nearest_eq _ _ _ h]
    have : rungQ m 1 p m.log2 ≤ 2139095040 := by unfold rungQ; exact Nat.min_le_right _ _
    unfold wd
    split <;> omega
theorem sumN_le (s : Bool) (A : Nat) (t : Bool) (B : Nat) (e : Int) : sumN s A t B e % 2147483648 ≤ 2139095040 ∧ sumN s A t B e < 4294967296 := by
  unfold sumN
  split
  · exact ⟨near_le _ _ _, near_lt _ _ _⟩
  · split
    · exact ⟨by decide, by decide⟩
    · split
      · exact ⟨near_le _ _ _, near_lt _ _ _⟩
      · exact ⟨near_le _ _ _, near_lt _ _ _⟩
theorem addN_le {a b : Nat} (hb : b < 4294967296) (h1 : a % 2147483648 < 2139095040) (h2 : b % 2147483648 ≤ 2139095040) : addN a b % 2147483648 ≤ 2139095040 ∧ addN a b < 4294967296 := by
  have hpa := pE_le a
  have hpb := pE_le b
  unfold addN
  rw [if_neg (by omega), if_neg (by omega)]
  split
  · exact ⟨h2, hb⟩
  · unfold swapF
    split
    · rw [addF_eq _ _ _ _ _ _ (by omega) (pM_lt b) (pM_lt a) (fun h => pM_norm (by omega))]
      exact sumN_le _ _ _ _ _
    · rw [addF_eq _ _ _ _ _ _ (by omega) (pM_lt a) (pM_lt b) (fun h => pM_norm (by omega))]
      exact sumN_le _ _ _ _ _
theorem subN_le {a b : Nat} (hb : b < 4294967296) (h1 : a % 2147483648 < 2139095040) (h2 : b % 2147483648 < 2139095040) : subN a b % 2147483648 ≤ 2139095040 ∧ subN a b < 4294967296 := by
  unfold subN
  exact addN_le (negN_lt hb) h1 (by rw [negN_mod b hb]; omega)
theorem mulN_le (a b : Nat) : mulN a b % 2147483648 ≤ 2139095040 ∧ mulN a b < 4294967296 := by
  unfold mulN
  rw [rnd_exact]
  exact ⟨near_le _ _ _, near_lt _ _ _⟩
/-- An infinity by a number above 0 is that infinity. -/
theorem mul_inf {d t : Nat} (hd : d < 4294967296) (h1 : d % 2147483648 = 2139095040) (ht1 : 8388608 ≤ t) (ht2 : t < 2139095040) : Ieee.single.mul d t = some d := by
  obtain ⟨s1, m1, -, -⟩ := norm_parts ht1 ht2
  unfold Ieee.Format.mul
  rw [read_inf hd h1, read_fin (by omega) (by omega), s1]
  show Option.map _ (if pM t = 0 then none else some (Ieee.Datum.infinity (pS d ^^ false))) = _
  rw [if_neg (by omega), Bool.xor_false]
  show some (Ieee.single.write (.infinity (pS d))) = _
  rw [write_inf hd h1]
/-- The height at x between two points. -/
def btwN (a b : Int × Nat) (x : Int) : Nat := if subN b.2 a.2 % 2147483648 < 2139095040 then addN a.2 (mulN (subN b.2 a.2) (divN (wholeN (x - a.1)) (wholeN (b.1 - a.1)))) else subN b.2 a.2
theorem btw_ok {a b : Int × Nat} {x : Int} (ha : a.2 < 4294967296) (hb : b.2 < 4294967296) (fa : a.2 % 2147483648 < 2139095040) (fb : b.2 % 2147483648 < 2139095040) (h1 : a.1 < x) (h2 : x < b.1) (h3 : b.1 - a.1 ≤ 20000000000000) : ∃ part dif prod, Ieee.single.div (wholeN (x - a.1)) (wholeN (b.1 - a.1)) = some part ∧ part = divN (wholeN (x - a.1)) (wholeN (b.1 - a.1)) ∧ Ieee.single.sub b.2 a.2 = some dif ∧ dif = subN b.2 a.2 ∧ Ieee.single.mul dif part = some prod ∧ Ieee.single.add a.2 prod = some (btwN a b x) := by
  have hu := whole_norm (z := x - a.1) (by omega) (by omega)
  have hv := whole_norm (z := b.1 - a.1) (by omega) h3
  have ht := div_norm hu hv
  obtain ⟨-, mv, -, -⟩ := norm_parts (a := wholeN (b.1 - a.1)) (by omega) (by omega)
  have hd := subN_le ha fb fa
  by_cases hf : subN b.2 a.2 % 2147483648 < 2139095040
  · have hm := mulN_le (subN b.2 a.2) (divN (wholeN (x - a.1)) (wholeN (b.1 - a.1)))
    refine ⟨_, _, _, div_some (by omega) (by omega) (by omega) (by omega) (by omega), rfl, sub_some hb ha fb fa, rfl, mulN_eq hd.2 (by omega) hf (by omega), ?_⟩
    rw [add_some ha hm.2 fa hm.1]
    unfold btwN
    rw [if_pos hf]
  · refine ⟨_, _, _, div_some (by omega) (by omega) (by omega) (by omega) (by omega), rfl, sub_some hb ha fb fa, rfl, mul_inf hd.2 (by omega) ht.1 ht.2, ?_⟩
    rw [add_some ha hd.2 fa hd.1]
    unfold btwN
    rw [if_neg hf]
    unfold addN
    rw [if_neg (by omega), if_neg (by omega), if_pos hf]
theorem btwN_lt {a b : Int × Nat} {x : Int} (ha : a.2 < 4294967296) (fa : a.2 % 2147483648 < 2139095040) (fb : b.2 % 2147483648 < 2139095040) : btwN a b x < 4294967296 := by
  have hd := subN_le ha fb fa
  unfold btwN
  split
  · have hm := mulN_le (subN b.2 a.2) (divN (wholeN (x - a.1)) (wholeN (b.1 - a.1)))
    exact (addN_le hm.2 fa hm.1).2
  · exact hd.2
end Go.Proofs.YthmjkmdbggfiiaaGreatDoor.CF


namespace Go.Proofs.YthmjkmdbggfiiaaGreatDoor.CF
open Go.RowKit

def nanB (a : Nat) : Bool := decide (2139095040 < a % 2147483648)
end Go.Proofs.YthmjkmdbggfiiaaGreatDoor.CF


namespace Go.Proofs.YthmjkmdbggfiiaaGreatDoor.CF
open Go.RowKit

theorem bitsN_le63 {m : Nat} (h : m < 9223372036854775808) : bitsN m ≤ 63 := by
  unfold bitsN
  split
  · omega
  · rename_i h0
    have := (Nat.log2_lt h0 (k := 63)).2 (by omega)
    omega
def yN (d : Int) (bm : Nat) : Nat := if d ≤ 38 then bm * 2 ^ (38 - d).toNat else if d - 38 < 30 then bm / 2 ^ (d - 38).toNat else 0
def moN (d : Int) (bm : Nat) : Bool := if d ≤ 38 then false else if d - 38 < 30 then decide (0 < bm % 2 ^ (d - 38).toNat) else decide (0 < bm)
def addG (s t : Bool) (x y : Nat) (e : Int) (mo : Bool) : Nat := if s = t then rnd s (x + y) e mo else if x = y ∧ mo = false then 0 else if y ≤ x then (if mo = true then rnd s (x - y - 1) e true else rnd s (x - y) e false) else rnd t (y - x) e false
theorem addF_G (sa : Bool) (am : Nat) (ae : Int) (sb : Bool) (bm : Nat) (be : Int) : addF sa am ae sb bm be = addG sa sb (am * 2 ^ 38) (yN (ae - be) bm) (ae - 38) (moN (ae - be) bm) := rfl
theorem yN_lt {d : Int} {bm : Nat} (h0 : 0 ≤ d) (h : bm < 16777216) : yN d bm < 4611686018427387904 := by
  unfold yN
  split
  · have h1 : bm * 2 ^ (38 - d).toNat ≤ bm * 2 ^ 38 := Nat.mul_le_mul_left _ (Nat.pow_le_pow_right (by omega) (by omega))
    omega
  · split
    · exact Nat.lt_of_le_of_lt (Nat.div_le_self _ _) (by omega)
    · omega
end Go.Proofs.YthmjkmdbggfiiaaGreatDoor.CF


namespace Go.Proofs.YthmjkmdbggfiiaaGreatDoor.CF
open Go.RowKit

theorem pad_iff {m : Nat} (h0 : m ≠ 0) (h : m < 16777216) (k : Nat) : m * 2 ^ k < 8388608 ↔ k < padN m := by
  have hl : m.log2 ≤ 23 := by have := (Nat.log2_lt h0 (k := 24)).2 (by omega); omega
  have h1 : m * 2 ^ k ≠ 0 := Nat.mul_ne_zero h0 (by have := Nat.two_pow_pos k; omega)
  have h2 := Nat.log2_lt h1 (k := 23)
  rw [log2_scale h0] at h2
  unfold padN
  constructor
  · intro h3
    have := h2.2 (by omega)
    omega
  · intro h3
    have := h2.1 (by omega)
    omega
theorem pad_lt {m : Nat} (h : m < 16777216) : m * 2 ^ padN m < 16777216 := by
  by_cases h0 : m = 0
  · subst h0; simp
  · have hl : m.log2 ≤ 23 := by have := (Nat.log2_lt h0 (k := 24)).2 (by omega); omega
    have h1 : m * 2 ^ padN m < 2 ^ (m.log2 + 1) * 2 ^ padN m := Nat.mul_lt_mul_of_pos_right Nat.lt_log2_self (Nat.two_pow_pos _)
    rw [← Nat.pow_add, show m.log2 + 1 + padN m = 24 by unfold padN; omega] at h1
    omega
end Go.Proofs.YthmjkmdbggfiiaaGreatDoor.CF


namespace Go.Proofs.YthmjkmdbggfiiaaGreatDoor.CF
open Go.RowKit

/-- Points: places and the bits of their heights. -/
abbrev Dots := List (Int × Nat)
def Ok (D : Dots) : Prop := ∀ d ∈ D, (-9223372036854775808 ≤ d.1 ∧ d.1 ≤ 9223372036854775807) ∧ d.2 < 4294967296
/-- A list of the program's points. -/
def PtAt (w : World) (a : Option Addr) (D : Dots) : Prop := D = [] ∨ ∃ b off, a = some ⟨b, off, none⟩ ∧ b < w.heap.size ∧ ∀ i (h : i < D.length), w.cell? ⟨b, off + i * 2, none⟩ = some (.int .i64 D[i].1) ∧ w.cell? ⟨b, off + i * 2 + 1, none⟩ = some (.float .f32 D[i].2)
/-- A list of the document's points. -/
def RtAt (w : World) (a : Option Addr) (D : Dots) : Prop := D = [] ∨ ∃ b off, a = some ⟨b, off, none⟩ ∧ b < w.heap.size ∧ ∀ i (h : i < D.length), w.cell? ⟨b, off + i * 2, none⟩ = some (.int .i64 D[i].1) ∧ w.cell? ⟨b, off + i * 2 + 1, none⟩ = some (.int .u32 (D[i].2 : Int))
theorem PtAt.later {w w' : World} {a : Option Addr} {D : Dots} (h : PtAt w a D) (hb : Below w.heap.size w w') : PtAt w' a D := by
  rcases h with h | ⟨b, off, ha, hlt, hc⟩
  · exact .inl h
  · exact .inr ⟨b, off, ha, Nat.lt_of_lt_of_le hlt hb.size, fun i hi => ⟨(hb.cell (p := ⟨b, off + i * 2, none⟩) hlt).trans (hc i hi).1, (hb.cell (p := ⟨b, off + i * 2 + 1, none⟩) hlt).trans (hc i hi).2⟩⟩
theorem RtAt.later {w w' : World} {a : Option Addr} {D : Dots} (h : RtAt w a D) (hb : Below w.heap.size w w') : RtAt w' a D := by
  rcases h with h | ⟨b, off, ha, hlt, hc⟩
  · exact .inl h
  · exact .inr ⟨b, off, ha, Nat.lt_of_lt_of_le hlt hb.size, fun i hi => ⟨(hb.cell (p := ⟨b, off + i * 2, none⟩) hlt).trans (hc i hi).1, (hb.cell (p := ⟨b, off + i * 2 + 1, none⟩) hlt).trans (hc i hi).2⟩⟩
end Go.Proofs.YthmjkmdbggfiiaaGreatDoor.CF
