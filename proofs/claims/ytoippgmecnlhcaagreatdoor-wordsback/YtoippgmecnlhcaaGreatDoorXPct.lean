import Derived.Test.YtoippgmecnlhcaaGreatDoorXPad
import Derived.Lib.TrimByte
namespace Go.Proofs.YtoippgmecnlhcaaGreatDoor.X
open Go.RowKit Go.Sort Go.Lib

def ch (c : Nat) : UInt8 := UInt8.ofNat (48 + c)
/-- k digits, the highest first. -/
def fx (k m : Nat) : List UInt8 := (List.range k).map fun t => dg m (k - 1 - t)
theorem fx_len (k m : Nat) : (fx k m).length = k := by simp [fx]
theorem dg_zero {m j : Nat} (h : m < 10 ^ j) : dg m j = 48 := by
  unfold dg
  rw [Nat.div_eq_of_lt h]
  rfl
theorem nDigits_lt {m : Nat} : ∀ {k : Nat}, 1 ≤ k → m < 10 ^ k → nDigits m ≤ k := by
  intro k
  induction k generalizing m with
  | zero => intro h; omega
  | succ k ih =>
    intro _ h
    by_cases h1 : m < 10
    · rw [nDigits_small h1]; omega
    · rw [nDigits_big h1]
      cases k with
      | zero => simp at h; omega
      | succ k =>
        have := ih (m := m / 10) (by omega) (Nat.div_lt_of_lt_mul (by rw [Nat.pow_succ] at h; omega))
        omega
theorem pad_fx {k m : Nat} (hk : 1 ≤ k) (h : m < 10 ^ k) : pad m k = fx k m := by
  have hn := nDigits_lt hk h
  have h10 : m < 10 ^ nDigits m := lt_pow_nDigits m
  unfold pad fx
  rw [decDigits_eq]
  generalize nDigits m = n at *
  refine List.ext_getElem (by simp; omega) fun i h1 h2 => ?_
  rw [List.getElem_append]
  simp only [List.length_replicate, List.getElem_replicate, List.getElem_map, List.getElem_range]
  split
  · rename_i hi
    refine (dg_zero (Nat.lt_of_lt_of_le h10 (Nat.pow_le_pow_right (by decide) ?_))).symm
    omega
  · rename_i hi
    congr 1
    simp at h2
    omega
theorem fx_cons (f c m : Nat) (hm : m < 10 ^ f) (hc : c < 10) : fx (f + 1) (c * 10 ^ f + m) = ch c :: fx f m := by
  have hp : 0 < 10 ^ f := Nat.pow_pos (by decide)
  unfold fx
  rw [List.range_succ_eq_map, List.map_cons, List.map_map]
  congr 1
  · show dg _ (f + 1 - 1 - 0) = ch c
    rw [Nat.add_sub_cancel, Nat.sub_zero]
    unfold dg ch
    rw [Nat.mul_comm, Nat.mul_add_div hp, Nat.div_eq_of_lt hm, Nat.add_zero, Nat.mod_eq_of_lt hc]
  · refine List.map_congr_left fun t ht => ?_
    have ht' : t < f := by simpa using ht
    show dg _ (f + 1 - 1 - (t + 1)) = dg _ (f - 1 - t)
    rw [show f + 1 - 1 - (t + 1) = f - 1 - t from by omega]
    unfold dg
    obtain ⟨d, hd⟩ : ∃ d, f = (f - 1 - t) + (d + 1) := ⟨t, by omega⟩
    generalize f - 1 - t = j at *
    have e : c * 10 ^ f + m = 10 ^ j * (c * 10 ^ d * 10) + m := by
      rw [hd, Nat.pow_add, Nat.pow_succ]
      have : c * (10 ^ j * (10 ^ d * 10)) = 10 ^ j * (c * 10 ^ d * 10) := by
        rw [← Nat.mul_assoc, Nat.mul_comm c, Nat.mul_assoc, Nat.mul_assoc]
      rw [this]
    rw [e, Nat.mul_add_div (Nat.pow_pos (by decide)), Nat.mul_add_mod_self_right] <;> skip

theorem trim_cons (x : UInt8) (L : List UInt8) (h : trimRightB L 48 ≠ [] ∨ x ≠ 48) : trimRightB (x :: L) 48 = x :: trimRightB L 48 := by
  unfold trimRightB at *
  rw [List.reverse_cons]
  by_cases h0 : L.reverse.dropWhile (· == 48) = []
  · rw [h0] at h ⊢
    have hx : x ≠ 48 := by
      rcases h with h | h
      · exact absurd rfl h
      · exact h
    rw [List.dropWhile_append, h0]
    simp [hx]
  · rw [List.dropWhile_append]
    have : (L.reverse.dropWhile (· == 48)).isEmpty = false := by
      cases hh : L.reverse.dropWhile (· == 48) with
      | nil => exact absurd hh h0
      | cons => rfl
    rw [this]
    simp
theorem trim_zeros : ∀ k, trimRightB (fx k 0) 48 = []
  | k => by
    have : fx k 0 = List.replicate k 48 := by
      refine List.ext_getElem (by simp [fx]) fun i h1 h2 => ?_
      simp [fx]
      exact dg_zero (Nat.pow_pos (by decide))
    rw [this]
    unfold trimRightB
    simp

/-- What stands behind the point, a digit at a time. -/
def tl (D : Nat) : Nat → Nat → Option (List UInt8)
  | 0, r => if r = 0 then some [] else none
  | f + 1, r => if r = 0 then some [] else (tl D f (10 * r % D)).map (ch (10 * r / D) :: ·)

theorem tl_eq (D : Nat) (hD : 0 < D) : ∀ (f r : Nat), r < D → tl D f r = if r * 10 ^ f % D = 0 then some (trimRightB (fx f (r * 10 ^ f / D)) 48) else none
  | 0, r, hr => by
    unfold tl
    rw [Nat.pow_zero, Nat.mul_one, Nat.mod_eq_of_lt hr]
    rfl
  | f + 1, r, hr => by
    unfold tl
    by_cases h0 : r = 0
    · subst h0
      rw [if_pos rfl, Nat.zero_mul, Nat.zero_mod, if_pos rfl, Nat.zero_div, trim_zeros]
    · rw [if_neg h0, tl_eq D hD f _ (Nat.mod_lt _ hD)]
      have hc : 10 * r / D < 10 := Nat.div_lt_of_lt_mul (by rw [Nat.mul_comm]; exact (Nat.mul_lt_mul_right (by decide)).2 hr)
      have hdm := Nat.div_add_mod (10 * r) D
      have hr' := Nat.mod_lt (10 * r) hD
      have hp : 0 < 10 ^ f := Nat.pow_pos (by decide)
      generalize hcc : 10 * r / D = c at *
      generalize 10 * r % D = r' at *
      have e : r * 10 ^ (f + 1) = D * (c * 10 ^ f) + r' * 10 ^ f := by
        rw [Nat.pow_succ, Nat.mul_comm (10 ^ f) 10, ← Nat.mul_assoc, Nat.mul_comm r 10, ← hdm, Nat.add_mul, Nat.mul_assoc]
      have hm : r' * 10 ^ f / D < 10 ^ f := Nat.div_lt_of_lt_mul ((Nat.mul_lt_mul_right hp).2 hr')
      rw [e, Nat.mul_add_mod, Nat.mul_add_div hD]
      by_cases hz : r' * 10 ^ f % D = 0
      · rw [if_pos hz, if_pos hz, Option.map_some, fx_cons f c _ hm hc, trim_cons]
        by_cases hc0 : c = 0
        · left
          intro ht
          have hr0 : r' ≠ 0 := by
            rintro rfl
            rw [hc0] at hdm
            omega
          have hq : r' * 10 ^ f / D ≠ 0 := fun hq => by
            have := Nat.div_add_mod (r' * 10 ^ f) D
            rw [hq, hz] at this
            have := Nat.mul_pos (Nat.pos_of_ne_zero hr0) hp
            omega
          have ih := tl_eq D hD f r' hr'
          rw [if_pos hz, ht] at ih
          cases f with
          | zero =>
            have hm' : r' * 10 ^ 0 / D < 1 := hm
            exact hq (Nat.lt_one_iff.1 hm')
          | succ f =>
            unfold tl at ih
            rw [if_neg hr0] at ih
            cases h2 : tl D f (10 * r' % D) with
            | none => rw [h2] at ih; cases ih
            | some l => rw [h2] at ih; simp at ih
        · right
          intro he
          have : (ch c).toNat = 48 := by rw [he]; rfl
          unfold ch at this
          rw [UInt8.toNat_ofNat'] at this
          omega
      · rw [if_neg hz, if_neg hz]
        rfl

/-- P4.12: the text of a ratio. -/
def pctL (A D : Nat) : Option (List UInt8) := (tl D 6 (A % D)).map fun l => decDigits (A / D) ++ (if l = [] then [] else 46 :: l) ++ [37]

theorem million (q m : Nat) (hm : m < 1000000) : (q * 1000000 + m) / 1000000 = q ∧ (q * 1000000 + m) % 1000000 = m := by omega
theorem pct_parts {A D : Nat} (hD : 0 < D) : A * 1000000 % D = A % D * 10 ^ 6 % D ∧ A * 1000000 / D / 1000000 = A / D ∧ A * 1000000 / D % 1000000 = A % D * 10 ^ 6 / D := by
  have hdm := Nat.div_add_mod A D
  have hr := Nat.mod_lt A hD
  have e : A * 1000000 = D * (A / D * 1000000) + A % D * 10 ^ 6 := by
    have : D * (A / D * 1000000) + A % D * 10 ^ 6 = (D * (A / D) + A % D) * 1000000 := by
      rw [Nat.add_mul, Nat.mul_assoc]
    rw [this, hdm]
  have hm : A % D * 10 ^ 6 / D < 1000000 := Nat.div_lt_of_lt_mul ((Nat.mul_lt_mul_right (by decide)).2 hr)
  rw [e, Nat.mul_add_mod, Nat.mul_add_div hD]
  exact ⟨rfl, (million _ _ hm).1, (million _ _ hm).2⟩
/-- As the program reckons it. -/
theorem pct_prog {A D : Nat} (hD : 0 < D) : pctL A D = if A * 1000000 % D = 0 then some (decDigits (A * 1000000 / D / 1000000) ++ (if A * 1000000 / D % 1000000 = 0 then [] else 46 :: trimRightB (pad (A * 1000000 / D % 1000000) 6) 48) ++ [37]) else none := by
  obtain ⟨e1, e2, e3⟩ := pct_parts (A := A) hD
  have hr := Nat.mod_lt A hD
  have hm : A % D * 10 ^ 6 / D < 10 ^ 6 := Nat.div_lt_of_lt_mul ((Nat.mul_lt_mul_right (by decide)).2 hr)
  unfold pctL
  rw [tl_eq D hD 6 _ hr, e1, e2, e3]
  by_cases hz : A % D * 10 ^ 6 % D = 0
  · rw [if_pos hz, if_pos hz, Option.map_some, pad_fx (by decide) hm]
    by_cases h0 : A % D * 10 ^ 6 / D = 0
    · rw [if_pos h0, h0, trim_zeros, if_pos rfl]
    · rw [if_neg h0, if_neg]
      intro ht
      have ih := tl_eq D hD 6 _ hr
      rw [if_pos hz, ht] at ih
      have hr0 : A % D ≠ 0 := fun h => h0 (by rw [h]; simp)
      unfold tl at ih
      rw [if_neg hr0] at ih
      cases h2 : tl D 5 (10 * (A % D) % D) with
      | none => rw [h2] at ih; cases ih
      | some l => rw [h2] at ih; simp at ih
  · rw [if_neg hz, if_neg hz]
    rfl

end Go.Proofs.YtoippgmecnlhcaaGreatDoor.X
