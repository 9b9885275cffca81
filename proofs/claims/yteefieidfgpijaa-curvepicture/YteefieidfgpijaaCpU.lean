import Derived.Test.YteefieidfgpijaaCpT
namespace Go.Proofs.Yteefieidfgpijaa.CF

theorem sv_eq {a b : Nat} (ha : a < 4294967296) (hb : b < 4294967296) (h : ordN a = ordN b) : sv a = sv b := by
  have h1 := sv_lt ha hb
  have h2 := sv_lt hb ha
  omega
/-- A difference, but for the zero's sign. -/
theorem sub_mod {y l : Nat} (hy : y < 4294967296) (hl : l < 4294967296) (fy : y % 2147483648 < 2139095040) (fl : l % 2147483648 < 2139095040) (h : ordN l ≤ ordN y) : subN y l % 2147483648 = Ieee.single.nearest false (sv y - sv l).toNat (-149) ∧ (subN y l = subN y l % 2147483648 ∨ (subN y l = 2147483648 ∧ sv y - sv l = 0)) := by
  have hn := near_f (sv y - sv l).toNat (-149)
  rcases subN_val hy hl fy fl h with e | ⟨e, h0⟩
  · rw [e]
    exact ⟨by omega, .inl (by omega)⟩
  · refine ⟨?_, .inr ⟨e, h0⟩⟩
    rw [e, h0]
    show _ = Ieee.single.nearest false 0 (-149)
    rw [nearest_zero, wd_false]
theorem sub_pos {g l : Nat} (hg : g < 4294967296) (hl : l < 4294967296) (fg : g % 2147483648 < 2139095040) (fl : l % 2147483648 < 2139095040) (h : ordN l ≤ ordN g) (hne : ordN l ≠ ordN g) : subN g l = Ieee.single.nearest false (sv g - sv l).toNat (-149) ∧ subN g l ≠ 0 := by
  have hsl : sv l < sv g := (sv_lt hl hg).2 (by omega)
  rcases subN_val hg hl fg fl h with e | ⟨-, e⟩
  · have k1 := near_above (N := (sv g - sv l).toNat) (r := 1) (by decide) (by have : vR 1 = 1 := rfl; omega)
    rw [← e] at k1
    exact ⟨e, by omega⟩
  · omega
theorem zero_row {a b n : Nat} (ha : a = 0 ∨ a = 2147483648) (hb : b < 2139095040) (hn : n < 40) : partN (addN (mulN (divN a b) (wholeN (n : Int))) 1056964608) = 0 := by
  obtain ⟨-, t2, -, -⟩ := half_tab n hn
  have hwn : pS (wholeN (n : Int)) = false := decide_eq_false (by omega)
  have hsb : pS b = false := decide_eq_false (by omega)
  rcases ha with rfl | rfl
  · have pa : pM 0 = 0 := rfl
    have sa : pS 0 = false := rfl
    have ed : divN 0 b = 0 := by unfold divN; rw [if_neg (by decide), if_pos pa, sa, hsb]; rfl
    rw [ed]
    have em : mulN 0 (wholeN (n : Int)) = 0 := by
      unfold mulN
      rw [rnd_exact, hwn, pa, Nat.zero_mul, nearest_zero, sa]
      rfl
    rw [em]
    decide +kernel
  · have pa : pM 2147483648 = 0 := rfl
    have sa : pS 2147483648 = true := rfl
    have ed : divN 2147483648 b = 2147483648 := by unfold divN; rw [if_neg (by decide), if_pos pa, sa, hsb]; rfl
    rw [ed]
    have em : mulN 2147483648 (wholeN (n : Int)) = 2147483648 := by
      unfold mulN
      rw [rnd_exact, hwn, pa, Nat.zero_mul, nearest_zero, sa]
      rfl
    rw [em]
    decide +kernel
/-- The row hangs on the order alone, not on the zeros' signs. -/
theorem row_same {y l g l' g' n : Nat} (hy : y < 4294967296) (hl : l < 4294967296) (hg : g < 4294967296) (hl' : l' < 4294967296) (hg' : g' < 4294967296) (fy : y % 2147483648 < 2139095040) (fl : l % 2147483648 < 2139095040) (fg : g % 2147483648 < 2139095040) (fl' : l' % 2147483648 < 2139095040) (fg' : g' % 2147483648 < 2139095040) (h1 : ordN l ≤ ordN y) (h2 : ordN y ≤ ordN g) (hb : subN g l % 2147483648 < 2139095040) (el : ordN l' = ordN l) (eg : ordN g' = ordN g) (hn : n < 40) : rowN y l' g' n = rowN y l g n := by
  unfold rowN
  rw [el, eg]
  by_cases h3 : ordN l = ordN g
  · rw [if_pos h3, if_pos h3]
  · rw [if_neg h3, if_neg h3]
    obtain ⟨b1, b2⟩ := sub_pos hg hl fg fl (by omega) h3
    obtain ⟨b3, -⟩ := sub_pos hg' hl' fg' fl' (by omega) (by omega)
    have es := sv_eq hl' hl el
    have es2 := sv_eq hg' hg eg
    rw [es, es2, ← b1] at b3
    rw [b3]
    have hnb := near_f (sv g - sv l).toNat (-149)
    rw [← b1] at hnb
    obtain ⟨m1, c1⟩ := sub_mod hy hl fy fl h1
    obtain ⟨m2, c2⟩ := sub_mod hy hl' fy fl' (by omega)
    rw [es, ← m1] at m2
    rcases c1 with c1 | ⟨c1, z1⟩
    · rcases c2 with c2 | ⟨c2, z2⟩
      · rw [c2, m2, ← c1]
      · rw [zero_row (.inr c2) (by omega) hn, zero_row _ (by omega) hn]
        have hz : subN y l % 2147483648 = 0 := by rw [← m2, c2]
        exact .inl (by omega)
    · rw [zero_row (.inr c1) (by omega) hn, zero_row _ (by omega) hn]
      have hz : subN y l' % 2147483648 = 0 := by rw [m2, c1]
      rcases c2 with c2 | ⟨c2, -⟩
      · exact .inl (by omega)
      · exact .inr c2
theorem dif_same {g l g' l' : Nat} (hl : l < 4294967296) (hg : g < 4294967296) (hl' : l' < 4294967296) (hg' : g' < 4294967296) (fl : l % 2147483648 < 2139095040) (fg : g % 2147483648 < 2139095040) (fl' : l' % 2147483648 < 2139095040) (fg' : g' % 2147483648 < 2139095040) (h : ordN l ≤ ordN g) (el : ordN l' = ordN l) (eg : ordN g' = ordN g) : subN g' l' % 2147483648 = subN g l % 2147483648 := by
  rw [(sub_mod hg hl fg fl h).1, (sub_mod hg' hl' fg' fl' (by omega)).1, sv_eq hl' hl el, sv_eq hg' hg eg]
def minN (x y : Nat) : Nat := if ordN x < ordN y then x else if ordN y < ordN x then y else if pS x = true then x else y
def maxN (x y : Nat) : Nat := if ordN x < ordN y then y else if ordN y < ordN x then x else if pS x = true then y else x
theorem minN_ord (x y : Nat) : ordN (minN x y) = min (ordN x) (ordN y) := by
  unfold minN
  split
  · omega
  · split
    · omega
    · split <;> omega
theorem maxN_ord (x y : Nat) : ordN (maxN x y) = max (ordN x) (ordN y) := by
  unfold maxN
  split
  · omega
  · split
    · omega
    · split <;> omega
theorem minN_or (x y : Nat) : minN x y = x ∨ minN x y = y := by
  unfold minN
  repeat (first | (split; skip) | exact .inl rfl | exact .inr rfl)
theorem maxN_or (x y : Nat) : maxN x y = x ∨ maxN x y = y := by
  unfold maxN
  repeat (first | (split; skip) | exact .inl rfl | exact .inr rfl)
/-- The k-th height. -/
def hgt (D : List (Int × Nat)) (k : Nat) : Nat := (D.getD k (0, 0)).2
def loP (D : List (Int × Nat)) : Nat → Nat
  | 0 => hgt D 0
  | k + 1 => minN (loP D k) (hgt D k)
def hiP (D : List (Int × Nat)) : Nat → Nat
  | 0 => hgt D 0
  | k + 1 => maxN (hiP D k) (hgt D k)
def loR (D : List (Int × Nat)) : Nat → Nat
  | 0 => 0
  | k + 1 => if k = 0 ∨ ordN (hgt D k) < ordN (loR D k) then hgt D k else loR D k
def hiR (D : List (Int × Nat)) : Nat → Nat
  | 0 => 0
  | k + 1 => if k = 0 ∨ ordN (hiR D k) < ordN (hgt D k) then hgt D k else hiR D k
theorem loP_in (D : List (Int × Nat)) : ∀ k, ∃ j, (j < k ∨ j = 0) ∧ loP D k = hgt D j
  | 0 => ⟨0, .inr rfl, rfl⟩
  | k + 1 => by
    obtain ⟨j, hj, e⟩ := loP_in D k
    unfold loP
    rcases minN_or (loP D k) (hgt D k) with h | h
    · exact ⟨j, by omega, by rw [h, e]⟩
    · exact ⟨k, by omega, h⟩
theorem hiP_in (D : List (Int × Nat)) : ∀ k, ∃ j, (j < k ∨ j = 0) ∧ hiP D k = hgt D j
  | 0 => ⟨0, .inr rfl, rfl⟩
  | k + 1 => by
    obtain ⟨j, hj, e⟩ := hiP_in D k
    unfold hiP
    rcases maxN_or (hiP D k) (hgt D k) with h | h
    · exact ⟨j, by omega, by rw [h, e]⟩
    · exact ⟨k, by omega, h⟩
theorem loR_in (D : List (Int × Nat)) : ∀ k, k = 0 ∨ ∃ j, j < k ∧ loR D k = hgt D j
  | 0 => .inl rfl
  | k + 1 => by
    right
    unfold loR
    split
    · exact ⟨k, by omega, rfl⟩
    · rcases loR_in D k with h | ⟨j, hj, e⟩
      · omega
      · exact ⟨j, by omega, e⟩
theorem hiR_in (D : List (Int × Nat)) : ∀ k, k = 0 ∨ ∃ j, j < k ∧ hiR D k = hgt D j
  | 0 => .inl rfl
  | k + 1 => by
    right
    unfold hiR
    split
    · exact ⟨k, by omega, rfl⟩
    · rcases hiR_in D k with h | ⟨j, hj, e⟩
      · omega
      · exact ⟨j, by omega, e⟩
theorem lo_same (D : List (Int × Nat)) : ∀ k, ordN (loP D (k + 1)) = ordN (loR D (k + 1))
  | 0 => by
    unfold loR
    rw [if_pos (.inl rfl)]
    unfold loP
    rw [minN_ord]
    unfold loP
    omega
  | k + 1 => by
    have ih := lo_same D k
    unfold loP loR
    rw [minN_ord, ih]
    generalize loR D (k + 1) = R
    split
    · omega
    · omega
theorem hi_same (D : List (Int × Nat)) : ∀ k, ordN (hiP D (k + 1)) = ordN (hiR D (k + 1))
  | 0 => by
    unfold hiR
    rw [if_pos (.inl rfl)]
    unfold hiP
    rw [maxN_ord]
    unfold hiP
    omega
  | k + 1 => by
    have ih := hi_same D k
    unfold hiP hiR
    rw [maxN_ord, ih]
    generalize hiR D (k + 1) = R
    split
    · omega
    · omega
theorem loP_le (D : List (Int × Nat)) : ∀ k j, j < k → ordN (loP D k) ≤ ordN (hgt D j)
  | k + 1, j, hj => by
    unfold loP
    rw [minN_ord]
    by_cases h : j = k
    · subst h; omega
    · have := loP_le D k j (by omega)
      omega
theorem hiP_le (D : List (Int × Nat)) : ∀ k j, j < k → ordN (hgt D j) ≤ ordN (hiP D k)
  | k + 1, j, hj => by
    unfold hiP
    rw [maxN_ord]
    by_cases h : j = k
    · subst h; omega
    · have := hiP_le D k j (by omega)
      omega
end Go.Proofs.Yteefieidfgpijaa.CF
