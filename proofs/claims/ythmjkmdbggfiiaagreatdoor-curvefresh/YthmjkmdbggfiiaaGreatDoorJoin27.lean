import Derived.Test.YthmjkmdbggfiiaaGreatDoorJoin26
namespace Go.Proofs.YthmjkmdbggfiiaaGreatDoor.CF

theorem vR_one : vR 1065353216 = 2 ^ 149 := by
  unfold vR
  rw [if_neg (by decide), show 1065353216 % 8388608 + 8388608 = 2 ^ 23 from rfl, ← Nat.pow_add]
theorem vR_le {r s : Nat} (h : r ≤ s) : vR r ≤ vR s := by
  rcases Nat.lt_or_eq_of_le h with h1 | h1
  · exact Nat.le_of_lt (vR_lt h1)
  · rw [h1]; exact Nat.le_refl _
/-- A height that is 1 at most: its parts. -/
theorem one_parts {t : Nat} (h : t % 2147483648 ≤ 1065353216) (h0 : pM t ≠ 0) : ∃ k : Nat, pE t = -(k : Int) ∧ pM t ≤ 2 ^ k := by
  have hv := vR_le h
  rw [vR_one, ← vR_eq t] at hv
  have he := pE_le t
  have hk : pE t ≤ 0 := by
    apply Classical.byContradiction
    intro hc
    have h1 : 2 ^ 150 ≤ 2 ^ (pE t + 149).toNat := Nat.pow_le_pow_right (by decide) (by omega)
    have h2 : 1 * 2 ^ (pE t + 149).toNat ≤ pM t * 2 ^ (pE t + 149).toNat := Nat.mul_le_mul_right _ (by omega)
    omega
  refine ⟨(-pE t).toNat, by omega, ?_⟩
  have e : 149 = (-pE t).toNat + (pE t + 149).toNat := by omega
  rw [show (2 : Nat) ^ 149 = 2 ^ ((-pE t).toNat + (pE t + 149).toNat) by rw [← e], Nat.pow_add] at hv
  exact Nat.le_of_mul_le_mul_right hv (Nat.two_pow_pos _)
/-- A part of a height is that height at most. -/
theorem mul_one_le {t b : Nat} (h : t % 2147483648 ≤ 1065353216) (hb : b < 2139095040) : mulN t b % 2147483648 ≤ b := by
  unfold mulN
  rw [rnd_exact]
  generalize (pS t != pS b) = s
  by_cases h0 : pM t * pM b = 0
  · rw [h0, nearest_zero]
    unfold wd
    split <;> omega
  · have ht : pM t ≠ 0 := fun e => h0 (by rw [e, Nat.zero_mul])
    have hm : pM b ≠ 0 := fun e => h0 (by rw [e, Nat.mul_zero])
    obtain ⟨k, hk, hle⟩ := one_parts h ht
    rw [hk]
    have hN : pM t * pM b ≤ pM b * 2 ^ k := by rw [Nat.mul_comm]; exact Nat.mul_le_mul_left _ hle
    have hM0 : pM b * 2 ^ k ≠ 0 := Nat.mul_ne_zero hm (Nat.pos_iff_ne_zero.1 (Nat.two_pow_pos k))
    have hone : Ieee.single.nearest false (pM b * 2 ^ k) (-(k : Int) + pE b) = b := by
      rw [show -(k : Int) + pE b = pE b - k by omega, nearest_scale, near149 _ _ (pE_le b), vR_eq, Nat.mod_eq_of_lt (by omega), near_vR false (fun e => by subst e; exact hm rfl) hb, wd_false]
    rw [nearest_eq _ _ _ hM0, wd_false] at hone
    rw [nearest_eq _ _ _ h0]
    have := rung_mono (p := -(k : Int) + pE b) h0 hN
    rw [hone] at this
    unfold wd
    split <;> omega
end Go.Proofs.YthmjkmdbggfiiaaGreatDoor.CF


namespace Go.Proofs.YthmjkmdbggfiiaaGreatDoor.CF

/-- The whole part of a height that is not below 0. -/
def partN (s : Nat) : Nat := vR s / 2 ^ 149
theorem half_tab : ∀ n, n < 40 → vR (wholeN ((n : Nat) : Int)) = n * 2 ^ 149 ∧ wholeN ((n : Nat) : Int) < 2139095040 ∧ vR (wholeN ((2 * n + 1 : Nat) : Int) - 8388608) = (2 * n + 1) * 2 ^ 148 ∧ wholeN ((2 * n + 1 : Nat) : Int) - 8388608 < 2139095040 := by
  decide +kernel
/-- Half a row more. -/
theorem add_half {m n : Nat} (hn : n < 40) (h : m % 2147483648 ≤ wholeN (n : Int)) (h0 : 2147483648 ≤ m → m = 2147483648) : addN m 1056964608 < 2139095040 ∧ partN (addN m 1056964608) ≤ n := by
  obtain ⟨t1, t2, t3, t4⟩ := half_tab n hn
  have hv := vR_le h
  rw [t1] at hv
  have hh : vR (1056964608 % 2147483648) = 2 ^ 148 := by decide +kernel
  have e : addN m 1056964608 = Ieee.single.nearest false (vR (m % 2147483648) + 2 ^ 148) (-149) := by
    rw [addN_val (by omega) (by decide), hh]
    have hp : pS 1056964608 = false := by decide
    rw [hp]
    by_cases hm : 2147483648 ≤ m
    · have hz : m % 2147483648 = 0 := by have := h0 hm; omega
      have ps : pS m = true := decide_eq_true hm
      rw [ps, hz, vR_zero]
      unfold sumN
      rw [if_neg (by decide), if_neg (by decide), if_neg (by decide), Nat.sub_zero, Nat.zero_add]
    · have ps : pS m = false := decide_eq_false hm
      rw [ps]
      unfold sumN
      rw [if_pos rfl]
  have hb := near_below (N := vR (m % 2147483648) + 2 ^ 148) t4 (by rw [t3]; omega)
  rw [e]
  refine ⟨by omega, ?_⟩
  have := vR_le hb
  rw [t3] at this
  unfold partN
  omega
end Go.Proofs.YthmjkmdbggfiiaaGreatDoor.CF


namespace Go.Proofs.YthmjkmdbggfiiaaGreatDoor.CF

/-- P17.9: the row of a height. -/
def rowN (y l g : Nat) (n : Nat) : Nat := if ordN l = ordN g then 0 else partN (addN (mulN (divN (subN y l) (subN g l)) (wholeN (n : Int))) 1056964608)
theorem pM_ne {b : Nat} (h0 : b ≠ 0) (h : b < 2147483648) : pM b ≠ 0 := by
  unfold pM
  split <;> omega
theorem div_plus {a b : Nat} (fa : a % 2147483648 < 2139095040) (hb : pM b ≠ 0) (hs : (pS a != pS b) = false) : divN a b ≤ 2139095040 := by
  unfold divN
  rw [if_neg (by omega), hs]
  by_cases ha : pM a = 0
  · rw [if_pos ha, wd_false]
    omega
  · rw [if_neg ha]
    obtain ⟨a1, a2, a3⟩ := norm_pad ha (pM_lt a)
    obtain ⟨b1, b2, b3⟩ := norm_pad hb (pM_lt b)
    have hq0 : 16777216 ≤ pM a * 2 ^ padN (pM a) * 2 ^ 38 / (pM b * 2 ^ padN (pM b)) := by rw [Nat.le_div_iff_mul_le (by omega)]; omega
    rw [rnd_eq _ _ _ _ (fun _ => hq0)]
    exact near_f _ _
/-- All that the row's reckoning meets. -/
theorem row_parts {y l g n : Nat} (hy : y < 4294967296) (hl : l < 4294967296) (hg : g < 4294967296) (fy : y % 2147483648 < 2139095040) (fl : l % 2147483648 < 2139095040) (fg : g % 2147483648 < 2139095040) (h1 : ordN l ≤ ordN y) (h2 : ordN y ≤ ordN g) (h3 : ordN l ≠ ordN g) (hb : subN g l % 2147483648 < 2139095040) (hn : n < 40) :
    subN y l % 2147483648 < 2139095040 ∧ pM (subN g l) ≠ 0 ∧ divN (subN y l) (subN g l) % 2147483648 < 2139095040 ∧ mulN (divN (subN y l) (subN g l)) (wholeN (n : Int)) % 2147483648 < 2139095040 ∧ addN (mulN (divN (subN y l) (subN g l)) (wholeN (n : Int))) 1056964608 < 2139095040 ∧ rowN y l g n ≤ n := by
  have hm := subN_mono hy hg hl fy fg fl h1 h2
  have hsl : sv l < sv g := (sv_lt hl hg).2 (by omega)
  have hB : subN g l < 2139095040 ∧ subN g l ≠ 0 := by
    rcases subN_val hg hl fg fl (by omega) with e | ⟨-, e⟩
    · have k := near_f (sv g - sv l).toNat (-149)
      have k1 := near_above (N := (sv g - sv l).toNat) (r := 1) (by decide) (by have : vR 1 = 1 := rfl; omega)
      rw [← e] at k k1
      omega
    · omega
  have hA : 2147483648 ≤ subN y l → subN y l = 2147483648 := fun hc => by
    rcases subN_val hy hl fy fl h1 with e | ⟨e, -⟩
    · have k := near_f (sv y - sv l).toNat (-149)
      rw [← e] at k
      omega
    · exact e
  have hp := pM_ne hB.2 (by omega)
  generalize hae : subN y l = a at *
  generalize hbe : subN g l = b at *
  have fa : a % 2147483648 < 2139095040 := by omega
  have ht := div_one fa hp hm
  obtain ⟨t1, t2, -, -⟩ := half_tab n hn
  have hmu := mul_one_le (t := divN a b) (b := wholeN (n : Int)) ht t2
  have hsb : pS b = false := decide_eq_false (by omega)
  have hwn : pS (wholeN (n : Int)) = false := decide_eq_false (by omega)
  have hsg : 2147483648 ≤ mulN (divN a b) (wholeN (n : Int)) → mulN (divN a b) (wholeN (n : Int)) = 2147483648 := fun hc => by
    by_cases ha : 2147483648 ≤ a
    · have e := hA ha
      have pa : pM a = 0 := by rw [e]; rfl
      have sa : pS a = true := decide_eq_true ha
      have ed : divN a b = 2147483648 := by unfold divN; rw [if_neg (by omega), if_pos pa, sa, hsb]; rfl
      rw [ed]
      unfold mulN
      rw [rnd_exact, hwn, show pM 2147483648 = 0 from rfl, Nat.zero_mul, nearest_zero]
      rfl
    · exfalso
      have sa : pS a = false := decide_eq_false ha
      have hd := div_plus fa hp (by rw [sa, hsb]; rfl)
      have sd : pS (divN a b) = false := decide_eq_false (by omega)
      unfold mulN at hc
      rw [rnd_exact, sd, hwn] at hc
      have := near_f (pM (divN a b) * pM (wholeN (n : Int))) (pE (divN a b) + pE (wholeN (n : Int)))
      have e2 : (false != false) = false := rfl
      rw [e2] at hc
      omega
  have hah := add_half hn hmu hsg
  refine ⟨fa, hp, by omega, by omega, hah.1, ?_⟩
  unfold rowN
  rw [if_neg h3, hae, hbe]
  exact hah.2
end Go.Proofs.YthmjkmdbggfiiaaGreatDoor.CF


namespace Go.Proofs.YthmjkmdbggfiiaaGreatDoor.CF

theorem sv_eq {a b : Nat} (ha : a < 4294967296) (hb : b < 4294967296) (h : ordN a = ordN b) : sv a = sv b := by
  have h1 := sv_lt ha hb
  have h2 := sv_lt hb ha
  omega
/-- A difference, but for the zero's sign. -/
theorem sub_mod {y l : Nat} (hy : y < 4294967296) (hl : l < 4294967296) (fy : y % 2147483648 < 2139095040) (fl : l % 2147483648 < 2139095040) (h : ordN l ≤ ordN y) : subN y l % 2147483648 = Ieee.single.nearest false (sv y - sv l).toNat (-149) ∧ (subN y l = subN y l % 2147483648 ∨ (subN y l = 2147483648 ∧ sv y - sv l = 0)) := by
  have hn := near_f (sv y - sv l).toNat (-149)
  rcases subN_val hy hl fy fl h with e | ⟨e, h0⟩
  · rw [e]
    exact ⟨by omega, .inl (by omega)⟩
  · refine ⟨?_, .inr ⟨e, h0⟩⟩
    rw [e, h0]
    show _ = Ieee.single.nearest false 0 (-149)
    rw [nearest_zero, wd_false]
theorem sub_pos {g l : Nat} (hg : g < 4294967296) (hl : l < 4294967296) (fg : g % 2147483648 < 2139095040) (fl : l % 2147483648 < 2139095040) (h : ordN l ≤ ordN g) (hne : ordN l ≠ ordN g) : subN g l = Ieee.single.nearest false (sv g - sv l).toNat (-149) ∧ subN g l ≠ 0 := by
  have hsl : sv l < sv g := (sv_lt hl hg).2 (by omega)
  rcases subN_val hg hl fg fl h with e | ⟨-, e⟩
  · have k1 := near_above (N := (sv g - sv l).toNat) (r := 1) (by decide) (by have : vR 1 = 1 := rfl; omega)
    rw [← e] at k1
    exact ⟨e, by omega⟩
  · omega
theorem zero_row {a b n : Nat} (ha : a = 0 ∨ a = 2147483648) (hb : b < 2139095040) (hn : n < 40) : partN (addN (mulN (divN a b) (wholeN (n : Int))) 1056964608) = 0 := by
  obtain ⟨-, t2, -, -⟩ := half_tab n hn
  have hwn : pS (wholeN (n : Int)) = false := decide_eq_false (by omega)
  have hsb : pS b = false := decide_eq_false (by omega)
  rcases ha with rfl | rfl
  · have pa : pM 0 = 0 := rfl
    have sa : pS 0 = false := rfl
    have ed : divN 0 b = 0 := by unfold divN; rw [if_neg (by decide), if_pos pa, sa, hsb]; rfl
    rw [ed]
    have em : mulN 0 (wholeN (n : Int)) = 0 := by
      unfold mulN
      rw [rnd_exact, hwn, pa, Nat.zero_mul, nearest_zero, sa]
      rfl
    rw [em]
    decide +kernel
  · have pa : pM 2147483648 = 0 := rfl
    have sa : pS 2147483648 = true := rfl
    have ed : divN 2147483648 b = 2147483648 := by unfold divN; rw [if_neg (by decide), if_pos pa, sa, hsb]; rfl
    rw [ed]
    have em : mulN 2147483648 (wholeN (n : Int)) = 2147483648 := by
      unfold mulN
      rw [rnd_exact, hwn, pa, Nat.zero_mul, nearest_zero, sa]
      rfl
    rw [em]
    decide +kernel
/-- The row hangs on the order alone, not on the zeros' signs. -/
theorem row_same {y l g l' g' n : Nat} (hy : y < 4294967296) (hl : l < 4294967296) (hg : g < 4294967296) (hl' : l' < 4294967296) (hg' : g' < 4294967296) (fy : y % 2147483648 < 2139095040) (fl : l % 2147483648 < 2139095040) (fg : g % 2147483648 < 2139095040) (fl' : l' % 2147483648 < 2139095040) (fg' : g' % 2147483648 < 2139095040) (h1 : ordN l ≤ ordN y) (h2 : ordN y ≤ ordN g) (hb : subN g l % 2147483648 < 2139095040) (el : ordN l' = ordN l) (eg : ordN g' = ordN g) (hn : n < 40) : rowN y l' g' n = rowN y l g n := by
  unfold rowN
  rw [el, eg]
  by_cases h3 : ordN l = ordN g
  · rw [if_pos h3, if_pos h3]
  · rw [if_neg h3, if_neg h3]
    obtain ⟨b1, b2⟩ := sub_pos hg hl fg fl (by omega) h3
    obtain ⟨b3, -⟩ := sub_pos hg' hl' fg' fl' (by omega) (by omega)
    have es := sv_eq hl' hl el
    have es2 := sv_eq hg' hg eg
    rw [es, es2, ← b1] at b3
    rw [b3]
    have hnb := near_f (sv g - sv l).toNat (-149)
    rw [← b1] at hnb
    obtain ⟨m1, c1⟩ := sub_mod hy hl fy fl h1
    obtain ⟨m2, c2⟩ := sub_mod hy hl' fy fl' (by omega)
    rw [es, ← m1] at m2
    rcases c1 with c1 | ⟨c1, z1⟩
    · rcases c2 with c2 | ⟨c2, z2⟩
      · rw [c2, m2, ← c1]
      · rw [zero_row (.inr c2) (by omega) hn, zero_row _ (by omega) hn]
        have hz : subN y l % 2147483648 = 0 := by rw [← m2, c2]
        exact .inl (by omega)
    · rw [zero_row (.inr c1) (by omega) hn, zero_row _ (by omega) hn]
      have hz : subN y l' % 2147483648 = 0 := by rw [m2, c1]
      rcases c2 with c2 | ⟨c2, -⟩
      · exact .inl (by omega)
      · exact .inr c2
theorem dif_same {g l g' l' : Nat} (hl : l < 4294967296) (hg : g < 4294967296) (hl' : l' < 4294967296) (hg' : g' < 4294967296) (fl : l % 2147483648 < 2139095040) (fg : g % 2147483648 < 2139095040) (fl' : l' % 2147483648 < 2139095040) (fg' : g' % 2147483648 < 2139095040) (h : ordN l ≤ ordN g) (el : ordN l' = ordN l) (eg : ordN g' = ordN g) : subN g' l' % 2147483648 = subN g l % 2147483648 := by
  rw [(sub_mod hg hl fg fl h).1, (sub_mod hg' hl' fg' fl' (by omega)).1, sv_eq hl' hl el, sv_eq hg' hg eg]
def minN (x y : Nat) : Nat := if ordN x < ordN y then x else if ordN y < ordN x then y else if pS x = true then x else y
def maxN (x y : Nat) : Nat := if ordN x < ordN y then y else if ordN y < ordN x then x else if pS x = true then y else x
theorem minN_ord (x y : Nat) : ordN (minN x y) = min (ordN x) (ordN y) := by
  unfold minN
  split
  · omega
  · split
    · omega
    · split <;> omega
theorem maxN_ord (x y : Nat) : ordN (maxN x y) = max (ordN x) (ordN y) := by
  unfold maxN
  split
  · omega
  · split
    · omega
    · split <;> omega
theorem minN_or (x y : Nat) : minN x y = x ∨ minN x y = y := by
  unfold minN
  repeat (first | (split; skip) | exact .inl rfl | exact .inr rfl)
theorem maxN_or (x y : Nat) : maxN x y = x ∨ maxN x y = y := by
  unfold maxN
  repeat (first | (split; skip) | exact .inl rfl | exact .inr rfl)
/-- The k-th height. -/
def hgt (D : List (Int × Nat)) (k : Nat) : Nat := (D.getD k (0, 0)).2
def loP (D : List (Int × Nat)) : Nat → Nat
  | 0 => hgt D 0
  | k + 1 => minN (loP D k) (hgt D k)
def hiP (D : List (Int × Nat)) : Nat → Nat
  | 0 => hgt D 0
  | k + 1 => maxN (hiP D k) (hgt D k)
def loR (D : List (Int × Nat)) : Nat → Nat
  | 0 => 0
  | k + 1 => if k = 0 ∨ ordN (hgt D k) < ordN (loR D k) then hgt D k else loR D k
def hiR (D : List (Int × Nat)) : Nat → Nat
  | 0 => 0
  | k + 1 => if k = 0 ∨ ordN (hiR D k) < ordN (hgt D k) then hgt D k else hiR D k
theorem loP_in (D : List (Int × Nat)) : ∀ k, ∃ j, (j < k ∨ j = 0) ∧ loP D k = hgt D j
  | 0 => ⟨0, .inr rfl, rfl⟩
  | k + 1 => by
    obtain ⟨j, hj, e⟩ := loP_in D k
    unfold loP
    rcases minN_or (loP D k) (hgt D k) with h | h
    · exact ⟨j, by omega, by rw [h, e]⟩
    · exact ⟨k, by omega, h⟩
theorem hiP_in (D : List (Int × Nat)) : ∀ k, ∃ j, (j < k ∨ j = 0) ∧ hiP D k = hgt D j
  | 0 => ⟨0, .inr rfl, rfl⟩
  | k + 1 => by
    obtain ⟨j, hj, e⟩ := hiP_in D k
    unfold hiP
    rcases maxN_or (hiP D k) (hgt D k) with h | h
    · exact ⟨j, by omega, by rw [h, e]⟩
    · exact ⟨k, by omega, h⟩
theorem loR_in (D : List (Int × Nat)) : ∀ k, k = 0 ∨ ∃ j, j < k ∧ loR D k = hgt D j
  | 0 => .inl rfl
  | k + 1 => by
    right
    unfold loR
    split
    · exact ⟨k, by omega, rfl⟩
    · rcases loR_in D k with h | ⟨j, hj, e⟩
      · omega
      · exact ⟨j, by omega, e⟩
theorem hiR_in (D : List (Int × Nat)) : ∀ k, k = 0 ∨ ∃ j, j < k ∧ hiR D k = hgt D j
  | 0 => .inl rfl
  | k + 1 => by
    right
    unfold hiR
    split
    · exact ⟨k, by omega, rfl⟩
    · rcases hiR_in D k with h | ⟨j, hj, e⟩
      · omega
      · exact ⟨j, by omega, e⟩
theorem lo_same (D : List (Int × Nat)) : ∀ k, ordN (loP D (k + 1)) = ordN (loR D (k + 1))
  | 0 => by
    unfold loR
    rw [if_pos (.inl rfl)]
    unfold loP
    rw [minN_ord]
    unfold loP
    omega
  | k + 1 => by
    have ih := lo_same D k
    unfold loP loR
    rw [minN_ord, ih]
    generalize loR D (k + 1) = R
    split
    · omega
    · omega
theorem hi_same (D : List (Int × Nat)) : ∀ k, ordN (hiP D (k + 1)) = ordN (hiR D (k + 1))
  | 0 => by
    unfold hiR
    rw [if_pos (.inl rfl)]
    unfold hiP
    rw [maxN_ord]
    unfold hiP
    omega
  | k + 1 => by
    have ih := hi_same D k
    unfold hiP hiR
    rw [maxN_ord, ih]
    generalize hiR D (k + 1) = R
    split
    · omega
    · omega
theorem loP_le (D : List (Int × Nat)) : ∀ k j, j < k → ordN (loP D k) ≤ ordN (hgt D j)
  | k + 1, j, hj => by
    unfold loP
    rw [minN_ord]
    by_cases h : j = k
    · subst h; omega
    · have := loP_le D k j (by omega)
      omega
theorem hiP_le (D : List (Int × Nat)) : ∀ k j, j < k → ordN (hgt D j) ≤ ordN (hiP D k)
  | k + 1, j, hj => by
    unfold hiP
    rw [maxN_ord]
    by_cases h : j = k
    · subst h; omega
    · have := hiP_le D k j (by omega)
      omega
end Go.Proofs.YthmjkmdbggfiiaaGreatDoor.CF
