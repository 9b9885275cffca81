import Derived.Test.YthmjkmdbggfiiaaGreatDoorCfM
/- SUMS, PRODUCTS, QUOTIENTS. No program. -/
namespace Go.Proofs.YthmjkmdbggfiiaaGreatDoor.CF

/-- A finite height's number and exponent. -/
def pM (b : Nat) : Nat := if b % 2147483648 / 8388608 = 0 then b % 8388608 else b % 8388608 + 8388608
def pE (b : Nat) : Int := if b % 2147483648 / 8388608 = 0 then -149 else ((b % 2147483648 / 8388608 : Nat) : Int) - 150
def pS (b : Nat) : Bool := decide (2147483648 ≤ b)
theorem pM_lt (b : Nat) : pM b < 16777216 := by unfold pM; split <;> omega
theorem pE_le (b : Nat) : -149 ≤ pE b := by unfold pE; split <;> omega
theorem pE_hi {b : Nat} (h : b % 2147483648 < 2139095040) : pE b ≤ 105 := by unfold pE; split <;> omega
theorem pM_norm {b : Nat} (h : -149 < pE b) : 8388608 ≤ pM b := by unfold pE at h; unfold pM; split <;> split at h <;> omega
theorem read_eq (b : Nat) : Ieee.single.read b = (let neg := b / 2147483648 % 2 == 1; let rung := b % 2147483648; if rung < 8388608 then .number neg rung (-149) else if rung < 2139095040 then .number neg (8388608 + rung % 8388608) (-149 + (rung / 8388608 - 1 : Nat)) else if rung = 2139095040 then .infinity neg else .nan neg (rung - 2139095040)) := rfl
theorem sign_eq {b : Nat} (h : b < 4294967296) : (b / 2147483648 % 2 == 1) = pS b := by
  unfold pS
  by_cases hb : 2147483648 ≤ b
  · rw [decide_eq_true hb, beq_iff_eq]; omega
  · rw [decide_eq_false hb, beq_eq_false_iff_ne]; omega
theorem read_fin {b : Nat} (h : b < 4294967296) (hf : b % 2147483648 < 2139095040) : Ieee.single.read b = .number (pS b) (pM b) (pE b) := by
  rw [read_eq, sign_eq h]
  simp only
  unfold pM pE
  by_cases h1 : b % 2147483648 < 8388608
  · rw [if_pos h1, if_pos (by omega), if_pos (by omega)]
    congr 1
    omega
  · rw [if_neg h1, if_pos hf, if_neg (by omega), if_neg (by omega)]
    congr 1 <;> omega
theorem read_inf {b : Nat} (h : b < 4294967296) (hf : b % 2147483648 = 2139095040) : Ieee.single.read b = .infinity (pS b) := by
  rw [read_eq, sign_eq h]
  simp only
  rw [if_neg (by omega), if_neg (by omega), if_pos hf]
theorem read_nan {b : Nat} (hf : 2139095040 < b % 2147483648) : ∃ s t, Ieee.single.read b = .nan s t := by
  rw [read_eq]
  simp only
  rw [if_neg (by omega), if_neg (by omega), if_neg (by omega)]
  exact ⟨_, _, rfl⟩
theorem write_inf {b : Nat} (h : b < 4294967296) (hf : b % 2147483648 = 2139095040) : Ieee.single.write (.infinity (pS b)) = b := by
  show Ieee.single.word _ 2139095040 = b
  unfold Ieee.Format.word pS
  show (if _ then 2147483648 + 2139095040 else 2139095040) = b
  by_cases hb : 2147483648 ≤ b
  · rw [decide_eq_true hb, if_pos rfl]; omega
  · rw [decide_eq_false hb, if_neg (by decide)]; omega
theorem write_num (s : Bool) (m : Nat) (i : Int) : Ieee.single.write (.number s m i) = Ieee.single.nearest s m i := rfl
/-- What is written of infinity. -/
theorem write_inf' (s : Bool) : Ieee.single.write (.infinity s) = wd s 2139095040 := rfl

/-- The sum of two finite heights, the exponent of the first is not the lesser one. -/
def addF (sa : Bool) (am : Nat) (ae : Int) (sb : Bool) (bm : Nat) (be : Int) : Nat :=
  let x := am * 2 ^ 38
  let d := ae - be
  let y := if d ≤ 38 then bm * 2 ^ (38 - d).toNat else if d - 38 < 30 then bm / 2 ^ (d - 38).toNat else 0
  let more := if d ≤ 38 then false else if d - 38 < 30 then decide (0 < bm % 2 ^ (d - 38).toNat) else decide (0 < bm)
  let e := ae - 38
  if sa = sb then rnd sa (x + y) e more
  else if x = y ∧ more = false then 0
  else if y ≤ x then (if more = true then rnd sa (x - y - 1) e true else rnd sa (x - y) e false)
  else rnd sb (y - x) e false
/-- The sum, exactly, and then the nearest. -/
def sumN (sa : Bool) (A : Nat) (sb : Bool) (B : Nat) (e : Int) : Nat := if sa = sb then Ieee.single.nearest sa (A + B) e else if A = B then 0 else if B ≤ A then Ieee.single.nearest sa (A - B) e else Ieee.single.nearest sb (B - A) e
theorem addF_eq (sa : Bool) (am : Nat) (ae : Int) (sb : Bool) (bm : Nat) (be : Int) (h : be ≤ ae) (ha : am < 16777216) (hb : bm < 16777216) (hn : be < ae → 8388608 ≤ am) : addF sa am ae sb bm be = sumN sa (am * 2 ^ (ae - be).toNat) sb bm be := by
  unfold addF sumN
  simp only
  by_cases hd : ae - be ≤ 38
  · obtain ⟨k, hk⟩ : ∃ k : Nat, (38 - (ae - be)).toNat = k ∧ ((ae - be).toNat + k = 38) ∧ ae - 38 = be - (k : Int) := ⟨(38 - (ae - be)).toNat, rfl, by omega, by omega⟩
    have hx : am * 2 ^ 38 = am * 2 ^ (ae - be).toNat * 2 ^ k := by rw [Nat.mul_assoc, ← Nat.pow_add, hk.2.1]
    rw [if_pos hd, if_pos hd, hk.1, hk.2.2, hx]
    generalize am * 2 ^ (ae - be).toNat = A
    have hp : 0 < 2 ^ k := Nat.two_pow_pos k
    have c1 : (A * 2 ^ k = bm * 2 ^ k ∧ false = false) ↔ A = bm := ⟨fun e => Nat.eq_of_mul_eq_mul_right hp e.1, fun e => ⟨by rw [e], rfl⟩⟩
    have c2 : bm * 2 ^ k ≤ A * 2 ^ k ↔ bm ≤ A := Nat.mul_le_mul_right_iff hp
    by_cases hs : sa = sb
    · rw [if_pos hs, if_pos hs, ← Nat.add_mul, rnd_exact, nearest_scale]
    · rw [if_neg hs, if_neg hs]
      by_cases he : A = bm
      · rw [if_pos (c1.2 he), if_pos he]
      · rw [if_neg (fun h => he (c1.1 h)), if_neg he]
        by_cases hl : bm ≤ A
        · rw [if_pos (c2.2 hl), if_pos hl, if_neg (by decide), ← Nat.sub_mul, rnd_exact, nearest_scale]
        · rw [if_neg (fun h => hl (c2.1 h)), if_neg hl, ← Nat.sub_mul, rnd_exact, nearest_scale]
  · obtain ⟨k, hk⟩ : ∃ k : Nat, (ae - be - 38).toNat = k ∧ ((ae - be).toNat = 38 + k) ∧ ae - 38 = be + (k : Int) := ⟨(ae - be - 38).toNat, rfl, by omega, by omega⟩
    have ham := hn (by omega)
    have hp : 0 < 2 ^ k := Nat.two_pow_pos k
    have hy : (if ae - be ≤ 38 then bm * 2 ^ (38 - (ae - be)).toNat else if ae - be - 38 < 30 then bm / 2 ^ (ae - be - 38).toNat else 0) = bm / 2 ^ k := by
      rw [if_neg hd]
      split
      · rw [hk.1]
      · rw [Nat.div_eq_of_lt]
        exact Nat.lt_of_lt_of_le hb (Nat.le_trans (show 16777216 ≤ 2 ^ 30 by decide) (Nat.pow_le_pow_right (by omega) (by omega)))
    have hm : (if ae - be ≤ 38 then false else if ae - be - 38 < 30 then decide (0 < bm % 2 ^ (ae - be - 38).toNat) else decide (0 < bm)) = decide (0 < bm % 2 ^ k) := by
      rw [if_neg hd]
      split
      · rw [hk.1]
      · rw [Nat.mod_eq_of_lt]
        exact Nat.lt_of_lt_of_le hb (Nat.le_trans (show 16777216 ≤ 2 ^ 30 by decide) (Nat.pow_le_pow_right (by omega) (by omega)))
    have hA : am * 2 ^ (ae - be).toNat = am * 2 ^ 38 * 2 ^ k := by rw [hk.2.1, Nat.pow_add, Nat.mul_assoc]
    rw [hy, hm, hA, hk.2.2]
    clear hy hm hA
    obtain ⟨x, hxe⟩ : ∃ x, am * 2 ^ 38 = x := ⟨_, rfl⟩
    have hx : 281474976710656 ≤ x := by
      have : 8388608 * 2 ^ 38 ≤ am * 2 ^ 38 := Nat.mul_le_mul_right _ ham
      omega
    rw [hxe]
    clear hxe
    obtain ⟨y, hyy⟩ : ∃ y, y = bm / 2 ^ k := ⟨_, rfl⟩
    obtain ⟨r, hr⟩ : ∃ r, r = bm % 2 ^ k := ⟨_, rfl⟩
    have hbm : bm = 2 ^ k * y + r := by rw [hyy, hr]; exact (Nat.div_add_mod bm (2 ^ k)).symm
    have hrl : r < 2 ^ k := by rw [hr]; exact Nat.mod_lt _ hp
    have hyl : y ≤ bm := by rw [hyy]; exact Nat.div_le_self _ _
    rw [← hyy, ← hr]
    have hxk : x ≤ x * 2 ^ k := Nat.le_mul_of_pos_right _ hp
    have hst : ∀ (N q t : Nat) (mo : Bool), N = 2 ^ k * q + t → t < 2 ^ k → 16777216 ≤ q → mo = decide (0 < t) → ∀ s, rnd s q (be + k) mo = Ieee.single.nearest s N be := fun N q t mo hN ht hq hmo s => by
      have e1 : N / 2 ^ k = q := by rw [hN, Nat.mul_add_div hp, Nat.div_eq_of_lt ht, Nat.add_zero]
      have e2 : N % 2 ^ k = t := by rw [hN, Nat.mul_add_mod, Nat.mod_eq_of_lt ht]
      have h1 := sticky_pow s N be k (by rw [e1]; exact hq)
      rw [e1, e2] at h1
      rw [rnd_eq s q (be + k) mo (fun _ => hq), ← h1, hmo]
      congr 2
      by_cases h0 : t = 0
      · rw [if_pos h0, h0]; rfl
      · rw [if_neg h0, decide_eq_true (by omega)]; rfl
    by_cases hs : sa = sb
    · rw [if_pos hs, if_pos hs]
      exact hst (x * 2 ^ k + bm) (x + y) r _ (by rw [Nat.mul_add, Nat.mul_comm (2 ^ k) x]; omega) hrl (by omega) rfl sa
    · rw [if_neg hs, if_neg hs, if_neg (show ¬ (x = y ∧ decide (0 < r) = false) by omega), if_pos (show y ≤ x by omega), if_neg (show ¬ x * 2 ^ k = bm by omega), if_pos (show bm ≤ x * 2 ^ k by omega)]
      by_cases h0 : 0 < r
      · rw [if_pos (decide_eq_true h0)]
        refine hst (x * 2 ^ k - bm) (x - y - 1) (2 ^ k - r) true ?_ (by omega) (by omega) (by rw [decide_eq_true (by omega)]) sa
        have e1 : 2 ^ k * (x - y - 1) = x * 2 ^ k - 2 ^ k * y - 2 ^ k := by rw [Nat.mul_sub, Nat.mul_sub, Nat.mul_one, Nat.mul_comm (2 ^ k) x]
        have e2 : 2 ^ k * y + 2 ^ k ≤ x * 2 ^ k := by rw [← Nat.mul_succ, Nat.mul_comm x]; exact Nat.mul_le_mul_left _ (by omega)
        omega
      · rw [if_neg (by rw [decide_eq_true_eq]; exact h0)]
        refine hst (x * 2 ^ k - bm) (x - y) 0 false ?_ hp (by omega) rfl sa
        rw [Nat.mul_sub, Nat.mul_comm (2 ^ k) x]
        omega
/-- A sum of data, written. -/
theorem sum_write (s : Bool) (m : Nat) (i : Int) (t : Bool) (n : Nat) (j : Int) (h : j ≤ i) : ((Ieee.Datum.number s m i).sum (.number t n j)).map Ieee.single.write = some (sumN s (m * 2 ^ (i - j).toNat) t n j) := by
  unfold Ieee.Datum.sum
  simp only [Option.map_some, Option.some.injEq, write_num]
  rw [Int.min_eq_right h, show (j - j).toNat = 0 by omega]
  unfold Ieee.signed sumN
  simp only [Nat.shiftLeft_eq, Nat.pow_zero, Nat.mul_one]
  generalize m * 2 ^ (i - j).toNat = A
  cases s <;> cases t <;> simp only [Bool.false_eq_true, if_true, if_false, reduceCtorEq]
  · rw [show ((A : Int) + (n : Int)).natAbs = A + n by omega]
    congr 1
    split
    · rfl
    · exact decide_eq_false (by omega)
  · by_cases h1 : A = n
    · subst h1
      rw [if_pos rfl, show ((A : Int) + -(A : Int)) = 0 by omega]
      rfl
    · rw [if_neg h1, if_neg (by omega)]
      by_cases h2 : n ≤ A
      · rw [if_pos h2, show ((A : Int) + -(n : Int)).natAbs = A - n by omega]
        congr 1
        exact decide_eq_false (by omega)
      · rw [if_neg h2, show ((A : Int) + -(n : Int)).natAbs = n - A by omega]
        congr 1
        exact decide_eq_true (by omega)
  · by_cases h1 : A = n
    · subst h1
      rw [if_pos rfl, show (-(A : Int) + (A : Int)) = 0 by omega]
      rfl
    · rw [if_neg h1, if_neg (by omega)]
      by_cases h2 : n ≤ A
      · rw [if_pos h2, show (-(A : Int) + (n : Int)).natAbs = A - n by omega]
        congr 1
        exact decide_eq_true (by omega)
      · rw [if_neg h2, show (-(A : Int) + (n : Int)).natAbs = n - A by omega]
        congr 1
        exact decide_eq_false (by omega)
  · rw [show (-(A : Int) + -(n : Int)).natAbs = A + n by omega]
    congr 1
    split
    · rfl
    · exact decide_eq_true (by omega)
theorem sum_comm (x y : Ieee.Datum) : (x.sum y).map Ieee.single.write = (y.sum x).map Ieee.single.write := by
  cases x with
  | nan s t => cases y <;> rfl
  | infinity s =>
    cases y with
    | nan => rfl
    | number => rfl
    | infinity t =>
      by_cases h : s = t
      · subst h; rfl
      · show Option.map _ (if s = t then _ else _) = Option.map _ (if t = s then _ else _)
        rw [if_neg h, if_neg (fun e => h e.symm)]
  | number s m i =>
    cases y with
    | nan => rfl
    | infinity t => rfl
    | number t n j =>
      unfold Ieee.Datum.sum
      simp only
      rw [Int.min_comm j i, Int.add_comm (Ieee.signed t n _), Bool.and_comm t s]
def swapF (sa : Bool) (am : Nat) (ae : Int) (sb : Bool) (bm : Nat) (be : Int) : Nat := if ae < be then addF sb bm be sa am ae else addF sa am ae sb bm be
/-- The sum by whole numbers. -/
def addN (a b : Nat) : Nat :=
  if (2139095040 < a % 2147483648 ∨ 2139095040 < b % 2147483648) ∨ (¬ a % 2147483648 < 2139095040 ∧ ¬ b % 2147483648 < 2139095040 ∧ a ≠ b) then 2143289344
  else if ¬ a % 2147483648 < 2139095040 then a
  else if ¬ b % 2147483648 < 2139095040 then b
  else swapF (pS a) (pM a) (pE a) (pS b) (pM b) (pE b)
theorem addN_eq {a b : Nat} (ha : a < 4294967296) (hb : b < 4294967296) : addN a b = (Ieee.single.add a b).getD 2143289344 := by
  unfold addN Ieee.Format.add
  by_cases h1 : 2139095040 < a % 2147483648
  · rw [if_pos (.inl (.inl h1))]
    obtain ⟨s, t, e⟩ := read_nan h1
    rw [e]
    unfold Ieee.Datum.sum
    rfl
  · by_cases h2 : 2139095040 < b % 2147483648
    · rw [if_pos (.inl (.inr h2))]
      obtain ⟨s, t, e⟩ := read_nan h2
      rw [e, sum_comm]
      unfold Ieee.Datum.sum
      rfl
    · by_cases h3 : a % 2147483648 < 2139095040
      · rw [if_neg (by omega), if_neg (by omega)]
        by_cases h4 : b % 2147483648 < 2139095040
        · rw [if_neg (by omega), read_fin ha h3, read_fin hb h4]
          unfold swapF
          split
          · rename_i hlt
            rw [sum_comm, sum_write _ _ _ _ _ _ (by omega), addF_eq _ _ _ _ _ _ (by omega) (pM_lt b) (pM_lt a) (fun h => pM_norm (by have := pE_le a; omega))]
            rfl
          · rename_i hlt
            rw [sum_write _ _ _ _ _ _ (by omega), addF_eq _ _ _ _ _ _ (by omega) (pM_lt a) (pM_lt b) (fun h => pM_norm (by have := pE_le b; omega))]
            rfl
        · rw [if_pos (by omega), read_fin ha h3, read_inf hb (by omega)]
          show b = (some (Ieee.single.write (.infinity (pS b)))).getD _
          rw [write_inf hb (by omega)]
          rfl
      · have hai : a % 2147483648 = 2139095040 := by omega
        by_cases h4 : b % 2147483648 < 2139095040
        · rw [if_neg (by omega), if_pos (by omega), read_inf ha hai, read_fin hb h4]
          show a = (some (Ieee.single.write (.infinity (pS a)))).getD _
          rw [write_inf ha hai]
          rfl
        · have hbi : b % 2147483648 = 2139095040 := by omega
          rw [read_inf ha hai, read_inf hb hbi]
          unfold Ieee.Datum.sum
          simp only
          by_cases h5 : a = b
          · subst h5
            rw [if_neg (by omega), if_pos h3, if_pos rfl]
            show a = Ieee.single.write (.infinity (pS a))
            rw [write_inf ha hai]
          · rw [if_pos (.inr ⟨h3, h4, h5⟩), if_neg]
            · rfl
            · intro e
              unfold pS at e
              have := decide_eq_decide.1 e
              omega
/-- The opposite. -/
def negN (a : Nat) : Nat := if 2147483648 ≤ a then a - 2147483648 else a + 2147483648
theorem negN_lt {a : Nat} (h : a < 4294967296) : negN a < 4294967296 := by unfold negN; split <;> omega
theorem negN_mod (a : Nat) (h : a < 4294967296) : negN a % 2147483648 = a % 2147483648 := by unfold negN; split <;> omega
theorem read_neg {a : Nat} (h : a < 4294967296) (hn : ¬ 2139095040 < a % 2147483648) : Ieee.single.read (negN a) = (Ieee.single.read a).opposite := by
  have hm := negN_mod a h
  have hs : pS (negN a) = !pS a := by
    unfold pS negN
    split
    · rename_i h1
      rw [decide_eq_true h1, decide_eq_false (by omega)]; rfl
    · rename_i h1
      rw [decide_eq_false h1, decide_eq_true (by omega)]; rfl
  by_cases h1 : a % 2147483648 < 2139095040
  · rw [read_fin h h1, read_fin (negN_lt h) (by rw [hm]; exact h1), hs]
    show _ = Ieee.Datum.number _ _ _
    have e8 : negN a % 8388608 = a % 8388608 := by
      have := hm
      omega
    congr 1
    · unfold pM; rw [hm, e8]
    · unfold pE; rw [hm]
  · rw [read_inf h (by omega), read_inf (negN_lt h) (by omega), hs]
    rfl
def subN (a b : Nat) : Nat := addN a (negN b)
theorem subN_eq {a b : Nat} (ha : a < 4294967296) (hb : b < 4294967296) : subN a b = (Ieee.single.sub a b).getD 2143289344 := by
  unfold subN
  by_cases hn : 2139095040 < b % 2147483648
  · have hm := negN_mod b hb
    unfold addN
    rw [if_pos (.inl (.inr (by rw [hm]; exact hn)))]
    unfold Ieee.Format.sub
    obtain ⟨s, t, e⟩ := read_nan hn
    rw [e]
    show _ = ((Ieee.Datum.sum _ (.nan _ _)).map _).getD _
    rw [sum_comm]
    rfl
  · rw [addN_eq ha (negN_lt hb)]
    unfold Ieee.Format.add Ieee.Format.sub
    rw [read_neg hb hn]
/-- The product of finite heights. -/
def mulN (a b : Nat) : Nat := rnd (pS a != pS b) (pM a * pM b) (pE a + pE b) false
theorem mulN_eq {a b : Nat} (ha : a < 4294967296) (hb : b < 4294967296) (h1 : a % 2147483648 < 2139095040) (h2 : b % 2147483648 < 2139095040) : Ieee.single.mul a b = some (mulN a b) := by
  unfold Ieee.Format.mul mulN
  rw [read_fin ha h1, read_fin hb h2, rnd_exact]
  cases pS a <;> cases pS b <;> rfl
/-- How far a number is from having all its digits. -/
def padN (m : Nat) : Nat := 23 - m.log2
/-- The quotient; b is finite and not 0. -/
def divN (a b : Nat) : Nat :=
  if ¬ a % 2147483648 < 2139095040 then (if 2139095040 < a % 2147483648 then 2143289344 else wd (pS a != pS b) 2139095040)
  else if pM a = 0 then wd (pS a != pS b) 0
  else rnd (pS a != pS b) (pM a * 2 ^ padN (pM a) * 2 ^ 38 / (pM b * 2 ^ padN (pM b))) (pE a - padN (pM a) - (pE b - padN (pM b)) - 38) (decide (0 < pM a * 2 ^ padN (pM a) * 2 ^ 38 % (pM b * 2 ^ padN (pM b))))
theorem divN_eq {a b : Nat} (ha : a < 4294967296) (hb : b < 4294967296) (h2 : b % 2147483648 < 2139095040) (h0 : pM b ≠ 0) : divN a b = (Ieee.single.div a b).getD 2143289344 := by
  unfold divN Ieee.Format.div
  by_cases h1 : a % 2147483648 < 2139095040
  · rw [if_neg (by omega), read_fin ha h1, read_fin hb h2]
    have hx : (pS a != pS b) = (pS a ^^ pS b) := by cases pS a <;> cases pS b <;> rfl
    rw [hx]
    unfold Ieee.Datum.quotient
    simp only
    generalize (pS a ^^ pS b) = sg
    rw [if_neg h0]
    simp only [Option.map_some, Option.getD_some, write_num, Nat.shiftLeft_eq]
    have hbl := pM_lt b
    have hal := pM_lt a
    generalize pM a = m at *
    generalize pM b = n at *
    generalize pE a = i at *
    generalize pE b = j at *
    by_cases hm : m = 0
    · subst hm
      rw [if_pos rfl, Nat.zero_mul, Nat.zero_div, Nat.zero_mod]
      exact (nearest_zero sg _).symm
    · rw [if_neg hm]
      have hlm : m.log2 ≤ 23 := by have := (Nat.log2_lt hm (k := 24)).2 (by omega); omega
      have hln : n.log2 ≤ 23 := by have := (Nat.log2_lt h0 (k := 24)).2 (by omega); omega
      obtain ⟨k, hk⟩ : ∃ k : Nat, k = 23 + 2 + n.log2 - m.log2 := ⟨_, rfl⟩
      have hkk : Ieee.single.fractionBits + 2 + n.log2 - m.log2 = k := hk.symm
      rw [hkk]
      have e1 : m * 2 ^ padN m * 2 ^ 38 = m * 2 ^ k * 2 ^ 13 * 2 ^ padN n := by
        rw [Nat.mul_assoc, Nat.mul_assoc, Nat.mul_assoc, ← Nat.pow_add, ← Nat.pow_add, ← Nat.pow_add]
        congr 2
        unfold padN
        omega
      have hpp : 0 < 2 ^ padN n := Nat.two_pow_pos _
      rw [e1, Nat.mul_div_mul_right _ _ hpp, Nat.mul_mod_mul_right]
      have hq : 16777216 ≤ m * 2 ^ k / n := by
        rw [Nat.le_div_iff_mul_le (by omega)]
        have h3 : 2 ^ (m.log2 + k) ≤ m * 2 ^ k := by rw [Nat.pow_add]; exact Nat.mul_le_mul_right _ (Nat.log2_self_le hm)
        have h4 : n < 2 ^ (n.log2 + 1) := Nat.lt_log2_self
        have h5 : 16777216 * n ≤ 2 ^ 24 * 2 ^ (n.log2 + 1) := Nat.mul_le_mul (by decide) (by omega)
        rw [← Nat.pow_add, show 24 + (n.log2 + 1) = m.log2 + k by omega] at h5
        omega
      have hst := sticky_more sg (m * 2 ^ k) n (i - j - k) 13 (by omega) hq
      rw [show i - (padN m : Int) - (j - (padN n : Int)) - 38 = i - j - (k : Int) - ((13 : Nat) : Int) by unfold padN; omega]
      have hq2 : 16777216 ≤ m * 2 ^ k * 2 ^ 13 / n := Nat.le_trans hq (Nat.div_le_div_right (Nat.le_mul_of_pos_right _ (by decide)))
      have b1 : ∀ x : Nat, (x != 0).toNat = if x = 0 then 0 else 1 := fun x => by
        by_cases hx : x = 0
        · subst hx; rfl
        · rw [if_neg hx, bne_iff_ne.2 hx]; rfl
      have b2 : ∀ x c : Nat, 0 < c → (decide (0 < x * c)).toNat = if x = 0 then 0 else 1 := fun x c hc => by
        by_cases hx : x = 0
        · subst hx; rw [Nat.zero_mul]; rfl
        · rw [if_neg hx, decide_eq_true (Nat.mul_pos (by omega) hc)]; rfl
      rw [rnd_eq sg _ _ _ (fun _ => hq2), b2 _ _ hpp, hst, b1]
  · rw [if_pos (by omega)]
    by_cases h3 : 2139095040 < a % 2147483648
    · rw [if_pos h3]
      obtain ⟨s, t, e⟩ := read_nan h3
      rw [e]
      unfold Ieee.Datum.quotient
      rfl
    · rw [if_neg h3, read_inf ha (by omega), read_fin hb h2]
      show _ = Ieee.single.write (.infinity (pS a ^^ pS b))
      cases pS a <;> cases pS b <;> rfl
/-- The nearest height to a whole number. -/
def wholeN (z : Int) : Nat := if z < 0 then rnd true z.natAbs 0 false else rnd false z.natAbs 0 false
theorem wholeN_eq (z : Int) : wholeN z = Ieee.single.nearest (z < 0) z.natAbs 0 := by
  unfold wholeN
  split
  · rename_i h; rw [rnd_exact, decide_eq_true h]
  · rename_i h; rw [rnd_exact, decide_eq_false h]

end Go.Proofs.YthmjkmdbggfiiaaGreatDoor.CF
