import Derived.Test.YteefieidfgpijaaCpS
namespace Go.Proofs.Yteefieidfgpijaa.CF

/-- P17.9: the row of a height. -/
def rowN (y l g : Nat) (n : Nat) : Nat := if ordN l = ordN g then 0 else partN (addN (mulN (divN (subN y l) (subN g l)) (wholeN (n : Int))) 1056964608)
theorem pM_ne {b : Nat} (h0 : b ≠ 0) (h : b < 2147483648) : pM b ≠ 0 := by
  unfold pM
  split <;> omega
theorem div_plus {a b : Nat} (fa : a % 2147483648 < 2139095040) (hb : pM b ≠ 0) (hs : (pS a != pS b) = false) : divN a b ≤ 2139095040 := by
  unfold divN
  rw [if_neg (by omega), hs]
  by_cases ha : pM a = 0
  · rw [if_pos ha, wd_false]
    omega
  · rw [if_neg ha]
    obtain ⟨a1, a2, a3⟩ := norm_pad ha (pM_lt a)
    obtain ⟨b1, b2, b3⟩ := norm_pad hb (pM_lt b)
    have hq0 : 16777216 ≤ pM a * 2 ^ padN (pM a) * 2 ^ 38 / (pM b * 2 ^ padN (pM b)) := by rw [Nat.le_div_iff_mul_le (by omega)]; omega
    rw [rnd_eq _ _ _ _ (fun _ => hq0)]
    exact near_f _ _
/-- All that the row's reckoning meets. -/
theorem row_parts {y l g n : Nat} (hy : y < 4294967296) (hl : l < 4294967296) (hg : g < 4294967296) (fy : y % 2147483648 < 2139095040) (fl : l % 2147483648 < 2139095040) (fg : g % 2147483648 < 2139095040) (h1 : ordN l ≤ ordN y) (h2 : ordN y ≤ ordN g) (h3 : ordN l ≠ ordN g) (hb : subN g l % 2147483648 < 2139095040) (hn : n < 40) :
    subN y l % 2147483648 < 2139095040 ∧ pM (subN g l) ≠ 0 ∧ divN (subN y l) (subN g l) % 2147483648 < 2139095040 ∧ mulN (divN (subN y l) (subN g l)) (wholeN (n : Int)) % 2147483648 < 2139095040 ∧ addN (mulN (divN (subN y l) (subN g l)) (wholeN (n : Int))) 1056964608 < 2139095040 ∧ rowN y l g n ≤ n := by
  have hm := subN_mono hy hg hl fy fg fl h1 h2
  have hsl : sv l < sv g := (sv_lt hl hg).2 (by omega)
  have hB : subN g l < 2139095040 ∧ subN g l ≠ 0 := by
    rcases subN_val hg hl fg fl (by omega) with e | ⟨-, e⟩
    · have k := near_f (sv g - sv l).toNat (-149)
      have k1 := near_above (N := (sv g - sv l).toNat) (r := 1) (by decide) (by have : vR 1 = 1 := rfl; omega)
      rw [← e] at k k1
      omega
    · omega
  have hA : 2147483648 ≤ subN y l → subN y l = 2147483648 := fun hc => by
    rcases subN_val hy hl fy fl h1 with e | ⟨e, -⟩
    · have k := near_f (sv y - sv l).toNat (-149)
      rw [← e] at k
      omega
    · exact e
  have hp := pM_ne hB.2 (by omega)
  generalize hae : subN y l = a at *
  generalize hbe : subN g l = b at *
  have fa : a % 2147483648 < 2139095040 := by omega
  have ht := div_one fa hp hm
  obtain ⟨t1, t2, -, -⟩ := half_tab n hn
  have hmu := mul_one_le (t := divN a b) (b := wholeN (n : Int)) ht t2
  have hsb : pS b = false := decide_eq_false (by omega)
  have hwn : pS (wholeN (n : Int)) = false := decide_eq_false (by omega)
  have hsg : 2147483648 ≤ mulN (divN a b) (wholeN (n : Int)) → mulN (divN a b) (wholeN (n : Int)) = 2147483648 := fun hc => by
    by_cases ha : 2147483648 ≤ a
    · have e := hA ha
      have pa : pM a = 0 := by rw [e]; rfl
      have sa : pS a = true := decide_eq_true ha
      have ed : divN a b = 2147483648 := by unfold divN; rw [if_neg (by omega), if_pos pa, sa, hsb]; rfl
      rw [ed]
      unfold mulN
      rw [rnd_exact, hwn, show pM 2147483648 = 0 from rfl, Nat.zero_mul, nearest_zero]
      rfl
    · exfalso
      have sa : pS a = false := decide_eq_false ha
      have hd := div_plus fa hp (by rw [sa, hsb]; rfl)
      have sd : pS (divN a b) = false := decide_eq_false (by omega)
      unfold mulN at hc
      rw [rnd_exact, sd, hwn] at hc
      have := near_f (pM (divN a b) * pM (wholeN (n : Int))) (pE (divN a b) + pE (wholeN (n : Int)))
      have e2 : (false != false) = false := rfl
      rw [e2] at hc
      omega
  have hah := add_half hn hmu hsg
  refine ⟨fa, hp, by omega, by omega, hah.1, ?_⟩
  unfold rowN
  rw [if_neg h3, hae, hbe]
  exact hah.2
end Go.Proofs.Yteefieidfgpijaa.CF
