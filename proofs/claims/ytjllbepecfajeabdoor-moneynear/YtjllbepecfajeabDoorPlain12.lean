import Derived.Test.YtjllbepecfajeabDoorPlain9
import Derived.Test.YtjllbepecfajeabDoorPlain11
/- THE PLAIN MATHEMATICS of MoneyNear. -/
namespace Go.Proofs.YtjllbepecfajeabDoor
namespace M

theorem near_form (s : Bool) (mode : Int) (p d : Nat) (hd : 0 < d) (v up L : Int) (hv : v = sgn s (rndn s mode p d)) (hu : up = sgn s p) (hL : L = up - v * d) :
    ∃ q r : Nat, r < d ∧ (p = 0 → r = 0) ∧ (r ≤ p) ∧ ((¬ (r ≠ 0 ∧ outw s mode q r d = true) ∧ v = sgn s q ∧ L = if s then -(r : Int) else r) ∨ ((r ≠ 0 ∧ outw s mode q r d = true) ∧ v = sgn s (q + 1) ∧ L = if s then (d : Int) - r else (r : Int) - d)) := by
  refine ⟨p / d, p % d, Nat.mod_lt p hd, by rintro rfl; simp, Nat.mod_le p d, ?_⟩
  have e := Nat.div_add_mod p d
  rw [← rq_same] at hv
  generalize p / d = q at *
  generalize p % d = r at *
  have e2 : (p : Int) = (d : Int) * q + r := by rw [← e]; simp
  by_cases h : r ≠ 0 ∧ outw s mode q r d = true
  · right
    refine ⟨h, by rw [hv, rq_yes h.1 h.2], ?_⟩
    rw [hL, hu, hv, rq_yes h.1 h.2]
    cases s <;> simp only [sgn, if_true, if_false, Bool.false_eq_true] <;> rw [e2] <;> push_cast <;> simp only [Int.neg_mul, Int.add_mul, Int.mul_comm (q : Int) d] <;> omega
  · left
    have hq : rq s mode q r d = q := by unfold rq; rw [if_neg h]
    refine ⟨h, by rw [hv, hq], ?_⟩
    rw [hL, hu, hv, hq]
    cases s <;> simp only [sgn, if_true, if_false, Bool.false_eq_true] <;> rw [e2] <;> simp only [Int.neg_mul, Int.mul_comm (q : Int) d] <;> omega

theorem near_math (s : Bool) (mode : Int) (p d : Nat) (hd : 0 < d) (v up L : Int) (hv : v = sgn s (rndn s mode p d)) (hu : up = sgn s p) (hL : L = up - v * d) :
    (mode = 1 → 0 ≤ L ∧ L < d) ∧ (mode = 2 → L ≤ 0 ∧ -(d : Int) < L) ∧ (mode = 3 → -(d : Int) < L ∧ L < d ∧ (L = 0 ∨ (0 < L ↔ 0 < up))) ∧ (mode = 4 → 2 * L < d ∧ -(d : Int) ≤ 2 * L) ∧
    (mode = 5 → 2 * L ≤ d ∧ -(d : Int) ≤ 2 * L ∧ ((2 * L ≠ d ∧ 2 * L ≠ -(d : Int)) ∨ v % 2 = 0)) := by
  obtain ⟨q, r, h1, h2, h3, h⟩ := near_form s mode p d hd v up L hv hu hL
  clear hv hL
  subst hu
  refine ⟨?_, ?_, ?_, ?_, ?_⟩ <;> rintro rfl <;> cases s <;> simp [outw, sgn] at h ⊢ <;> omega

theorem near_rest (s : Bool) (mode : Int) (p d : Nat) (hd : 0 < d) (v up L : Int) (hv : v = sgn s (rndn s mode p d)) (hu : up = sgn s p) (hL : L = up - v * d) : -(d : Int) < L ∧ L < d := by
  obtain ⟨q, r, h1, h2, h3, h⟩ := near_form s mode p d hd v up L hv hu hL
  rcases h with ⟨_, _, h⟩ | ⟨hh, _, h⟩ <;> cases s <;> simp at h <;> omega

theorem rndn_mul (s : Bool) (mode : Int) (p d k : Nat) (hk : 0 < k) : rndn s mode (p * k) (d * k) = rndn s mode p d := by
  unfold rndn
  rw [Nat.mul_div_mul_right p d hk, Nat.mul_mod_mul_right]
  generalize p % d = r
  have h1 : d * k < 2 * (r * k) ↔ d < 2 * r := by rw [← Nat.mul_assoc]; exact Nat.mul_lt_mul_right hk
  have h2 : d * k = 2 * (r * k) ↔ d = 2 * r := by rw [← Nat.mul_assoc]; exact Nat.mul_right_cancel_iff hk
  have h3 : r * k ≠ 0 ↔ r ≠ 0 := by rw [Ne, Ne, Nat.mul_eq_zero]; omega
  have h4 : outw s mode (p / d) (r * k) (d * k) = outw s mode (p / d) r d := by unfold outw; simp only [h1, h2]
  rw [h4]
  simp only [h3]

theorem rndn_le (s : Bool) (mode : Int) (p d : Nat) : rndn s mode p d ≤ p / d + 1 := by unfold rndn; split <;> omega

theorem sgn_mul (n num : Int) : n * num = sgn (decide (n < 0) != decide (num < 0)) (n.natAbs * num.natAbs) := by
  by_cases h1 : n < 0 <;> by_cases h2 : num < 0 <;> simp only [h1, h2, sgn, decide_true, decide_false] <;> simp
  · rw [Int.ofNat_natAbs_of_nonpos (by omega), Int.ofNat_natAbs_of_nonpos (by omega), Int.neg_mul_neg]
  · rw [Int.ofNat_natAbs_of_nonpos (by omega), Int.natAbs_of_nonneg (by omega), Int.neg_mul, Int.neg_neg]
  · rw [Int.natAbs_of_nonneg (by omega), Int.ofNat_natAbs_of_nonpos (by omega), Int.mul_neg, Int.neg_neg]
  · rw [Int.natAbs_of_nonneg (by omega), Int.natAbs_of_nonneg (by omega)]

theorem neg_mul_pos (num k : Int) (hk : 1 ≤ k) : decide (num * k < 0) = decide (num < 0) := by
  rw [decide_eq_decide]
  constructor
  · intro h
    apply Classical.byContradiction
    intro h2
    have := Int.mul_nonneg (a := num) (b := k) (by omega) (by omega)
    omega
  · intro h
    exact Int.mul_neg_of_neg_of_pos h (by omega)

theorem tmod_bd (a b : Int) (hb : 0 < b) : -b < a.tmod b ∧ a.tmod b < b := ⟨by have := Int.lt_tmod_of_pos a hb; omega, Int.tmod_lt_of_pos a hb⟩

end M
end Go.Proofs.YtjllbepecfajeabDoor
