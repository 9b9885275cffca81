import Derived.Test.YtnmcniibcjjflaaDoorTurnPlain4
import Derived.Test.YtnmcniibcjjflaaDoorJoin8
/- THE PLAIN MATHEMATICS of layer 1, more: rounding. -/
namespace Go.Proofs.YtnmcniibcjjflaaDoor
namespace M

/-- Does the mode take a quotient (its sign: s) that lies r / d beyond n on to the next one away from zero? -/
def outw (s : Bool) (mode : Int) (n r d : Nat) : Bool :=
  if mode = 1 then s else if mode = 2 then !s else if mode = 4 then decide (d < 2 * r) || (decide (d = 2 * r) && !s) else if mode = 5 then decide (d < 2 * r) || (decide (d = 2 * r) && decide (n % 2 = 1)) else false

/-- The size of P / d, rounded. -/
def rndn (s : Bool) (mode : Int) (p d : Nat) : Nat := if p % d ≠ 0 ∧ outw s mode (p / d) (p % d) d = true then p / d + 1 else p / d

def sgn (s : Bool) (n : Nat) : Int := if s then -(n : Int) else n

theorem rndn_zero {s : Bool} {mode : Int} {p d : Nat} (h : p % d = 0) : rndn s mode p d = p / d := by simp [rndn, h]
theorem rndn_no {s : Bool} {mode : Int} {p d : Nat} (h : outw s mode (p / d) (p % d) d = false) : rndn s mode p d = p / d := by simp [rndn, h]
theorem rndn_yes {s : Bool} {mode : Int} {p d : Nat} (h0 : p % d ≠ 0) (h : outw s mode (p / d) (p % d) d = true) : rndn s mode p d = p / d + 1 := by simp [rndn, h, h0]

/-- What 'whole' answers. -/
def wh (s : Bool) (mode : Int) (p d : Nat) : Int × Bool := if p / d ≤ 9999999999999 then (sgn s (rndn s mode p d), true) else (0, false)

/-- The fault of an amount and a number. -/
def pair (t0 t1 : Bool) (k0 n0 k1 n1 : Int) : Option (Int × Int) :=
  match mish [(k0, n0), (k1, n1)] with
  | some v => some v
  | none => if t0 = true ∧ t1 = true then none else some (6, 5)

/-- The same of a quotient and what is left. -/
def rq (s : Bool) (mode : Int) (q r d : Nat) : Nat := if r ≠ 0 ∧ outw s mode q r d = true then q + 1 else q

theorem rq_same (s : Bool) (mode : Int) (p d : Nat) : rq s mode (p / d) (p % d) d = rndn s mode p d := rfl
theorem rq_yes {s : Bool} {mode : Int} {q r d : Nat} (h0 : r ≠ 0) (h : outw s mode q r d = true) : rq s mode q r d = q + 1 := by simp [rq, h, h0]
theorem rq_no {s : Bool} {mode : Int} {q r d : Nat} (h : r = 0 ∨ outw s mode q r d = false) : rq s mode q r d = q := by rcases h with h | h <;> simp [rq, h]

theorem pair_none {t0 t1 : Bool} {k0 n0 k1 n1 : Int} (h : pair t0 t1 k0 n0 k1 n1 = none) : t0 = true ∧ t1 = true ∧ valid k0 n0 = true ∧ valid k1 n1 = true := by
  unfold pair at h
  cases h1 : mish [(k0, n0), (k1, n1)] with
  | some v => simp [h1] at h
  | none =>
    simp [h1] at h
    exact ⟨h.1, h.2, (mish_none h1 (k0, n0) (by simp)).1, (mish_none h1 (k1, n1) (by simp)).1⟩

theorem valid_1 {n : Int} (h : valid 1 n = true) : -9999999999999 ≤ n ∧ n ≤ 9999999999999 := by unfold valid at h; simp at h; exact h
theorem valid_2 {n : Int} (h : valid 2 n = true) : -1000000000 ≤ n ∧ n ≤ 1000000000 := by unfold valid at h; simp at h; exact h

end M
end Go.Proofs.YtnmcniibcjjflaaDoor


/- THE PLAIN MATHEMATICS of layer 1, more: the rounded quotient on paper is the other one. -/
namespace Go.Proofs.YtnmcniibcjjflaaDoor
namespace M

theorem rq_ge (s : Bool) (mode : Int) (q r d : Nat) : q ≤ rq s mode q r d := by unfold rq; split <;> omega

theorem fit_far_out (s : Bool) {n : Nat} (h : 9999999999999 < n) : fit true 1 (sgn s n) = (6, 1) := by
  refine fit_over ?_
  unfold valid sgn
  simp
  cases s <;> simp <;> omega

/-- 'whole' and 'rounded', each made a value. -/
theorem fit_same (s : Bool) (mode : Int) (p d : Nat) : fit true 1 (sgn s (rq s mode (cap14 (p / d)) (p % d) d)) = fit (wh s mode p d).2 1 (wh s mode p d).1 := by
  unfold wh
  by_cases h : p / d ≤ 9999999999999
  · rw [if_pos h, cap14_small (by omega), rq_same]
  · rw [if_neg h, fit_far]
    refine fit_far_out s ?_
    have h1 := rq_ge s mode (cap14 (p / d)) (p % d) d
    have h2 : 10000000000000 ≤ cap14 (p / d) := by unfold cap14; split <;> omega
    omega

theorem digs_getD (n i : Nat) : (digs n).getD i 0 ≤ 1000000 := by
  by_cases h : i < (digs n).length
  · have := digs_lt n _ (List.getElem_mem h)
    rw [List.getD_eq_getElem?_getD, List.getElem?_eq_getElem h]
    simp
    omega
  · rw [List.getD_eq_getElem?_getD, List.getElem?_eq_none (by omega)]
    simp

end M
end Go.Proofs.YtnmcniibcjjflaaDoor


/- THE PLAIN MATHEMATICS of layer 1, more: what the quotients answer. -/
namespace Go.Proofs.YtnmcniibcjjflaaDoor
namespace M

def isMode (m : Int) : Prop := 1 ≤ m ∧ m ≤ 5
instance (m : Int) : Decidable (isMode m) := by unfold isMode; exact inferInstance

/-- Split, of operands that it takes. -/
def spl (mode n1 : Int) (m : Int × Bool) : Int × Int := if isMode mode then (if n1 = 0 then (6, 2) else fit m.2 1 m.1) else (6, 5)
theorem spl_mode {mode n1 : Int} {m : Int × Bool} (h : ¬ isMode mode) : spl mode n1 m = (6, 5) := by simp [spl, h]
theorem spl_zero {mode : Int} {m : Int × Bool} (h : isMode mode) : spl mode 0 m = (6, 2) := by simp [spl, h]
theorem spl_ok {mode n1 : Int} {m : Int × Bool} (h : isMode mode) (h0 : n1 ≠ 0) : spl mode n1 m = fit m.2 1 m.1 := by simp [spl, h, h0]

/-- Scale, of an operand that it takes. -/
def scl (num den mode : Int) (m : Int × Bool) : Int × Int := if (-1000000000 ≤ num ∧ num ≤ 1000000000) ∧ (1 ≤ den ∧ den ≤ 1000000000) ∧ isMode mode then fit m.2 1 m.1 else (6, 5)
theorem scl_no {num den mode : Int} {m : Int × Bool} (h : ¬ ((-1000000000 ≤ num ∧ num ≤ 1000000000) ∧ (1 ≤ den ∧ den ≤ 1000000000) ∧ isMode mode)) : scl num den mode m = (6, 5) := by unfold scl; rw [if_neg h]
theorem scl_ok {num den mode : Int} {m : Int × Bool} (h1 : -1000000000 ≤ num ∧ num ≤ 1000000000) (h2 : 1 ≤ den ∧ den ≤ 1000000000) (h3 : isMode mode) : scl num den mode m = fit m.2 1 m.1 := by unfold scl; rw [if_pos ⟨h1, h2, h3⟩]

/-- Round, of an operand that it takes; x: the product, as it is reckoned. -/
def rnd (unit mode : Int) (b : Bool) (x : Int) : Int × Int := if (1 ≤ unit ∧ unit ≤ 9999999999999) ∧ isMode mode then fit b 1 x else (6, 5)
theorem rnd_no {unit mode : Int} {b : Bool} {x : Int} (h : ¬ ((1 ≤ unit ∧ unit ≤ 9999999999999) ∧ isMode mode)) : rnd unit mode b x = (6, 5) := by unfold rnd; rw [if_neg h]
theorem rnd_ok {unit mode : Int} {b : Bool} {x : Int} (h1 : 1 ≤ unit ∧ unit ≤ 9999999999999) (h3 : isMode mode) : rnd unit mode b x = fit b 1 x := by unfold rnd; rw [if_pos ⟨h1, h3⟩]

theorem wh_small {s : Bool} {mode : Int} {p d : Nat} (h : p / d ≤ 9999999999999) : wh s mode p d = (sgn s (rq s mode (cap14 (p / d)) (p % d) d), true) := by unfold wh; rw [if_pos h, cap14_small (by omega), rq_same]

end M
end Go.Proofs.YtnmcniibcjjflaaDoor
