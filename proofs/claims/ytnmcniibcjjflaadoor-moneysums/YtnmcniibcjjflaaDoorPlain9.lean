import Derived.Test.YtnmcniibcjjflaaDoorPlain7
/- THE PLAIN MATHEMATICS of layer 1, more: what the quotients answer. -/
namespace Go.Proofs.YtnmcniibcjjflaaDoor
namespace M

def isMode (m : Int) : Prop := 1 ≤ m ∧ m ≤ 5
instance (m : Int) : Decidable (isMode m) := by unfold isMode; exact inferInstance

/-- Split, of operands that it takes. -/
def spl (mode n1 : Int) (m : Int × Bool) : Int × Int := if isMode mode then (if n1 = 0 then (6, 2) else fit m.2 1 m.1) else (6, 5)
theorem spl_mode {mode n1 : Int} {m : Int × Bool} (h : ¬ isMode mode) : spl mode n1 m = (6, 5) := by simp [spl, h]
theorem spl_zero {mode : Int} {m : Int × Bool} (h : isMode mode) : spl mode 0 m = (6, 2) := by simp [spl, h]
theorem spl_ok {mode n1 : Int} {m : Int × Bool} (h : isMode mode) (h0 : n1 ≠ 0) : spl mode n1 m = fit m.2 1 m.1 := by simp [spl, h, h0]

/-- Scale, of an operand that it takes. -/
def scl (num den mode : Int) (m : Int × Bool) : Int × Int := if (-1000000000 ≤ num ∧ num ≤ 1000000000) ∧ (1 ≤ den ∧ den ≤ 1000000000) ∧ isMode mode then fit m.2 1 m.1 else (6, 5)
theorem scl_no {num den mode : Int} {m : Int × Bool} (h : ¬ ((-1000000000 ≤ num ∧ num ≤ 1000000000) ∧ (1 ≤ den ∧ den ≤ 1000000000) ∧ isMode mode)) : scl num den mode m = (6, 5) := by unfold scl; rw [if_neg h]
theorem scl_ok {num den mode : Int} {m : Int × Bool} (h1 : -1000000000 ≤ num ∧ num ≤ 1000000000) (h2 : 1 ≤ den ∧ den ≤ 1000000000) (h3 : isMode mode) : scl num den mode m = fit m.2 1 m.1 := by unfold scl; rw [if_pos ⟨h1, h2, h3⟩]

/-- Round, of an operand that it takes; x: the product, as it is reckoned. -/
def rnd (unit mode : Int) (b : Bool) (x : Int) : Int × Int := if (1 ≤ unit ∧ unit ≤ 9999999999999) ∧ isMode mode then fit b 1 x else (6, 5)
theorem rnd_no {unit mode : Int} {b : Bool} {x : Int} (h : ¬ ((1 ≤ unit ∧ unit ≤ 9999999999999) ∧ isMode mode)) : rnd unit mode b x = (6, 5) := by unfold rnd; rw [if_neg h]
theorem rnd_ok {unit mode : Int} {b : Bool} {x : Int} (h1 : 1 ≤ unit ∧ unit ≤ 9999999999999) (h3 : isMode mode) : rnd unit mode b x = fit b 1 x := by unfold rnd; rw [if_pos ⟨h1, h3⟩]

theorem wh_small {s : Bool} {mode : Int} {p d : Nat} (h : p / d ≤ 9999999999999) : wh s mode p d = (sgn s (rq s mode (cap14 (p / d)) (p % d) d), true) := by unfold wh; rw [if_pos h, cap14_small (by omega), rq_same]

end M
end Go.Proofs.YtnmcniibcjjflaaDoor
