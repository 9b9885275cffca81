import Derived.Test.YtnmcniibcjjflaaDoorPlain4
/- THE PLAIN MATHEMATICS of layer 1, more: rounding. -/
namespace Go.Proofs.YtnmcniibcjjflaaDoor
namespace M

/-- Does the mode take a quotient (its sign: s) that lies r / d beyond n on to the next one away from zero? -/
def outw (s : Bool) (mode : Int) (n r d : Nat) : Bool :=
  if mode = 1 then s else if mode = 2 then !s else if mode = 4 then decide (d < 2 * r) || (decide (d = 2 * r) && !s) else if mode = 5 then decide (d < 2 * r) || (decide (d = 2 * r) && decide (n % 2 = 1)) else false

/-- The size of P / d, rounded. -/
def rndn (s : Bool) (mode : Int) (p d : Nat) : Nat := if p % d ≠ 0 ∧ outw s mode (p / d) (p % d) d = true then p / d + 1 else p / d

def sgn (s : Bool) (n : Nat) : Int := if s then -(n : Int) else n

theorem rndn_zero {s : Bool} {mode : Int} {p d : Nat} (h : p % d = 0) : rndn s mode p d = p / d := by simp [rndn, h]
theorem rndn_no {s : Bool} {mode : Int} {p d : Nat} (h : outw s mode (p / d) (p % d) d = false) : rndn s mode p d = p / d := by simp [rndn, h]
theorem rndn_yes {s : Bool} {mode : Int} {p d : Nat} (h0 : p % d ≠ 0) (h : outw s mode (p / d) (p % d) d = true) : rndn s mode p d = p / d + 1 := by simp [rndn, h, h0]

/-- What 'whole' answers. -/
def wh (s : Bool) (mode : Int) (p d : Nat) : Int × Bool := if p / d ≤ 9999999999999 then (sgn s (rndn s mode p d), true) else (0, false)

/-- The fault of an amount and a number. -/
def pair (t0 t1 : Bool) (k0 n0 k1 n1 : Int) : Option (Int × Int) :=
  match mish [(k0, n0), (k1, n1)] with
  | some v => some v
  | none => if t0 = true ∧ t1 = true then none else some (6, 5)

/-- The same of a quotient and what is left. -/
def rq (s : Bool) (mode : Int) (q r d : Nat) : Nat := if r ≠ 0 ∧ outw s mode q r d = true then q + 1 else q

theorem rq_same (s : Bool) (mode : Int) (p d : Nat) : rq s mode (p / d) (p % d) d = rndn s mode p d := rfl
theorem rq_yes {s : Bool} {mode : Int} {q r d : Nat} (h0 : r ≠ 0) (h : outw s mode q r d = true) : rq s mode q r d = q + 1 := by simp [rq, h, h0]
theorem rq_no {s : Bool} {mode : Int} {q r d : Nat} (h : r = 0 ∨ outw s mode q r d = false) : rq s mode q r d = q := by rcases h with h | h <;> simp [rq, h]

theorem pair_none {t0 t1 : Bool} {k0 n0 k1 n1 : Int} (h : pair t0 t1 k0 n0 k1 n1 = none) : t0 = true ∧ t1 = true ∧ valid k0 n0 = true ∧ valid k1 n1 = true := by
  unfold pair at h
  cases h1 : mish [(k0, n0), (k1, n1)] with
  | some v => simp [h1] at h
  | none =>
    simp [h1] at h
    exact ⟨h.1, h.2, (mish_none h1 (k0, n0) (by simp)).1, (mish_none h1 (k1, n1) (by simp)).1⟩

theorem valid_1 {n : Int} (h : valid 1 n = true) : -9999999999999 ≤ n ∧ n ≤ 9999999999999 := by unfold valid at h; simp at h; exact h
theorem valid_2 {n : Int} (h : valid 2 n = true) : -1000000000 ≤ n ∧ n ≤ 1000000000 := by unfold valid at h; simp at h; exact h

end M
end Go.Proofs.YtnmcniibcjjflaaDoor
