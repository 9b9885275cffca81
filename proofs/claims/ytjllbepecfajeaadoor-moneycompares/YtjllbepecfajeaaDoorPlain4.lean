import Derived.Test.YtjllbepecfajeaaDoorPlain3
/- THE PLAIN MATHEMATICS of layer 1, more: comparing. -/
namespace Go.Proofs.YtjllbepecfajeaaDoor
namespace M

def ord (x y : Int) : Int := if x < y then -1 else if y < x then 1 else 0
def bit (b : Bool) : Int := if b then 1 else 0

/-- What Compare answers of operands that it takes. -/
def cmpo (op o : Int) : Int × Int :=
  if op = 25 then (3, bit (o == 0)) else if op = 26 then (3, bit (o != 0)) else if op = 27 then (3, bit (decide (o < 0))) else if op = 28 then (3, bit (decide (o ≤ 0)))
  else if op = 29 then (3, bit (decide (0 < o))) else if op = 30 then (3, bit (decide (0 ≤ o))) else (6, 5)

def cmpn (op x y : Int) : Int × Int :=
  if op = 25 then (3, bit (x == y)) else if op = 26 then (3, bit (x != y)) else if op = 27 then (3, bit (decide (x < y))) else if op = 28 then (3, bit (decide (x ≤ y)))
  else if op = 29 then (3, bit (decide (y < x))) else if op = 30 then (3, bit (decide (y ≤ x))) else (6, 5)

theorem cmp_same (op x y : Int) : cmpo op (ord x y) = cmpn op x y := by
  have h0 : (ord x y == 0) = (x == y) := by rw [Bool.eq_iff_iff]; simp; unfold ord; split <;> (try split) <;> omega
  have h1 : (ord x y != 0) = (x != y) := by rw [bne, h0]; rfl
  have h2 : decide (ord x y < 0) = decide (x < y) := by rw [decide_eq_decide]; unfold ord; split <;> (try split) <;> omega
  have h3 : decide (ord x y ≤ 0) = decide (x ≤ y) := by rw [decide_eq_decide]; unfold ord; split <;> (try split) <;> omega
  have h4 : decide (0 < ord x y) = decide (y < x) := by rw [decide_eq_decide]; unfold ord; split <;> (try split) <;> omega
  have h5 : decide (0 ≤ ord x y) = decide (y ≤ x) := by rw [decide_eq_decide]; unfold ord; split <;> (try split) <;> omega
  unfold cmpo cmpn
  rw [h0, h1, h2, h3, h4, h5]

theorem ord_lt {x y : Int} (h : x < y) : ord x y = -1 := by simp [ord, h]
theorem ord_gt {x y : Int} (h : y < x) : ord x y = 1 := by simp [ord, h]; omega
theorem ord_eq (x : Int) : ord x x = 0 := by simp [ord]

theorem refuse_some_any {t : Bool} {k n : Int} {os : List (Int × Int)} {x y : Int} (h : mish ((k, n) :: os) = some (x, y)) : refuse t k n os = some (x, y) := by
  rw [mish_split] at h
  unfold refuse
  cases h1 : mish [(k, n)] with
  | some v => simp [h1] at h; simp [h]
  | none => simp [h1] at h; simp [h]

theorem refuse_none_any {t : Bool} {k n : Int} {os : List (Int × Int)} (h : mish ((k, n) :: os) = none) : refuse t k n os = none ∨ refuse t k n os = some (6, 5) := by
  rw [mish_split] at h
  unfold refuse
  cases h1 : mish [(k, n)] with
  | some v => simp [h1] at h
  | none =>
    simp [h1] at h
    simp only [h]
    cases t <;> cases h3 : os.all fun x => x.1 == k <;> simp

end M
end Go.Proofs.YtjllbepecfajeaaDoor
