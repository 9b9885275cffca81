import Derived.Test.YtnmcniibcjjflaaDoorJoin8
/- THE PLAIN MATHEMATICS of layer 1, more: comparing. -/
namespace Go.Proofs.YtnmcniibcjjflaaDoor
namespace M

def ord (x y : Int) : Int := if x < y then -1 else if y < x then 1 else 0
def bit (b : Bool) : Int := if b then 1 else 0

/-- What Compare answers of operands that it takes. -/
def cmpo (op o : Int) : Int × Int :=
  if op = 25 then (3, bit (o == 0)) else if op = 26 then (3, bit (o != 0)) else if op = 27 then (3, bit (decide (o < 0))) else if op = 28 then (3, bit (decide (o ≤ 0)))
  else if op = 29 then (3, bit (decide (0 < o))) else if op = 30 then (3, bit (decide (0 ≤ o))) else (6, 5)

def cmpn (op x y : Int) : Int × Int :=
  if op = 25 then (3, bit (x == y)) else if op = 26 then (3, bit (x != y)) else if op = 27 then (3, bit (decide (x < y))) else if op = 28 then (3, bit (decide (x ≤ y)))
  else if op = 29 then (3, bit (decide (y < x))) else if op = 30 then (3, bit (decide (y ≤ x))) else (6, 5)

theorem cmp_same (op x y : Int) : cmpo op (ord x y) = cmpn op x y := by
  have h0 : (ord x y == 0) = (x == y) := by rw [Bool.eq_iff_iff]; simp; unfold ord; split <;> (try split) <;> omega
  have h1 : (ord x y != 0) = (x != y) := by rw [bne, h0]; rfl
  have h2 : decide (ord x y < 0) = decide (x < y) := by rw [decide_eq_decide]; unfold ord; split <;> (try split) <;> omega
  have h3 : decide (ord x y ≤ 0) = decide (x ≤ y) := by rw [decide_eq_decide]; unfold ord; split <;> (try split) <;> omega
  have h4 : decide (0 < ord x y) = decide (y < x) := by rw [decide_eq_decide]; unfold ord; split <;> (try split) <;> omega
  have h5 : decide (0 ≤ ord x y) = decide (y ≤ x) := by rw [decide_eq_decide]; unfold ord; split <;> (try split) <;> omega
  unfold cmpo cmpn
  rw [h0, h1, h2, h3, h4, h5]

theorem ord_lt {x y : Int} (h : x < y) : ord x y = -1 := by simp [ord, h]
theorem ord_gt {x y : Int} (h : y < x) : ord x y = 1 := by simp [ord, h]; omega
theorem ord_eq (x : Int) : ord x x = 0 := by simp [ord]

theorem refuse_some_any {t : Bool} {k n : Int} {os : List (Int × Int)} {x y : Int} (h : mish ((k, n) :: os) = some (x, y)) : refuse t k n os = some (x, y) := by
  rw [mish_split] at h
  unfold refuse
  cases h1 : mish [(k, n)] with
  | some v => simp [h1] at h; simp [h]
  | none => simp [h1] at h; simp [h]

theorem refuse_none_any {t : Bool} {k n : Int} {os : List (Int × Int)} (h : mish ((k, n) :: os) = none) : refuse t k n os = none ∨ refuse t k n os = some (6, 5) := by
  rw [mish_split] at h
  unfold refuse
  cases h1 : mish [(k, n)] with
  | some v => simp [h1] at h
  | none =>
    simp [h1] at h
    simp only [h]
    cases t <;> cases h3 : os.all fun x => x.1 == k <;> simp


theorem mish_none {vs : List (Int × Int)} (h : mish vs = none) : ∀ x ∈ vs, valid x.1 x.2 = true ∧ x.1 ≠ 6 ∧ x.1 ≠ 0 := by
  induction vs with
  | nil => intro x hx; cases hx
  | cons y r ih =>
    obtain ⟨k, n⟩ := y
    simp only [mish] at h
    by_cases hv : valid k n = false
    · rw [if_pos hv] at h; cases h
    · rw [if_neg hv] at h
      by_cases h6 : k = 6
      · rw [if_pos h6] at h; cases h
      · rw [if_neg h6] at h
        by_cases h0 : k = 0
        · rw [if_pos h0] at h; cases h
        · rw [if_neg h0] at h
          intro x hx
          rcases List.mem_cons.1 hx with rfl | hx
          · exact ⟨by simpa using hv, h6, h0⟩
          · exact ih h x hx

theorem refuse_none {t : Bool} {k n : Int} {os : List (Int × Int)} (h : refuse t k n os = none) : t = true ∧ valid k n = true ∧ ∀ x ∈ os, x.1 = k ∧ valid k x.2 = true := by
  unfold refuse at h
  cases h1 : mish [(k, n)] with
  | some v => simp [h1] at h
  | none =>
    cases h2 : mish os with
    | some v => simp [h1, h2] at h
    | none =>
      cases t with
      | false => simp [h1, h2] at h
      | true =>
        simp [h1, h2] at h
        refine ⟨rfl, (mish_none h1 (k, n) (by simp)).1, fun x hx => ?_⟩
        have e := h x.1 x.2 hx
        have := (mish_none h2 x hx).1
        rw [e] at this
        exact ⟨e, this⟩


end M
end Go.Proofs.YtnmcniibcjjflaaDoor
