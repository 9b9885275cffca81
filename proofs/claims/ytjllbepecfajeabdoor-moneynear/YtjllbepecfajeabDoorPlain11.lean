import Derived.Test.YtjllbepecfajeabDoorPlain9
/- THE PLAIN MATHEMATICS of layer 1, more: what is added can be taken away. -/
namespace Go.Proofs.YtjllbepecfajeabDoor
namespace M

theorem mish_fst : ∀ (vs : List (Int × Int)) (x : Int × Int), mish vs = some x → x.1 = 6 := by
  intro vs
  induction vs with
  | nil => intro x h; cases h
  | cons y r ih =>
    obtain ⟨k, n⟩ := y
    intro x h
    simp only [mish] at h
    by_cases hv : valid k n = false
    · rw [if_pos hv] at h; cases h; rfl
    · rw [if_neg hv] at h
      by_cases h6 : k = 6
      · rw [if_pos h6] at h; cases h; rfl
      · rw [if_neg h6] at h
        by_cases h0 : k = 0
        · rw [if_pos h0] at h; cases h; rfl
        · rw [if_neg h0] at h
          exact ih x h

theorem refuse_fst {t : Bool} {k n : Int} {os : List (Int × Int)} {x : Int × Int} (h : refuse t k n os = some x) : x.1 = 6 := by
  unfold refuse at h
  cases h1 : mish [(k, n)] with
  | some v => simp [h1] at h; subst h; exact mish_fst _ _ h1
  | none =>
    cases h2 : mish os with
    | some v => simp [h1, h2] at h; subst h; exact mish_fst _ _ h2
    | none =>
      simp only [h1, h2] at h
      by_cases ht : t = false
      · rw [if_pos ht] at h; cases h; rfl
      · rw [if_neg ht] at h
        by_cases ha : (os.all fun x => x.1 == k) = true
        · rw [if_pos ha] at h; cases h
        · rw [if_neg ha] at h; cases h; rfl

/-- A sum of what can't be added is a fault. -/
theorem sum_bad {t : Bool} {k0 n0 k1 n1 : Int} {d : Int × Int} (h : t = false ∨ valid k0 n0 = false ∨ valid k1 n1 = false ∨ k0 ≠ k1) : (ans (refuse t k0 n0 [(k1, n1)]) d).1 = 6 := by
  cases h1 : refuse t k0 n0 [(k1, n1)] with
  | some x => exact refuse_fst h1
  | none =>
    obtain ⟨ht, hv, ho⟩ := refuse_none h1
    have := ho (k1, n1) (by simp)
    dsimp only at this
    obtain ⟨e, hv1⟩ := this
    subst e
    simp [ht, hv, hv1] at h

theorem mish_good {k n : Int} (h : valid k n = true) (h6 : k ≠ 6) (h0 : k ≠ 0) (r : List (Int × Int)) : mish ((k, n) :: r) = mish r := mish_cons_ok h h6 h0

theorem refuse_good2 {k n0 n1 : Int} (h0 : valid k n0 = true) (h1 : valid k n1 = true) (hk : k = 1 ∨ k = 2) : refuse true k n0 [(k, n1)] = none := by
  have a6 : k ≠ 6 := by omega
  have a0 : k ≠ 0 := by omega
  unfold refuse
  rw [mish_good h0 a6 a0, mish_good h1 a6 a0]
  simp [mish]

theorem refuse_good1 {k n0 : Int} (h0 : valid k n0 = true) (hk : k = 1 ∨ k = 2) : refuse true k n0 [] = none := by
  have a6 : k ≠ 6 := by omega
  have a0 : k ≠ 0 := by omega
  unfold refuse
  rw [mish_good h0 a6 a0]
  simp [mish]

theorem valid_neg {k n : Int} (h : valid k n = true) (hk : k = 1 ∨ k = 2) : valid k (-n) = true := by
  rcases hk with rfl | rfl <;> (unfold valid at *; simp at *; omega)

theorem valid_bd {k n : Int} (h : valid k n = true) (hk : k = 1 ∨ k = 2) : -9999999999999 ≤ n ∧ n ≤ 9999999999999 := by
  rcases hk with rfl | rfl <;> (unfold valid at *; simp at *; omega)

end M
end Go.Proofs.YtjllbepecfajeabDoor
