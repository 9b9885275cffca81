import Derived.Test.YtnmcniibcjjflaaDoorPlain2
/- THE PLAIN MATHEMATICS of layer 1, more: what a call answers. -/
namespace Go.Proofs.YtnmcniibcjjflaaDoor
namespace M

/-- The fault, or else the answer. -/
def ans (r : Option (Int × Int)) (d : Int × Int) : Int × Int := match r with | none => d | some x => x

theorem mish_split (k n : Int) (os : List (Int × Int)) : mish ((k, n) :: os) = match mish [(k, n)] with | some v => some v | none => mish os := by
  simp only [mish]
  by_cases h : valid k n = false
  · rw [if_pos h, if_pos h]
  · rw [if_neg h, if_neg h]
    by_cases h6 : k = 6
    · rw [if_pos h6, if_pos h6]
    · rw [if_neg h6, if_neg h6]
      by_cases h0 : k = 0
      · rw [if_pos h0, if_pos h0]
      · rw [if_neg h0, if_neg h0]

theorem ans_some (x d : Int × Int) : ans (some x) d = x := rfl
theorem ans_none (d : Int × Int) : ans none d = d := rfl

/-- 'looked', then 'alike', is 'refuse'. -/
theorem refuse_some {k n : Int} {os : List (Int × Int)} {ks : List Int} {x y : Int} (h : mish ((k, n) :: os) = some (x, y)) : refuse (ks.any fun z => k == z) k n os = some (x, y) := by
  rw [mish_split] at h
  unfold refuse
  cases h1 : mish [(k, n)] with
  | some v => simp [h1] at h; simp [h]
  | none => simp [h1] at h; simp [h]

theorem refuse_alike {k n : Int} {os : List (Int × Int)} {ks : List Int} (h : mish ((k, n) :: os) = none) :
    refuse (ks.any fun z => k == z) k n os = if alike k ((k, n) :: os) ks = true then none else some (6, 5) := by
  rw [mish_split] at h
  unfold refuse alike
  cases h1 : mish [(k, n)] with
  | some v => simp [h1] at h
  | none =>
    simp [h1] at h
    simp only [h]
    cases h2 : ks.any fun z => k == z <;> cases h3 : os.all fun x => x.1 == k <;> simp [h3]

end M
end Go.Proofs.YtnmcniibcjjflaaDoor
