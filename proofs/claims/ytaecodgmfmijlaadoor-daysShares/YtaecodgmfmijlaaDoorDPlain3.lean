import Derived.Test.YtaecodgmfmijlaaDoorDPlain2
namespace Go.Proofs.YtaecodgmfmijlaaDoor
namespace D

/-- P2.6: the month of a year that a birth's month is -/
def jm (k1 k2 : Int) : Int := 12 * (k2 / 12) + k1 % 12
def bday (k1 d1 k2 : Int) : Int := bg (jm k1 k2) + (if d1 < ln (jm k1 k2) then d1 else ln (jm k1 k2))
def age (k1 d1 k2 b : Int) : Int := if b < bday k1 d1 k2 then k2 / 12 - k1 / 12 - 1 else k2 / 12 - k1 / 12
theorem ln_feb (k : Int) (h : k % 12 = 1) : ln k = 28 + lv (1900 + k / 12) := by
  unfold ln last; rw [h]; simp
theorem ln_same (k1 k2 : Int) (h : k1 % 12 = k2 % 12) (hn : k1 % 12 ≠ 1) : ln k1 = ln k2 := by
  unfold ln last
  rw [h] at hn ⊢
  have hx : ¬ (k2 % 12 + 1 = 2) := by omega
  simp [hx]
theorem age_whole {a b k1 d1 k2 d2 : Int} (h1 : At a k1 d1) (h2 : At b k2 d2) (h : a ≤ b) :
    age k1 d1 k2 b = whole k1 d1 k2 b / 12 - (if k1 % 12 = 1 ∧ d1 = 28 ∧ k2 % 12 = 1 ∧ d2 = 27 ∧ lv (1900 + k2 / 12) = 0 then 1 else 0) := by
  have hk := h1.le h2 h
  have a0 := h1.d0
  have a1 := h1.d1
  have b0 := h2.d0
  have b1 := h2.d1
  have be := h2.eq
  have l1 := ln_bd k1
  have l2 := ln_bd k2
  have lj := ln_bd (jm k1 k2)
  unfold age whole bday addv
  rw [show k1 + (k2 - k1) = k2 by omega]
  rcases Int.lt_trichotomy (k1 % 12) (k2 % 12) with hr | hr | hr
  · have c := bg_mono (j := jm k1 k2 + 1) (k := k2) (by unfold jm; omega)
    rw [bg_succ] at c
    repeat' split
    all_goals omega
  · have ej : jm k1 k2 = k2 := by unfold jm; omega
    rw [ej]
    by_cases hf : k1 % 12 = 1
    · have f1 := ln_feb k1 hf
      have f2 := ln_feb k2 (by omega)
      have v1 := lv_bd (1900 + k1 / 12)
      have v2 := lv_bd (1900 + k2 / 12)
      repeat' split
      all_goals omega
    · have hs := ln_same k1 k2 hr hf
      rw [if_neg (c := k1 % 12 = 1 ∧ d1 = 28 ∧ k2 % 12 = 1 ∧ d2 = 27 ∧ lv (1900 + k2 / 12) = 0) (by omega)]
      repeat' split
      all_goals omega
  · have c := bg_mono (j := k2 + 1) (k := jm k1 k2) (by unfold jm; omega)
    rw [bg_succ] at c
    repeat' split
    all_goals omega

theorem whole_add {a b k1 d1 k2 d2 : Int} (h1 : At a k1 d1) (h2 : At b k2 d2) (h : a ≤ b) : ∃ x y g, AddIs a (whole k1 d1 k2 b) x 0 ∧ x ≤ b ∧ AddIs a (whole k1 d1 k2 b + 1) y g ∧ (g = 21 ∨ (g = 0 ∧ ¬ y ≤ b)) := by
  have hk := h1.le h2 h
  have hw := whole_bd h1 h2 h
  have k0 := h1.k0
  have k3 := h2.k1
  have b0 := h2.lo
  have b1 := h2.hi
  have a0 := h1.d0
  unfold whole at hw ⊢
  by_cases c : b < addv k1 d1 (k2 - k1)
  · rw [if_pos c] at hw ⊢
    refine ⟨_, _, 0, .yes k1 d1 h1 (by omega) (by omega), ?_, .yes k1 d1 h1 (by omega) (by omega), .inr ⟨rfl, ?_⟩⟩
    · have e := bg_succ (k1 + (k2 - k1 - 1))
      rw [show k1 + (k2 - k1 - 1) + 1 = k2 by omega] at e
      have l := ln_bd (k1 + (k2 - k1 - 1))
      unfold addv
      split <;> omega
    · rw [show k2 - k1 - 1 + 1 = k2 - k1 by omega]
      omega
  · rw [if_neg c] at hw ⊢
    by_cases c2 : k2 = 3599
    · exact ⟨_, 0, 21, .yes k1 d1 h1 (by omega) (by omega), by omega, .out k1 d1 h1 (by omega), .inl rfl⟩
    · refine ⟨_, _, 0, .yes k1 d1 h1 (by omega) (by omega), by omega, .yes k1 d1 h1 (by omega) (by omega), .inr ⟨rfl, ?_⟩⟩
      have l := ln_bd (k1 + (k2 - k1 + 1))
      unfold addv
      rw [show k1 + (k2 - k1 + 1) = k2 + 1 by omega] at l ⊢
      split <;> omega

end D
end Go.Proofs.YtaecodgmfmijlaaDoor
