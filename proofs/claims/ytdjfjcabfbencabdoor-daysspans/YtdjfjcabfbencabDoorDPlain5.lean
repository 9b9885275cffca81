import Derived.Test.YtdjfjcabfbencabDoorDPlain4
namespace Go.Proofs.YtdjfjcabfbencabDoor
namespace D

/-- the month of year y that a birth's month is, and the birthday there -/
def jy (k1 y : Int) : Int := 12 * (y - 1900) + k1 % 12
def bdy (k1 d1 y : Int) : Int := bg (jy k1 y) + (if d1 < ln (jy k1 y) then d1 else ln (jy k1 y))
theorem jy_parts (k1 y : Int) : 1900 + jy k1 y / 12 = y ∧ jy k1 y % 12 = k1 % 12 := by unfold jy; omega
theorem bdy_hi (k1 d1 y : Int) : bdy k1 d1 y ≤ ys (y + 1) := by
  have a := bg_mono (j := jy k1 y + 1) (k := 12 * (y + 1 - 1900)) (by unfold jy; omega)
  rw [bg_year, bg_succ] at a
  rw [show 1900 + (y + 1 - 1900) = y + 1 by omega] at a
  unfold bdy
  split <;> omega
theorem bdy_lo (k1 d1 y : Int) (h : 0 ≤ d1) : ys y ≤ bdy k1 d1 y := by
  have a := bg_mono (j := 12 * (y - 1900)) (k := jy k1 y) (by unfold jy; omega)
  rw [bg_year, show 1900 + (y - 1900) = y by omega] at a
  have l := ln_bd (jy k1 y)
  unfold bdy
  split <;> omega
theorem bdy_bday (k1 d1 k2 : Int) : bdy k1 d1 (1900 + k2 / 12) = bday k1 d1 k2 := by
  unfold bdy bday jy jm
  rw [show 1900 + k2 / 12 - 1900 = k2 / 12 by omega]
theorem bdy_own {a k1 d1 : Int} (h : At a k1 d1) : bdy k1 d1 (1900 + k1 / 12) = a := by
  have e : jy k1 (1900 + k1 / 12) = k1 := by unfold jy; omega
  have := h.d1
  have := h.eq
  unfold bdy
  rw [e, if_pos (by omega)]
  omega
/-- what the two numbers of a birthday are -/
theorem num_bdy {a k1 d1 : Int} (h : At a k1 d1) (y : Int) (y0 : 1900 ≤ y) (y1 : y ≤ 2199) :
    num y (k1 % 12 + 1) (d1 + 1) = (bdy k1 d1 y, 0) ∨ (num y (k1 % 12 + 1) (d1 + 1) = (0, 20) ∧ num y 3 1 = (bdy k1 d1 y, 0)) := by
  obtain ⟨p1, p2⟩ := jy_parts k1 y
  have d0 := h.d0
  have d1' := h.d1
  have hln : ln (jy k1 y) = last y (k1 % 12 + 1) := by unfold ln; rw [p1, p2]
  have hbg : bg (jy k1 y) = ys y + ms y (k1 % 12 + 1) := by unfold bg; rw [p1, p2]
  by_cases c : d1 < ln (jy k1 y)
  · left
    unfold num bdy
    rw [if_neg (by omega), if_neg (by omega), if_pos c]
    simp
    omega
  · right
    have hf : k1 % 12 = 1 := by
      apply Classical.byContradiction
      intro hn
      have := ln_same k1 (jy k1 y) p2.symm hn
      omega
    refine ⟨?_, ?_⟩
    · unfold num
      rw [if_pos (by omega)]
    · have hms := ms_succ y 2 (by omega) (by omega)
      have hl3 := last_bd y 3 (by omega) (by omega)
      rw [hf] at hln hbg
      unfold num bdy
      rw [if_neg (by omega), if_neg (by omega), if_neg c]
      simp
      rw [show (2 : Int) + 1 = 3 by omega] at hms
      rw [show (1 : Int) + 1 = 2 by omega] at hln hbg
      omega
theorem age_bdy {a b k1 d1 k2 d2 : Int} (h1 : At a k1 d1) (h2 : At b k2 d2) (y : Int) :
    (y < 1900 + k2 / 12 → bdy k1 d1 y ≤ b) ∧ (1900 + k2 / 12 < y → b < bdy k1 d1 y) ∧ (y = 1900 + k2 / 12 → bdy k1 d1 y = bday k1 d1 k2) := by
  have := h2.year
  refine ⟨fun c => ?_, fun c => ?_, fun c => ?_⟩
  · have e := bdy_hi k1 d1 y
    have f := ys_le (y := y + 1) (z := 1900 + k2 / 12) (by omega)
    omega
  · have e := bdy_lo k1 d1 y h1.d0
    have f := ys_le (y := 1900 + k2 / 12 + 1) (z := y) (by omega)
    omega
  · rw [c]; exact bdy_bday k1 d1 k2

end D
end Go.Proofs.YtdjfjcabfbencabDoor
