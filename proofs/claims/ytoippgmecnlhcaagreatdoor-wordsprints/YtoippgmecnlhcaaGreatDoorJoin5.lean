import Derived.Test.YtoippgmecnlhcaaGreatDoorProg
import Derived.WalkKit
import Derived.WalkSpells
import Derived.WalkLawsBesides
import Derived.Deep.QuietTactic
import Derived.BigQuiet
import Derived.Deep.RegionHeld3
/- THE PLAIN MATHEMATICS of layer 2: the calendar as whole numbers, no Go in sight. -/
namespace Go.Proofs.YtoippgmecnlhcaaGreatDoor
namespace D

/-- P2.1 -/
def leap (y : Int) : Bool := decide (y % 4 = 0 ∧ (y % 100 ≠ 0 ∨ y % 400 = 0))
/-- one day more, or none -/
def lv (y : Int) : Int := if y % 4 = 0 ∧ (y % 100 ≠ 0 ∨ y % 400 = 0) then 1 else 0
theorem lv_leap (y : Int) : lv y = if leap y = true then 1 else 0 := by simp [lv, leap]
theorem lv_bd (y : Int) : 0 ≤ lv y ∧ lv y ≤ 1 := by unfold lv; split <;> omega
/-- P2.1 -/
def last (y m : Int) : Int := if m < 1 ∨ 12 < m then 0 else if m = 2 then 28 + lv y else if m = 4 ∨ m = 6 ∨ m = 9 ∨ m = 11 then 30 else 31
theorem last_bd (y m : Int) (h1 : 1 ≤ m) (h2 : m ≤ 12) : 28 ≤ last y m ∧ last y m ≤ 31 := by
  have := lv_bd y
  unfold last
  repeat' split
  all_goals omega
theorem last_bd0 (y m : Int) : 0 ≤ last y m ∧ last y m ≤ 31 := by
  have := lv_bd y
  unfold last
  repeat' split
  all_goals omega

/-- the years' first days -/
def ys (y : Int) : Int := (y - 1900) * 365 + ((y - 1) / 4 - (y - 1) / 100 + (y - 1) / 400) - 460
theorem ys_succ (y : Int) : ys (y + 1) = ys y + 365 + lv y := by
  unfold ys lv
  split <;> omega
theorem ys_0 : ys 1900 = 0 := by decide
theorem ys_end : ys 2200 = 109573 := by decide

/-- the months' first days in a year -/
def ms (y m : Int) : Int := if m ≤ 1 then 0 else if m = 2 then 31 else 59 + lv y + (153 * (m - 3) + 2) / 5
theorem ms_1 (y : Int) : ms y 1 = 0 := by simp [ms]
theorem ms_succ (y m : Int) (h1 : 1 ≤ m) (h2 : m ≤ 12) : ms y (m + 1) = ms y m + last y m := by
  have : m = 1 ∨ m = 2 ∨ m = 3 ∨ m = 4 ∨ m = 5 ∨ m = 6 ∨ m = 7 ∨ m = 8 ∨ m = 9 ∨ m = 10 ∨ m = 11 ∨ m = 12 := by omega
  rcases this with rfl | rfl | rfl | rfl | rfl | rfl | rfl | rfl | rfl | rfl | rfl | rfl <;> simp [ms, last] <;> omega
theorem ms_13 (y : Int) : ms y 13 = 365 + lv y := by simp [ms]; omega
theorem ms_bd (y m : Int) (h1 : 1 ≤ m) (h2 : m ≤ 13) : 0 ≤ ms y m ∧ ms y m ≤ 366 := by
  have := lv_bd y
  unfold ms
  repeat' split
  all_goals omega

/-- the day on which month k (0: January 1900) begins -/
def bg (k : Int) : Int := ys (1900 + k / 12) + ms (1900 + k / 12) (k % 12 + 1)
/-- how long month k is -/
def ln (k : Int) : Int := last (1900 + k / 12) (k % 12 + 1)
theorem ln_bd (k : Int) : 28 ≤ ln k ∧ ln k ≤ 31 := last_bd _ _ (by omega) (by omega)
theorem bg_succ (k : Int) : bg (k + 1) = bg k + ln k := by
  unfold bg ln
  by_cases h : k % 12 = 11
  · have e1 : (k + 1) / 12 = k / 12 + 1 := by omega
    have e2 : (k + 1) % 12 = 0 := by omega
    have e3 := ys_succ (1900 + k / 12)
    have e4 := ms_succ (1900 + k / 12) 12 (by omega) (by omega)
    have e5 := ms_13 (1900 + k / 12)
    rw [e1, e2, h, show 1900 + (k / 12 + 1) = 1900 + k / 12 + 1 by omega, e3, show (0 : Int) + 1 = 1 by omega, ms_1]
    rw [show (11 : Int) + 1 = 12 by omega]
    rw [show (12 : Int) + 1 = 13 by omega] at e4
    omega
  · have e1 : (k + 1) / 12 = k / 12 := by omega
    have e2 : (k + 1) % 12 = k % 12 + 1 := by omega
    rw [e1, e2, ms_succ _ _ (by omega) (by omega)]
    omega
theorem bg_0 : bg 0 = 0 := by decide
theorem bg_end : bg 3600 = 109573 := by decide
theorem bg_add (k : Int) (j : Nat) : bg k + 28 * j ≤ bg (k + j) := by
  induction j with
  | zero => simp
  | succ j ih =>
    have e : k + ((j + 1 : Nat) : Int) = k + j + 1 := by omega
    rw [e, bg_succ]
    have := ln_bd (k + j)
    omega
theorem bg_le {j k : Int} (h : j ≤ k) : bg j + 28 * (k - j) ≤ bg k := by
  have := bg_add j (k - j).toNat
  have e : j + ((k - j).toNat : Int) = k := by omega
  rw [e] at this
  omega
theorem bg_add31 (k : Int) (j : Nat) : bg (k + j) ≤ bg k + 31 * j := by
  induction j with
  | zero => simp
  | succ j ih =>
    have e : k + ((j + 1 : Nat) : Int) = k + j + 1 := by omega
    rw [e, bg_succ]
    have := ln_bd (k + j)
    omega
theorem bg_le31 {j k : Int} (h : j ≤ k) : bg k ≤ bg j + 31 * (k - j) := by
  have := bg_add31 j (k - j).toNat
  have e : j + ((k - j).toNat : Int) = k := by omega
  rw [e] at this
  omega
theorem bg_mono {j k : Int} (h : j ≤ k) : bg j ≤ bg k := by have := bg_le h; omega
theorem bg_lt {j k : Int} (h : bg j < bg k) : j < k := by
  apply Classical.byContradiction
  intro hn
  have := bg_mono (j := k) (k := j) (by omega)
  omega

/-- day n is the day d (from 0 on) of month k -/
structure At (n k d : Int) : Prop where
  k0 : 0 ≤ k
  k1 : k < 3600
  d0 : 0 ≤ d
  d1 : d < ln k
  eq : n = bg k + d

theorem At.nn {n k d : Int} (h : At n k d) : 0 ≤ n ∧ n ≤ 109572 := by
  have h1 := bg_mono h.k0
  have h2 := bg_mono (j := k + 1) (k := 3600) (by have := h.k1; omega)
  rw [bg_0] at h1
  rw [bg_end, bg_succ] at h2
  have := h.d0; have := h.d1; have := h.eq
  omega
theorem At.lo {n k d : Int} (h : At n k d) : bg k ≤ n := by have := h.eq; have := h.d0; omega
theorem At.hi {n k d : Int} (h : At n k d) : n < bg (k + 1) := by rw [bg_succ]; have := h.eq; have := h.d1; omega
theorem at_of {n k : Int} (h0 : 0 ≤ k) (h1 : k < 3600) (h2 : bg k ≤ n) (h3 : n < bg (k + 1)) : At n k (n - bg k) :=
  ⟨h0, h1, by omega, by rw [bg_succ] at h3; omega, by omega⟩
theorem At.uniq {n k d k' d' : Int} (h : At n k d) (h' : At n k' d') : k = k' ∧ d = d' := by
  have a := h.lo; have b := h.hi; have a' := h'.lo; have b' := h'.hi
  have c1 := bg_lt (j := k) (k := k' + 1) (by omega)
  have c2 := bg_lt (j := k') (k := k + 1) (by omega)
  have e : k = k' := by omega
  refine ⟨e, ?_⟩
  have := h.eq; have := h'.eq
  rw [e] at *
  omega
theorem at_ex_below (m : Nat) (n : Int) (h0 : 0 ≤ n) (h : n < bg m) : ∃ k : Int, 0 ≤ k ∧ k < m ∧ bg k ≤ n ∧ n < bg (k + 1) := by
  induction m with
  | zero => rw [show ((0 : Nat) : Int) = 0 from rfl, bg_0] at h; omega
  | succ m ih =>
    by_cases hm : n < bg m
    · obtain ⟨k, a, b, c⟩ := ih hm
      exact ⟨k, a, by omega, c⟩
    · exact ⟨m, by omega, by omega, by omega, h⟩
theorem at_ex (n : Int) (h0 : 0 ≤ n) (h1 : n ≤ 109572) : ∃ k d, At n k d := by
  obtain ⟨k, a, b, c, d⟩ := at_ex_below 3600 n h0 (by rw [show ((3600 : Nat) : Int) = 3600 from rfl, bg_end]; omega)
  exact ⟨k, _, at_of a (by omega) c d⟩

/-- a date's year and month lead to its month number -/
theorem ym {y m : Int} (h1 : 1 ≤ m) (h2 : m ≤ 12) : 1900 + (12 * (y - 1900) + m - 1) / 12 = y ∧ (12 * (y - 1900) + m - 1) % 12 + 1 = m := by omega
theorem ln_ym {y m : Int} (h1 : 1 ≤ m) (h2 : m ≤ 12) : ln (12 * (y - 1900) + m - 1) = last y m := by
  have ⟨a, b⟩ := ym (y := y) h1 h2
  unfold ln; rw [a, b]
theorem bg_ym {y m : Int} (h1 : 1 ≤ m) (h2 : m ≤ 12) : bg (12 * (y - 1900) + m - 1) = ys y + ms y m := by
  have ⟨a, b⟩ := ym (y := y) h1 h2
  unfold bg; rw [a, b]

theorem ys_le {y z : Int} (h : y ≤ z) : ys y + 365 * (z - y) ≤ ys z := by
  unfold ys; omega
theorem ys_le366 {y z : Int} (h : y ≤ z) : ys z ≤ ys y + 366 * (z - y) := by
  unfold ys; omega

theorem tmod_zero (y c : Int) : y.tmod c = 0 ↔ y % c = 0 := by
  exact ⟨fun h => Int.emod_eq_zero_of_dvd (Int.dvd_of_tmod_eq_zero h), fun h => Int.tmod_eq_zero_of_dvd (Int.dvd_of_emod_eq_zero h)⟩
theorem leap_tmod (y : Int) : leap y = decide (y.tmod 4 = 0 ∧ (y.tmod 100 ≠ 0 ∨ y.tmod 400 = 0)) := by
  unfold leap
  rw [decide_eq_decide, tmod_zero y 4, tmod_zero y 400, ne_eq, ne_eq, tmod_zero y 100]

/-- a common year's months -/
def md : List Int := [31, 28, 31, 30, 31, 30, 31, 31, 30, 31, 30, 31]
theorem last_leap (y : Int) (h : leap y = true) : last y 2 = 29 := by
  have := lv_leap y
  rw [if_pos h] at this
  simp [last, this]
theorem last_md (y : Int) (i : Nat) (hi : i < 12) (h : i = 1 → leap y = false) : last y ((i : Int) + 1) = md.getD i 0 := by
  have : i = 0 ∨ i = 1 ∨ i = 2 ∨ i = 3 ∨ i = 4 ∨ i = 5 ∨ i = 6 ∨ i = 7 ∨ i = 8 ∨ i = 9 ∨ i = 10 ∨ i = 11 := by omega
  have hl := lv_leap y
  rcases this with rfl | rfl | rfl | rfl | rfl | rfl | rfl | rfl | rfl | rfl | rfl | rfl
  case inr.inl =>
    rw [h rfl] at hl
    simp at hl
    simp [last, md, hl]
  all_goals simp [last, md]
theorem last_no (y m : Int) (h : m < 1 ∨ 12 < m) : last y m = 0 := by simp [last, h]
theorem leaps_tdiv (y : Int) (h : 0 ≤ y) : y.tdiv 4 = y / 4 ∧ y.tdiv 100 = y / 100 ∧ y.tdiv 400 = y / 400 := by
  refine ⟨Int.tdiv_eq_ediv_of_nonneg h, Int.tdiv_eq_ediv_of_nonneg h, Int.tdiv_eq_ediv_of_nonneg h⟩
theorem ys_bd (y : Int) (h1 : 1900 ≤ y) (h2 : y ≤ 2200) : 0 ≤ ys y ∧ ys y ≤ 109573 := by
  have a := ys_le h1; have b := ys_le h2
  rw [ys_0] at a; rw [ys_end] at b
  omega

theorem ms_le (y i j : Int) (h1 : 1 ≤ i) (h2 : i ≤ j) (h3 : j ≤ 13) : ms y i ≤ ms y j := by
  have := lv_bd y
  unfold ms
  repeat' split
  all_goals omega
theorem bg_year (q : Int) : bg (12 * q) = ys (1900 + q) := by
  unfold bg
  have e1 : 12 * q / 12 = q := by omega
  have e2 : 12 * q % 12 = 0 := by omega
  rw [e1, e2, show (0 : Int) + 1 = 1 by omega, ms_1]
  omega
theorem At.year {n k d : Int} (h : At n k d) : ys (1900 + k / 12) ≤ n ∧ n < ys (1900 + k / 12 + 1) := by
  have a := h.lo; have b := h.hi
  have c := bg_mono (j := 12 * (k / 12)) (k := k) (by omega)
  have e := bg_mono (j := k + 1) (k := 12 * (k / 12 + 1)) (by omega)
  rw [bg_year] at c e
  rw [show 1900 + k / 12 + 1 = 1900 + (k / 12 + 1) by omega]
  omega
theorem At.rest {n k d : Int} (h : At n k d) : n - ys (1900 + k / 12) - ms (1900 + k / 12) (k % 12 + 1) = d := by
  have := h.eq
  unfold bg at this
  omega
theorem guess {n Y : Int} (h0 : 0 ≤ n) (hY : n < ys (Y + 1)) : 1900 + n / 366 ≤ Y := by
  apply Classical.byContradiction
  intro hn
  have a := ys_le (y := Y + 1) (z := 1900 + n / 366) (by omega)
  have b := ys_le366 (y := 1900) (z := 1900 + n / 366) (by omega)
  rw [ys_0] at b
  omega

/-- P2.2: the number and the error -/
def num (y m d : Int) : Int × Int := if d < 1 ∨ last y m < d then (0, 20) else if y < 1900 ∨ 2199 < y then (0, 21) else (ys y + ms y m + d - 1, 0)
/-- P2.3: the date and the error -/
inductive Dat (n : Int) : Int → Int → Int → Int → Prop
  | yes (k d : Int) (h : At n k d) : Dat n (1900 + k / 12) (k % 12 + 1) (d + 1) 0
  | no (h : ¬ (0 ≤ n ∧ n ≤ 109572)) : Dat n 0 0 0 21
theorem dat_ex (n : Int) : ∃ y m d e, Dat n y m d e := by
  by_cases h : 0 ≤ n ∧ n ≤ 109572
  · obtain ⟨k, d, hk⟩ := at_ex n h.1 h.2
    exact ⟨_, _, _, _, .yes k d hk⟩
  · exact ⟨_, _, _, _, .no h⟩
/-- P2.3: the weekday and the error -/
def wk (n : Int) : Int × Int := if 0 ≤ n ∧ n ≤ 109572 then (n % 7 + 1, 0) else (0, 21)

/-- P2.4: so many months later: the same day of the month, or the month's last -/
def addv (k d by' : Int) : Int := bg (k + by') + (if d ≤ ln (k + by') - 1 then d else ln (k + by') - 1)
inductive AddIs (n by' : Int) : Int → Int → Prop
  | no (h : ¬ (0 ≤ n ∧ n ≤ 109572)) : AddIs n by' 0 21
  | out (k d : Int) (h : At n k d) (hk : k + by' < 0 ∨ 3600 ≤ k + by') : AddIs n by' 0 21
  | yes (k d : Int) (h : At n k d) (h0 : 0 ≤ k + by') (h1 : k + by' < 3600) : AddIs n by' (addv k d by') 0
theorem add_ex (n by' : Int) : ∃ v e, AddIs n by' v e := by
  by_cases h : 0 ≤ n ∧ n ≤ 109572
  · obtain ⟨k, d, hk⟩ := at_ex n h.1 h.2
    by_cases h1 : 0 ≤ k + by' ∧ k + by' < 3600
    · exact ⟨_, _, .yes k d hk h1.1 h1.2⟩
    · exact ⟨_, _, .out k d hk (by omega)⟩
  · exact ⟨_, _, .no h⟩
theorem addv_at {n k d by' : Int} (h : At n k d) (h0 : 0 ≤ k + by') (h1 : k + by' < 3600) : At (addv k d by') (k + by') (if d ≤ ln (k + by') - 1 then d else ln (k + by') - 1) := by
  have := h.d0
  have := ln_bd (k + by')
  refine ⟨h0, h1, ?_, ?_, rfl⟩
  · split <;> omega
  · split <;> omega
/-- P2.5 -/
def whole (k1 d1 k2 b : Int) : Int := if b < addv k1 d1 (k2 - k1) then k2 - k1 - 1 else k2 - k1
inductive BetIs (a b : Int) : Int → Int → Prop
  | no (h : ¬ ((0 ≤ a ∧ a ≤ 109572) ∧ (0 ≤ b ∧ b ≤ 109572))) : BetIs a b 0 21
  | le (k1 d1 k2 d2 : Int) (h1 : At a k1 d1) (h2 : At b k2 d2) (h : a ≤ b) : BetIs a b (whole k1 d1 k2 b) 0
  | gt (k1 d1 k2 d2 : Int) (h1 : At a k1 d1) (h2 : At b k2 d2) (h : b < a) : BetIs a b (-(whole k2 d2 k1 a)) 0
theorem bet_ex (a b : Int) : ∃ v e, BetIs a b v e := by
  by_cases h : (0 ≤ a ∧ a ≤ 109572) ∧ (0 ≤ b ∧ b ≤ 109572)
  · obtain ⟨k1, d1, h1⟩ := at_ex a h.1.1 h.1.2
    obtain ⟨k2, d2, h2⟩ := at_ex b h.2.1 h.2.2
    by_cases hl : a ≤ b
    · exact ⟨_, _, .le k1 d1 k2 d2 h1 h2 hl⟩
    · exact ⟨_, _, .gt k1 d1 k2 d2 h1 h2 (by omega)⟩
  · exact ⟨_, _, .no h⟩
theorem At.le {a b k1 d1 k2 d2 : Int} (h1 : At a k1 d1) (h2 : At b k2 d2) (h : a ≤ b) : k1 ≤ k2 := by
  have := bg_lt (j := k1) (k := k2 + 1) (by have := h1.lo; have := h2.hi; omega)
  omega
theorem whole_bd {a b k1 d1 k2 d2 : Int} (h1 : At a k1 d1) (h2 : At b k2 d2) (h : a ≤ b) : 0 ≤ whole k1 d1 k2 b ∧ whole k1 d1 k2 b ≤ 3600 := by
  have hk := h1.le h2 h
  have := h1.k0; have := h2.k1
  unfold whole
  by_cases he : k1 = k2
  · subst he
    have hd := h1.d1
    rw [if_neg]
    · omega
    · unfold addv
      rw [show k1 + (k1 - k1) = k1 by omega, if_pos (by omega)]
      have := h1.eq
      omega
  · split <;> omega

/-- a number brought into the calendar -/
def dn (n : Int) : Int := if n < 0 then (-(n + 1)) % 109573 else n % 109573
theorem dn_bd (n : Int) : 0 ≤ dn n ∧ dn n ≤ 109572 := by unfold dn; split <;> omega
theorem at_known : At 36583 1201 28 := ⟨by omega, by omega, by omega, by decide, by decide⟩
theorem dat_known : Dat 36583 2000 2 29 0 := .yes 1201 28 at_known

end D
end Go.Proofs.YtoippgmecnlhcaaGreatDoor


namespace Go.Proofs.YtoippgmecnlhcaaGreatDoor
open Go.RowKit

theorem wrap64_id {z : Int} (h1 : -9000000000000000000 ≤ z) (h2 : z ≤ 9000000000000000000) : wrap64 z = z := by unfold wrap64; omega
theorem ret_bool {a b : Bool} (h : a = b) : Ending.returned (.bool a) = .returned (.bool b) := by rw [h]
theorem ret_int {a b : Int} (h : a = b) : Ending.returned (.int .i64 a) = .returned (.int .i64 b) := by rw [h]

theorem isDay_any (n : Int) (w : World) : Calls Tryz.prog 67 #[.int .i64 n] w fun e w' => e = .returned (.bool (decide (0 ≤ n ∧ n ≤ 109572))) ∧ w' = w := by
  by_cases h : 0 ≤ n
  · go_enter Tryz.func67, Tryz.ntmps67
    go_wp2
    go_ret
    exact ⟨by simp [h], rfl⟩
  · go_enter Tryz.func67, Tryz.ntmps67
    go_wp2
    go_ret
    exact ⟨ret_bool (by simp; omega), rfl⟩
theorem isDay_yes (n : Int) (h0 : 0 ≤ n) (h1 : n ≤ 109572) (w : World) : Calls Tryz.prog 67 #[.int .i64 n] w fun e w' => e = .returned (.bool true) ∧ w' = w := by
  have := isDay_any n w
  rwa [decide_eq_true ⟨h0, h1⟩] at this
theorem isDay_no (n : Int) (h : ¬ (0 ≤ n ∧ n ≤ 109572)) (w : World) : Calls Tryz.prog 67 #[.int .i64 n] w fun e w' => e = .returned (.bool false) ∧ w' = w := by
  have := isDay_any n w
  rwa [decide_eq_false h] at this


end Go.Proofs.YtoippgmecnlhcaaGreatDoor


namespace Go.Proofs.YtoippgmecnlhcaaGreatDoor
open Go.RowKit

theorem leap_any (y : Int) (w : World) : Calls Tryz.prog 121 #[.int .i64 y] w fun e w' => e = .returned (.bool (D.leap y)) ∧ w' = w := by
  rw [D.leap_tmod]
  by_cases h4 : y.tmod 4 = 0
  · by_cases h100 : y.tmod 100 = 0
    · go_enter Tryz.func121, Tryz.ntmps121
      go_wp2
      go_ret
      exact ⟨ret_bool (by rw [Bool.eq_iff_iff]; simp [h4, h100]), rfl⟩
    · go_enter Tryz.func121, Tryz.ntmps121
      go_wp2
      go_ret
      exact ⟨by simp [h4, h100], rfl⟩
  · go_enter Tryz.func121, Tryz.ntmps121
    go_wp2
    go_ret
    exact ⟨by simp [h4], rfl⟩

theorem isYear_any (n : Int) (w : World) : Calls Tryz.prog 123 #[.int .i64 n] w fun e w' => e = .returned (.bool (decide (1900 ≤ n ∧ n ≤ 2199))) ∧ w' = w := by
  by_cases h : 1900 ≤ n
  · go_enter Tryz.func123, Tryz.ntmps123
    go_wp2
    go_ret
    exact ⟨by simp [h], rfl⟩
  · go_enter Tryz.func123, Tryz.ntmps123
    go_wp2
    go_ret
    exact ⟨ret_bool (by simp; omega), rfl⟩
theorem isYear_yes (n : Int) (h0 : 1900 ≤ n) (h1 : n ≤ 2199) (w : World) : Calls Tryz.prog 123 #[.int .i64 n] w fun e w' => e = .returned (.bool true) ∧ w' = w := by
  have := isYear_any n w
  rwa [decide_eq_true ⟨h0, h1⟩] at this
theorem isYear_no (n : Int) (h : ¬ (1900 ≤ n ∧ n ≤ 2199)) (w : World) : Calls Tryz.prog 123 #[.int .i64 n] w fun e w' => e = .returned (.bool false) ∧ w' = w := by
  have := isYear_any n w
  rwa [decide_eq_false h] at this

/-- The table of the months lies where the initialiser laid it. -/
def Mon (w : World) : Prop := 4 < w.heap.size ∧ ∀ i : Nat, i < 12 → w.cell? ⟨4, i, none⟩ = some (.int .i64 (D.md.getD i 0))

theorem Mon.later {w w' : World} (hM : Mon w) (hb : Below w.heap.size w w') : Mon w' :=
  ⟨Nat.lt_of_lt_of_le hM.1 hb.size, fun i hi => (hb.cell (p := ⟨4, i, none⟩) hM.1).trans (hM.2 i hi)⟩
theorem Mon.alloc {w : World} (hM : Mon w) (o : Obj) : Mon (w.alloc o) := hM.later ((Below.refl _ _).alloc (Nat.le_refl _) _)
theorem Mon.drew {w : World} (hM : Mon w) : Mon w.drew := hM.later (Below.refl _ _).drew
theorem Mon.drewN {w : World} (hM : Mon w) (n : Nat) : Mon (w.drewN n) := hM.later (below_drewN (Below.refl _ _) n)

theorem last_out (y m : Int) (h : m < 1 ∨ 12 < m) (w : World) : Calls Tryz.prog 91 #[.int .i64 y, .int .i64 m] w fun e w' => e = .returned (.int .i64 0) ∧ w' = w := by
  rcases h with h | h
  · go_enter Tryz.func91, Tryz.ntmps91
    go_wp2
    go_ret
    exact ⟨rfl, rfl⟩
  · have h1 : ¬ m < 1 := by omega
    go_enter Tryz.func91, Tryz.ntmps91
    go_wp2
    go_ret
    exact ⟨rfl, rfl⟩

theorem last_feb (y : Int) (h : D.leap y = true) (w : World) (hM : Mon w) : Calls Tryz.prog 91 #[.int .i64 y, .int .i64 2] w fun e w' => e = .returned (.int .i64 29) ∧ w' = w := by
  have h1 := hM.2 1 (by omega)
  have hl := leap_any y w
  rw [h] at hl
  clear hM
  simp [D.md] at h1
  go_enter Tryz.func91, Tryz.ntmps91
  go_wp2_with (go_at_call 121; refine hl.mono ?_; rintro e w' ⟨rfl, rfl⟩)
  go_ret
  exact ⟨rfl, rfl⟩

theorem last_in (y : Int) (i : Nat) (hi : i < 12) (h : i = 1 → D.leap y = false) (w : World) (hM : Mon w) : Calls Tryz.prog 91 #[.int .i64 y, .int .i64 ((i : Int) + 1)] w fun e w' => e = .returned (.int .i64 (D.md.getD i 0)) ∧ w' = w := by
  have h1 := hM.2 i hi
  have hl := leap_any y w
  generalize D.md.getD i 0 = r at *
  have a1 : ¬ (i : Int) + 1 < 1 := by omega
  have a2 : (i : Int) + 1 ≤ 12 := by omega
  have a3 : wrap64 ((i : Int) + 1 - 1) = i := by rw [wrap64_id] <;> omega
  by_cases h2 : i = 1
  · subst h2
    rw [h rfl] at hl
    go_enter Tryz.func91, Tryz.ntmps91
    go_wp2_with (go_at_call 121; refine hl.mono ?_; rintro e w' ⟨rfl, rfl⟩)
    go_ret
    exact ⟨rfl, rfl⟩
  · have a4 : ((i : Int) + 1 == 2) = false := by simp; omega
    clear hl h h2
    have a5 : (i : Int) < 12 := by omega
    have a6 : 0 ≤ (i : Int) := by omega
    go_enter Tryz.func91, Tryz.ntmps91
    go_wp2
    go_ret
    exact ⟨rfl, rfl⟩

theorem last_any (y m : Int) (w : World) (hM : Mon w) (L : Int) (hL : L = D.last y m) : Calls Tryz.prog 91 #[.int .i64 y, .int .i64 m] w fun e w' => e = .returned (.int .i64 L) ∧ w' = w := by
  by_cases h : m < 1 ∨ 12 < m
  · rw [hL, D.last_no y m h]
    exact last_out y m h w
  · by_cases h2 : m = 2 ∧ D.leap y = true
    · obtain ⟨rfl, h3⟩ := h2
      rw [hL, D.last_leap y h3]
      exact last_feb y h3 w hM
    · obtain ⟨i, hi⟩ : ∃ i : Nat, m = (i : Int) + 1 := ⟨(m - 1).toNat, by omega⟩
      have h4 : i = 1 → D.leap y = false := by
        intro h5
        cases h6 : D.leap y with
        | false => rfl
        | true => exact absurd ⟨by omega, h6⟩ h2
      rw [hL, hi, D.last_md y i (by omega) h4]
      exact last_in y i (by omega) h4 w hM

end Go.Proofs.YtoippgmecnlhcaaGreatDoor


namespace Go.Proofs.YtoippgmecnlhcaaGreatDoor
open Go.RowKit

theorem leaps_any (y : Int) (h0 : 0 ≤ y) (h1 : y ≤ 10000) (w : World) : Calls Tryz.prog 120 #[.int .i64 y] w fun e w' => e = .returned (.int .i64 (y / 4 - y / 100 + y / 400)) ∧ w' = w := by
  obtain ⟨e1, e2, e3⟩ := D.leaps_tdiv y h0
  have e4 : wrap64 (y / 4 - y / 100) = y / 4 - y / 100 := wrap64_id (by omega) (by omega)
  have e5 : wrap64 (y / 4 - y / 100 + y / 400) = y / 4 - y / 100 + y / 400 := wrap64_id (by omega) (by omega)
  go_enter Tryz.func120, Tryz.ntmps120
  go_wp2
  go_ret
  exact ⟨rfl, rfl⟩

theorem yearStart_any (y : Int) (h0 : 1900 ≤ y) (h1 : y ≤ 2200) (w : World) : Calls Tryz.prog 90 #[.int .i64 y] w fun e w' => e = .returned (.int .i64 (D.ys y)) ∧ w' = w := by
  have hy := D.ys_bd y h0 h1
  have e1 : wrap64 (y - 1) = y - 1 := wrap64_id (by omega) (by omega)
  have hA := leaps_any (y - 1) (by omega) (by omega) w
  have hB := leaps_any 1899 (by omega) (by omega) w
  obtain ⟨A, hAe⟩ : ∃ A, A = (y - 1) / 4 - (y - 1) / 100 + (y - 1) / 400 := ⟨_, rfl⟩
  have bA : 0 ≤ A ∧ A ≤ 1000 := by omega
  rw [← hAe] at hA
  have e2 : (1899 : Int) / 4 - 1899 / 100 + 1899 / 400 = 460 := by decide
  rw [e2] at hB
  have hys : D.ys y = (y - 1900) * 365 + A - 460 := by rw [hAe]; rfl
  clear hAe e2
  go_enter Tryz.func90, Tryz.ntmps90
  go_wp2_with (first | (go_at_call 120; refine hA.mono ?_; clear hA; rintro e w' ⟨rfl, rfl⟩) | (go_at_call 120; refine hB.mono ?_; clear hB; rintro e w' ⟨rfl, rfl⟩))
  go_ret
  exact ⟨ret_int (by rw [hys]), rfl⟩

end Go.Proofs.YtoippgmecnlhcaaGreatDoor


namespace Go.Proofs.YtoippgmecnlhcaaGreatDoor
open Go.RowKit

/-- A variable of three cells. -/
def Box3 (w : World) (b : Nat) (x y z : Value) : Prop := w.cell? ⟨b, 0, none⟩ = some x ∧ w.cell? ⟨b, 1, none⟩ = some y ∧ w.cell? ⟨b, 2, none⟩ = some z ∧ w.frozen? ⟨b, 0, none⟩ = false ∧ w.frozen? ⟨b, 1, none⟩ = false ∧ w.frozen? ⟨b, 2, none⟩ = false
theorem Box3.lt {w : World} {b : Nat} {x y z : Value} (h : Box3 w b x y z) : b < w.heap.size := World.block_lt_of_cell? _ _ h.1
theorem Box3.later {w w' : World} {b : Nat} {x y z : Value} (h : Box3 w b x y z) (hb : Below w.heap.size w w') : Box3 w' b x y z := by
  have hl := h.lt
  obtain ⟨h0, h1, h2, h3, h4, h5⟩ := h
  exact ⟨(hb.cell (p := ⟨b, 0, none⟩) hl).trans h0, (hb.cell (p := ⟨b, 1, none⟩) hl).trans h1, (hb.cell (p := ⟨b, 2, none⟩) hl).trans h2, (hb.frozen (p := ⟨b, 0, none⟩) hl).trans h3, (hb.frozen (p := ⟨b, 1, none⟩) hl).trans h4, (hb.frozen (p := ⟨b, 2, none⟩) hl).trans h5⟩
theorem Box3.alloc {w : World} {b : Nat} {x y z : Value} (h : Box3 w b x y z) (o : Obj) : Box3 (w.alloc o) b x y z := h.later ((Below.refl _ _).alloc (Nat.le_refl _) _)
theorem Box3.drew {w : World} {b : Nat} {x y z : Value} (h : Box3 w b x y z) : Box3 w.drew b x y z := h.later (Below.refl _ _).drew
theorem Box3.drewN {w : World} {b : Nat} {x y z : Value} (h : Box3 w b x y z) (n : Nat) : Box3 (w.drewN n) b x y z := h.later (below_drewN (Below.refl _ _) n)
theorem Box3.new (w : World) (x y z : Value) (t : TypeId) : Box3 (w.alloc (.cells #[x, y, z] t)) w.heap.size x y z := by
  refine ⟨?_, ?_, ?_, ?_, ?_, ?_⟩
  · rw [World.cell?_alloc_at _ _ _ _ rfl]; rfl
  · rw [World.cell?_alloc_at _ _ _ _ rfl]; rfl
  · rw [World.cell?_alloc_at _ _ _ _ rfl]; rfl
  · exact World.frozen?_alloc_at _ _ _ _ rfl
  · exact World.frozen?_alloc_at _ _ _ _ rfl
  · exact World.frozen?_alloc_at _ _ _ _ rfl
theorem Box3.of {w : World} {b c : Nat} {x y z : Value} (h : Box3 w b x y z) (e : b = c) : Box3 w c x y z := e ▸ h

/-- One call behind the other. -/
theorem below_step {w X w1 : World} (h : Below w.heap.size w X) (hb : Below X.heap.size X w1) : Below w.heap.size w w1 := h.trans (hb.mono h.size)

def Hid (p : Prop) : Prop := p
theorem Hid.out {p : Prop} (h : Hid p) : p := h

theorem numberOf_any (y m d : Int) (hy0 : 1900 ≤ y) (hy1 : y ≤ 2199) (hm0 : 1 ≤ m) (hm1 : m ≤ 12) (hd0 : -100 ≤ d) (hd1 : d ≤ 100) (w : World) (hM : Mon w) :
    Calls Tryz.prog 124 #[.agg #[.int .i64 y, .int .i64 m, .int .i64 d]] w fun e w' => e = .returned (.int .i64 (D.ys y + D.ms y m + d - 1)) ∧ Below w.heap.size w w' := by
  have hB := Box3.new w (.int .i64 y) (.int .i64 m) (.int .i64 d) 144
  have hYs := fun W => yearStart_any y hy0 (by omega) W
  have by' := D.ys_bd y hy0 (by omega)
  have bm := D.ms_bd y m hm0 (by omega)
  have hM1 := hM.alloc (.cells #[.int .i64 y, .int .i64 m, .int .i64 d] 144)
  have e1 : wrap64 (D.ys y + d) = D.ys y + d := wrap64_id (by omega) (by omega)
  have e2 : wrap64 (D.ys y + d - 1) = D.ys y + d - 1 := wrap64_id (by omega) (by omega)
  obtain ⟨b0, b1, b2, -, -, -⟩ := id hB
  go_enter Tryz.func124, Tryz.ntmps124
  go_wp2
  go_quiet ((go_at_call 90; exact Calls.quiet_of_same (hYs _)))
  go_wp2
  go_loopw [3, 4] (fun v x wr => ∃ j : Int, x = .int .i64 j ∧ 1 ≤ j ∧ j ≤ m ∧ v = .int .i64 (D.ys y + d - 1 + D.ms y j) ∧ Mon wr ∧ Box3 wr w.heap.size (.int .i64 y) (.int .i64 m) (.int .i64 d) ∧ Below w.heap.size w wr) (fun _ x _ => (m - intOf x).toNat)
  case atStart => exact ⟨1, rfl, by omega, by omega, by rw [D.ms_1]; simp, hM1.drewN _, hB.drewN _, below_drewN ((Below.refl _ _).alloc (Nat.le_refl _) _) _⟩
  case round =>
    obtain ⟨j, rfl, j1, j2, rfl, hMr, hBr, hbr⟩ := hrel
    obtain ⟨b0, b1, b2, -, -, -⟩ := id hBr
    by_cases hj : j = m
    · subst hj
      go_wp2
      go_ret
      exact ⟨ret_int (by omega), hbr⟩
    · have hlt : j < m := by omega
      have bl := D.last_bd y j j1 (by omega)
      have es := D.ms_succ y j j1 (by omega)
      have bj := D.ms_bd y j j1 (by omega)
      have hL := last_any y j wr hMr _ rfl
      generalize D.last y j = L at *
      generalize D.ms y j = S at *
      have e3 : wrap64 (D.ys y + d - 1 + S + L) = D.ys y + d - 1 + S + L := wrap64_id (by omega) (by omega)
      have e4 : wrap64 (j + 1) = j + 1 := wrap64_id (by omega) (by omega)
      go_wp2_with (go_at_call 91; refine hL.mono ?_; rintro e w' ⟨rfl, rfl⟩)
      go_roundw
      case rel => exact ⟨j + 1, rfl, by omega, by omega, by rw [es]; simp only [Int.add_assoc], hMr, hBr, hbr⟩
      case measure => simp [intOf]; omega

end Go.Proofs.YtoippgmecnlhcaaGreatDoor


namespace Go.Proofs.YtoippgmecnlhcaaGreatDoor
open Go.RowKit

/-- What a call leaves as it is. -/
def Stb (P : World → Prop) : Prop := ∀ X w1 : World, P X → Below X.heap.size X w1 → P w1
theorem stb_cell {b o : Nat} {v : Value} : Stb (fun X => X.cell? ⟨b, o, none⟩ = some v) := fun _ _ h hb => (hb.cell (p := ⟨b, o, none⟩) (World.block_lt_of_cell? _ _ h)).trans h
theorem stb_mon : Stb Mon := fun _ _ h hb => h.later hb
theorem stb_below {w0 : World} : Stb (fun X => Below w0.heap.size w0 X) := fun _ _ h hb => below_step h hb
theorem stb_box {b : Nat} {x y z : Value} : Stb (fun X => Box3 X b x y z) := fun _ _ h hb => h.later hb
theorem Stb.and {P Q : World → Prop} (hP : Stb P) (hQ : Stb Q) : Stb (fun X => P X ∧ Q X) := fun X w1 h hb => ⟨hP X w1 h.1 hb, hQ X w1 h.2 hb⟩
theorem heldP {P : World → Prop} (hst : Stb P) {X : World} {f : Nat} {args : Array Value} {R : Ending} (h : P X)
    (hc : P X → Calls Tryz.prog f args X fun e w' => e = R ∧ Below X.heap.size X w') : Calls Tryz.prog f args X fun e w' => e = R ∧ P w' :=
  (hc h).mono fun _ _ ⟨he, hb⟩ => ⟨he, hst X _ h hb⟩
theorem same_below {X : World} {f : Nat} {args : Array Value} {R : Ending} (hc : Calls Tryz.prog f args X fun e w' => e = R ∧ w' = X) : Calls Tryz.prog f args X fun e w' => e = R ∧ Below X.heap.size X w' :=
  hc.mono fun _ _ ⟨he, hw⟩ => ⟨he, hw ▸ Below.refl _ _⟩

end Go.Proofs.YtoippgmecnlhcaaGreatDoor
