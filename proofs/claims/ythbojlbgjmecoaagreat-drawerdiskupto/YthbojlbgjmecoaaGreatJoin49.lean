import Derived.Test.YthbojlbgjmecoaaGreatJoin31
namespace Go.Proofs.YthbojlbgjmecoaaGreat
open Go.RowKit

theorem below_of {W A B : World} (h : Below W.heap.size W A) (k : Below A.heap.size A B) : Below W.heap.size W B := h.trans (k.mono h.size)

/-- A Room whose lists are nil but for the j-th. -/
def RoomBut (W : World) (R j : Nat) : Prop := ∀ k, k < 21 → k ≠ j → W.cell? ⟨R, k, none⟩ = some (.slice none 0 0)
theorem RoomBut.later {W W' : World} {R j : Nat} (h : RoomBut W R j) (hb : Below W.heap.size W W') : RoomBut W' R j := fun k hk hj => (hb.cell (p := ⟨R, k, none⟩) (World.block_lt_of_cell? _ _ (h k hk hj))).trans (h k hk hj)

set_option maxHeartbeats 4000000 in
theorem hold_ints (R : Nat) (W : World) (hR : RoomBut W R 1) (hJ : ∀ X, Below W.heap.size W X → Calls Tryz.prog 44 #[.pointer (some ⟨R, 0, none⟩)] X fun e X' => e = .returned (.bool true) ∧ Below X.heap.size X X') :
    Calls Tryz.prog 12 #[.pointer (some ⟨R, 0, none⟩)] W fun e W' => e = .returned (.bool true) ∧ Below W.heap.size W W' := by
  have hB := Below.refl W.heap.size W
  go_enter Tryz.func12, Tryz.ntmps12
  go_wp2_with (first | (go_at_call 43; refine (holdBytes_nil R _ (hR 0 (by omega) (by omega))).mono ?_; rintro _ X ⟨rfl, hb⟩; replace hR := hR.later hb; replace hB := below_of hB hb; clear hb) | (go_at_call 44; refine (hJ _ hB).mono ?_; rintro _ X ⟨rfl, hb⟩; replace hR := hR.later hb; replace hB := below_of hB hb; clear hb) | (go_at_call 45; refine (holdCells_nil R _ (hR 2 (by omega) (by omega))).mono ?_; rintro _ X ⟨rfl, hb⟩; replace hR := hR.later hb; replace hB := below_of hB hb; clear hb) | (go_at_call 46; refine (holdBools_nil R _ (hR 3 (by omega) (by omega))).mono ?_; rintro _ X ⟨rfl, hb⟩; replace hR := hR.later hb; replace hB := below_of hB hb; clear hb) | (go_at_call 47; refine (holdTexts_nil R _ (hR 4 (by omega) (by omega))).mono ?_; rintro _ X ⟨rfl, hb⟩; replace hR := hR.later hb; replace hB := below_of hB hb; clear hb) | (go_at_call 48; refine (holdValues_nil R _ (hR 5 (by omega) (by omega))).mono ?_; rintro _ X ⟨rfl, hb⟩; replace hR := hR.later hb; replace hB := below_of hB hb; clear hb) | (go_at_call 49; refine (holdBands_nil R _ (hR 6 (by omega) (by omega))).mono ?_; rintro _ X ⟨rfl, hb⟩; replace hR := hR.later hb; replace hB := below_of hB hb; clear hb) | (go_at_call 50; refine (holdTokens_nil R _ (hR 7 (by omega) (by omega))).mono ?_; rintro _ X ⟨rfl, hb⟩; replace hR := hR.later hb; replace hB := below_of hB hb; clear hb) | (go_at_call 51; refine (holdReads_nil R _ (hR 8 (by omega) (by omega))).mono ?_; rintro _ X ⟨rfl, hb⟩; replace hR := hR.later hb; replace hB := below_of hB hb; clear hb) | (go_at_call 52; refine (holdConflicts_nil R _ (hR 9 (by omega) (by omega))).mono ?_; rintro _ X ⟨rfl, hb⟩; replace hR := hR.later hb; replace hB := below_of hB hb; clear hb) | (go_at_call 53; refine (holdPoints_nil R _ (hR 10 (by omega) (by omega))).mono ?_; rintro _ X ⟨rfl, hb⟩; replace hR := hR.later hb; replace hB := below_of hB hb; clear hb) | (go_at_call 54; refine (holdNodes_nil R _ (hR 11 (by omega) (by omega))).mono ?_; rintro _ X ⟨rfl, hb⟩; replace hR := hR.later hb; replace hB := below_of hB hb; clear hb) | (go_at_call 55; refine (holdRecords_nil R _ (hR 12 (by omega) (by omega))).mono ?_; rintro _ X ⟨rfl, hb⟩; replace hR := hR.later hb; replace hB := below_of hB hb; clear hb) | (go_at_call 56; refine (holdFiles_nil R _ (hR 13 (by omega) (by omega))).mono ?_; rintro _ X ⟨rfl, hb⟩; replace hR := hR.later hb; replace hB := below_of hB hb; clear hb) | (go_at_call 57; refine (holdExprs_nil R _ (hR 14 (by omega) (by omega))).mono ?_; rintro _ X ⟨rfl, hb⟩; replace hR := hR.later hb; replace hB := below_of hB hb; clear hb) | (go_at_call 58; refine (holdClauses_nil R _ (hR 15 (by omega) (by omega))).mono ?_; rintro _ X ⟨rfl, hb⟩; replace hR := hR.later hb; replace hB := below_of hB hb; clear hb) | (go_at_call 59; refine (holdLines_nil R _ (hR 16 (by omega) (by omega))).mono ?_; rintro _ X ⟨rfl, hb⟩; replace hR := hR.later hb; replace hB := below_of hB hb; clear hb) | (go_at_call 60; refine (holdChecks_nil R _ (hR 17 (by omega) (by omega))).mono ?_; rintro _ X ⟨rfl, hb⟩; replace hR := hR.later hb; replace hB := below_of hB hb; clear hb) | (go_at_call 61; refine (holdOptions_nil R _ (hR 18 (by omega) (by omega))).mono ?_; rintro _ X ⟨rfl, hb⟩; replace hR := hR.later hb; replace hB := below_of hB hb; clear hb) | (go_at_call 62; refine (holdTables_nil R _ (hR 19 (by omega) (by omega))).mono ?_; rintro _ X ⟨rfl, hb⟩; replace hR := hR.later hb; replace hB := below_of hB hb; clear hb) | (go_at_call 63; refine (holdGroups_nil R _ (hR 20 (by omega) (by omega))).mono ?_; rintro _ X ⟨rfl, hb⟩; replace hR := hR.later hb; replace hB := below_of hB hb; clear hb))
  go_ret
  exact ⟨rfl, hB⟩

set_option maxHeartbeats 4000000 in
theorem hold_bands (R : Nat) (W : World) (hR : RoomBut W R 6) (hJ : ∀ X, Below W.heap.size W X → Calls Tryz.prog 49 #[.pointer (some ⟨R, 0, none⟩)] X fun e X' => e = .returned (.bool true) ∧ Below X.heap.size X X') :
    Calls Tryz.prog 12 #[.pointer (some ⟨R, 0, none⟩)] W fun e W' => e = .returned (.bool true) ∧ Below W.heap.size W W' := by
  have hB := Below.refl W.heap.size W
  go_enter Tryz.func12, Tryz.ntmps12
  go_wp2_with (first | (go_at_call 43; refine (holdBytes_nil R _ (hR 0 (by omega) (by omega))).mono ?_; rintro _ X ⟨rfl, hb⟩; replace hR := hR.later hb; replace hB := below_of hB hb; clear hb) | (go_at_call 44; refine (holdInts_nil R _ (hR 1 (by omega) (by omega))).mono ?_; rintro _ X ⟨rfl, hb⟩; replace hR := hR.later hb; replace hB := below_of hB hb; clear hb) | (go_at_call 45; refine (holdCells_nil R _ (hR 2 (by omega) (by omega))).mono ?_; rintro _ X ⟨rfl, hb⟩; replace hR := hR.later hb; replace hB := below_of hB hb; clear hb) | (go_at_call 46; refine (holdBools_nil R _ (hR 3 (by omega) (by omega))).mono ?_; rintro _ X ⟨rfl, hb⟩; replace hR := hR.later hb; replace hB := below_of hB hb; clear hb) | (go_at_call 47; refine (holdTexts_nil R _ (hR 4 (by omega) (by omega))).mono ?_; rintro _ X ⟨rfl, hb⟩; replace hR := hR.later hb; replace hB := below_of hB hb; clear hb) | (go_at_call 48; refine (holdValues_nil R _ (hR 5 (by omega) (by omega))).mono ?_; rintro _ X ⟨rfl, hb⟩; replace hR := hR.later hb; replace hB := below_of hB hb; clear hb) | (go_at_call 49; refine (hJ _ hB).mono ?_; rintro _ X ⟨rfl, hb⟩; replace hR := hR.later hb; replace hB := below_of hB hb; clear hb) | (go_at_call 50; refine (holdTokens_nil R _ (hR 7 (by omega) (by omega))).mono ?_; rintro _ X ⟨rfl, hb⟩; replace hR := hR.later hb; replace hB := below_of hB hb; clear hb) | (go_at_call 51; refine (holdReads_nil R _ (hR 8 (by omega) (by omega))).mono ?_; rintro _ X ⟨rfl, hb⟩; replace hR := hR.later hb; replace hB := below_of hB hb; clear hb) | (go_at_call 52; refine (holdConflicts_nil R _ (hR 9 (by omega) (by omega))).mono ?_; rintro _ X ⟨rfl, hb⟩; replace hR := hR.later hb; replace hB := below_of hB hb; clear hb) | (go_at_call 53; refine (holdPoints_nil R _ (hR 10 (by omega) (by omega))).mono ?_; rintro _ X ⟨rfl, hb⟩; replace hR := hR.later hb; replace hB := below_of hB hb; clear hb) | (go_at_call 54; refine (holdNodes_nil R _ (hR 11 (by omega) (by omega))).mono ?_; rintro _ X ⟨rfl, hb⟩; replace hR := hR.later hb; replace hB := below_of hB hb; clear hb) | (go_at_call 55; refine (holdRecords_nil R _ (hR 12 (by omega) (by omega))).mono ?_; rintro _ X ⟨rfl, hb⟩; replace hR := hR.later hb; replace hB := below_of hB hb; clear hb) | (go_at_call 56; refine (holdFiles_nil R _ (hR 13 (by omega) (by omega))).mono ?_; rintro _ X ⟨rfl, hb⟩; replace hR := hR.later hb; replace hB := below_of hB hb; clear hb) | (go_at_call 57; refine (holdExprs_nil R _ (hR 14 (by omega) (by omega))).mono ?_; rintro _ X ⟨rfl, hb⟩; replace hR := hR.later hb; replace hB := below_of hB hb; clear hb) | (go_at_call 58; refine (holdClauses_nil R _ (hR 15 (by omega) (by omega))).mono ?_; rintro _ X ⟨rfl, hb⟩; replace hR := hR.later hb; replace hB := below_of hB hb; clear hb) | (go_at_call 59; refine (holdLines_nil R _ (hR 16 (by omega) (by omega))).mono ?_; rintro _ X ⟨rfl, hb⟩; replace hR := hR.later hb; replace hB := below_of hB hb; clear hb) | (go_at_call 60; refine (holdChecks_nil R _ (hR 17 (by omega) (by omega))).mono ?_; rintro _ X ⟨rfl, hb⟩; replace hR := hR.later hb; replace hB := below_of hB hb; clear hb) | (go_at_call 61; refine (holdOptions_nil R _ (hR 18 (by omega) (by omega))).mono ?_; rintro _ X ⟨rfl, hb⟩; replace hR := hR.later hb; replace hB := below_of hB hb; clear hb) | (go_at_call 62; refine (holdTables_nil R _ (hR 19 (by omega) (by omega))).mono ?_; rintro _ X ⟨rfl, hb⟩; replace hR := hR.later hb; replace hB := below_of hB hb; clear hb) | (go_at_call 63; refine (holdGroups_nil R _ (hR 20 (by omega) (by omega))).mono ?_; rintro _ X ⟨rfl, hb⟩; replace hR := hR.later hb; replace hB := below_of hB hb; clear hb))
  go_ret
  exact ⟨rfl, hB⟩

end Go.Proofs.YthbojlbgjmecoaaGreat


/- THE PLAIN MATHEMATICS of layer 2: the calendar as whole numbers, no Go in sight. -/
namespace Go.Proofs.YthbojlbgjmecoaaGreat
namespace D

/-- P2.1 -/
def leap (y : Int) : Bool := decide (y % 4 = 0 ∧ (y % 100 ≠ 0 ∨ y % 400 = 0))
/-- one day more, or none -/
def lv (y : Int) : Int := if y % 4 = 0 ∧ (y % 100 ≠ 0 ∨ y % 400 = 0) then 1 else 0
theorem lv_leap (y : Int) : lv y = if leap y = true then 1 else 0 := by simp [lv, leap]
theorem lv_bd (y : Int) : 0 ≤ lv y ∧ lv y ≤ 1 := by unfold lv; split <;> omega
/-- P2.1 -/
def last (y m : Int) : Int := if m < 1 ∨ 12 < m then 0 else if m = 2 then 28 + lv y else if m = 4 ∨ m = 6 ∨ m = 9 ∨ m = 11 then 30 else 31
theorem last_bd (y m : Int) (h1 : 1 ≤ m) (h2 : m ≤ 12) : 28 ≤ last y m ∧ last y m ≤ 31 := by
  have := lv_bd y
  unfold last
  repeat' split
  all_goals omega
theorem last_bd0 (y m : Int) : 0 ≤ last y m ∧ last y m ≤ 31 := by
  have := lv_bd y
  unfold last
  repeat' split
  all_goals omega

/-- the years' first days -/
def ys (y : Int) : Int := (y - 1900) * 365 + ((y - 1) / 4 - (y - 1) / 100 + (y - 1) / 400) - 460
theorem ys_succ (y : Int) : ys (y + 1) = ys y + 365 + lv y := by
  unfold ys lv
  split <;> omega
theorem ys_0 : ys 1900 = 0 := by decide
theorem ys_end : ys 2200 = 109573 := by decide

/-- the months' first days in a year -/
def ms (y m : Int) : Int := if m ≤ 1 then 0 else if m = 2 then 31 else 59 + lv y + (153 * (m - 3) + 2) / 5
theorem ms_1 (y : Int) : ms y 1 = 0 := by simp [ms]
theorem ms_succ (y m : Int) (h1 : 1 ≤ m) (h2 : m ≤ 12) : ms y (m + 1) = ms y m + last y m := by
  have : m = 1 ∨ m = 2 ∨ m = 3 ∨ m = 4 ∨ m = 5 ∨ m = 6 ∨ m = 7 ∨ m = 8 ∨ m = 9 ∨ m = 10 ∨ m = 11 ∨ m = 12 := by omega
  rcases this with rfl | rfl | rfl | rfl | rfl | rfl | rfl | rfl | rfl | rfl | rfl | rfl <;> simp [ms, last] <;> omega
theorem ms_13 (y : Int) : ms y 13 = 365 + lv y := by simp [ms]; omega
theorem ms_bd (y m : Int) (h1 : 1 ≤ m) (h2 : m ≤ 13) : 0 ≤ ms y m ∧ ms y m ≤ 366 := by
  have := lv_bd y
  unfold ms
  repeat' split
  all_goals omega

/-- the day on which month k (0: January 1900) begins -/
def bg (k : Int) : Int := ys (1900 + k / 12) + ms (1900 + k / 12) (k % 12 + 1)
/-- how long month k is -/
def ln (k : Int) : Int := last (1900 + k / 12) (k % 12 + 1)
theorem ln_bd (k : Int) : 28 ≤ ln k ∧ ln k ≤ 31 := last_bd _ _ (by omega) (by omega)
theorem bg_succ (k : Int) : bg (k + 1) = bg k + ln k := by
  unfold bg ln
  by_cases h : k % 12 = 11
  · have e1 : (k + 1) / 12 = k / 12 + 1 := by omega
    have e2 : (k + 1) % 12 = 0 := by omega
    have e3 := ys_succ (1900 + k / 12)
    have e4 := ms_succ (1900 + k / 12) 12 (by omega) (by omega)
    have e5 := ms_13 (1900 + k / 12)
    rw [e1, e2, h, show 1900 + (k / 12 + 1) = 1900 + k / 12 + 1 by omega, e3, show (0 : Int) + 1 = 1 by omega, ms_1]
    rw [show (11 : Int) + 1 = 12 by omega]
    rw [show (12 : Int) + 1 = 13 by omega] at e4
    omega
  · have e1 : (k + 1) / 12 = k / 12 := by omega
    have e2 : (k + 1) % 12 = k % 12 + 1 := by omega
    rw [e1, e2, ms_succ _ _ (by omega) (by omega)]
    omega
theorem bg_0 : bg 0 = 0 := by decide
theorem bg_end : bg 3600 = 109573 := by decide
theorem bg_add (k : Int) (j : Nat) : bg k + 28 * j ≤ bg (k + j) := by
  induction j with
  | zero => simp
  | succ j ih =>
    have e : k + ((j + 1 : Nat) : Int) = k + j + 1 := by omega
    rw [e, bg_succ]
    have := ln_bd (k + j)
    omega
theorem bg_le {j k : Int} (h : j ≤ k) : bg j + 28 * (k - j) ≤ bg k := by
  have := bg_add j (k - j).toNat
  have e : j + ((k - j).toNat : Int) = k := by omega
  rw [e] at this
  omega
theorem bg_add31 (k : Int) (j : Nat) : bg (k + j) ≤ bg k + 31 * j := by
  induction j with
  | zero => simp
  | succ j ih =>
    have e : k + ((j + 1 : Nat) : Int) = k + j + 1 := by omega
    rw [e, bg_succ]
    have := ln_bd (k + j)
    omega
theorem bg_le31 {j k : Int} (h : j ≤ k) : bg k ≤ bg j + 31 * (k - j) := by
  have := bg_add31 j (k - j).toNat
  have e : j + ((k - j).toNat : Int) = k := by omega
  rw [e] at this
  omega
theorem bg_mono {j k : Int} (h : j ≤ k) : bg j ≤ bg k := by have := bg_le h; omega
theorem bg_lt {j k : Int} (h : bg j < bg k) : j < k := by
  apply Classical.byContradiction
  intro hn
  have := bg_mono (j := k) (k := j) (by omega)
  omega

/-- day n is the day d (from 0 on) of month k -/
structure At (n k d : Int) : Prop where
  k0 : 0 ≤ k
  k1 : k < 3600
  d0 : 0 ≤ d
  d1 : d < ln k
  eq : n = bg k + d

theorem At.nn {n k d : Int} (h : At n k d) : 0 ≤ n ∧ n ≤ 109572 := by
  have h1 := bg_mono h.k0
  have h2 := bg_mono (j := k + 1) (k := 3600) (by have := h.k1; omega)
  rw [bg_0] at h1
  rw [bg_end, bg_succ] at h2
  have := h.d0; have := h.d1; have := h.eq
  omega
theorem At.lo {n k d : Int} (h : At n k d) : bg k ≤ n := by have := h.eq; have := h.d0; omega
theorem At.hi {n k d : Int} (h : At n k d) : n < bg (k + 1) := by rw [bg_succ]; have := h.eq; have := h.d1; omega
theorem at_of {n k : Int} (h0 : 0 ≤ k) (h1 : k < 3600) (h2 : bg k ≤ n) (h3 : n < bg (k + 1)) : At n k (n - bg k) :=
  ⟨h0, h1, by omega, by rw [bg_succ] at h3; omega, by omega⟩
theorem At.uniq {n k d k' d' : Int} (h : At n k d) (h' : At n k' d') : k = k' ∧ d = d' := by
  have a := h.lo; have b := h.hi; have a' := h'.lo; have b' := h'.hi
  have c1 := bg_lt (j := k) (k := k' + 1) (by omega)
  have c2 := bg_lt (j := k') (k := k + 1) (by omega)
  have e : k = k' := by omega
  refine ⟨e, ?_⟩
  have := h.eq; have := h'.eq
  rw [e] at *
  omega
theorem at_ex_below (m : Nat) (n : Int) (h0 : 0 ≤ n) (h : n < bg m) : ∃ k : Int, 0 ≤ k ∧ k < m ∧ bg k ≤ n ∧ n < bg (k + 1) := by
  induction m with
  | zero => rw [show ((0 : Nat) : Int) = 0 from rfl, bg_0] at h; omega
  | succ m ih =>
    by_cases hm : n < bg m
    · obtain ⟨k, a, b, c⟩ := ih hm
      exact ⟨k, a, by omega, c⟩
    · exact ⟨m, by omega, by omega, by omega, h⟩
theorem at_ex (n : Int) (h0 : 0 ≤ n) (h1 : n ≤ 109572) : ∃ k d, At n k d := by
  obtain ⟨k, a, b, c, d⟩ := at_ex_below 3600 n h0 (by rw [show ((3600 : Nat) : Int) = 3600 from rfl, bg_end]; omega)
  exact ⟨k, _, at_of a (by omega) c d⟩

/-- a date's year and month lead to its month number -/
theorem ym {y m : Int} (h1 : 1 ≤ m) (h2 : m ≤ 12) : 1900 + (12 * (y - 1900) + m - 1) / 12 = y ∧ (12 * (y - 1900) + m - 1) % 12 + 1 = m := by omega
theorem ln_ym {y m : Int} (h1 : 1 ≤ m) (h2 : m ≤ 12) : ln (12 * (y - 1900) + m - 1) = last y m := by
  have ⟨a, b⟩ := ym (y := y) h1 h2
  unfold ln; rw [a, b]
theorem bg_ym {y m : Int} (h1 : 1 ≤ m) (h2 : m ≤ 12) : bg (12 * (y - 1900) + m - 1) = ys y + ms y m := by
  have ⟨a, b⟩ := ym (y := y) h1 h2
  unfold bg; rw [a, b]

theorem ys_le {y z : Int} (h : y ≤ z) : ys y + 365 * (z - y) ≤ ys z := by
  unfold ys; omega
theorem ys_le366 {y z : Int} (h : y ≤ z) : ys z ≤ ys y + 366 * (z - y) := by
  unfold ys; omega

theorem tmod_zero (y c : Int) : y.tmod c = 0 ↔ y % c = 0 := by
  exact ⟨fun h => Int.emod_eq_zero_of_dvd (Int.dvd_of_tmod_eq_zero h), fun h => Int.tmod_eq_zero_of_dvd (Int.dvd_of_emod_eq_zero h)⟩
theorem leap_tmod (y : Int) : leap y = decide (y.tmod 4 = 0 ∧ (y.tmod 100 ≠ 0 ∨ y.tmod 400 = 0)) := by
  unfold leap
  rw [decide_eq_decide, tmod_zero y 4, tmod_zero y 400, ne_eq, ne_eq, tmod_zero y 100]

/-- a common year's months -/
def md : List Int := [31, 28, 31, 30, 31, 30, 31, 31, 30, 31, 30, 31]
theorem last_leap (y : Int) (h : leap y = true) : last y 2 = 29 := by
  have := lv_leap y
  rw [if_pos h] at this
  simp [last, this]
theorem last_md (y : Int) (i : Nat) (hi : i < 12) (h : i = 1 → leap y = false) : last y ((i : Int) + 1) = md.getD i 0 := by
  have : i = 0 ∨ i = 1 ∨ i = 2 ∨ i = 3 ∨ i = 4 ∨ i = 5 ∨ i = 6 ∨ i = 7 ∨ i = 8 ∨ i = 9 ∨ i = 10 ∨ i = 11 := by omega
  have hl := lv_leap y
  rcases this with rfl | rfl | rfl | rfl | rfl | rfl | rfl | rfl | rfl | rfl | rfl | rfl
  case inr.inl =>
    rw [h rfl] at hl
    simp at hl
    simp [last, md, hl]
  all_goals simp [last, md]
theorem last_no (y m : Int) (h : m < 1 ∨ 12 < m) : last y m = 0 := by simp [last, h]
theorem leaps_tdiv (y : Int) (h : 0 ≤ y) : y.tdiv 4 = y / 4 ∧ y.tdiv 100 = y / 100 ∧ y.tdiv 400 = y / 400 := by
  refine ⟨Int.tdiv_eq_ediv_of_nonneg h, Int.tdiv_eq_ediv_of_nonneg h, Int.tdiv_eq_ediv_of_nonneg h⟩
theorem ys_bd (y : Int) (h1 : 1900 ≤ y) (h2 : y ≤ 2200) : 0 ≤ ys y ∧ ys y ≤ 109573 := by
  have a := ys_le h1; have b := ys_le h2
  rw [ys_0] at a; rw [ys_end] at b
  omega

theorem ms_le (y i j : Int) (h1 : 1 ≤ i) (h2 : i ≤ j) (h3 : j ≤ 13) : ms y i ≤ ms y j := by
  have := lv_bd y
  unfold ms
  repeat' split
  all_goals omega
theorem bg_year (q : Int) : bg (12 * q) = ys (1900 + q) := by
  unfold bg
  have e1 : 12 * q / 12 = q := by omega
  have e2 : 12 * q % 12 = 0 := by omega
  rw [e1, e2, show (0 : Int) + 1 = 1 by omega, ms_1]
  omega
theorem At.year {n k d : Int} (h : At n k d) : ys (1900 + k / 12) ≤ n ∧ n < ys (1900 + k / 12 + 1) := by
  have a := h.lo; have b := h.hi
  have c := bg_mono (j := 12 * (k / 12)) (k := k) (by omega)
  have e := bg_mono (j := k + 1) (k := 12 * (k / 12 + 1)) (by omega)
  rw [bg_year] at c e
  rw [show 1900 + k / 12 + 1 = 1900 + (k / 12 + 1) by omega]
  omega
theorem At.rest {n k d : Int} (h : At n k d) : n - ys (1900 + k / 12) - ms (1900 + k / 12) (k % 12 + 1) = d := by
  have := h.eq
  unfold bg at this
  omega
theorem guess {n Y : Int} (h0 : 0 ≤ n) (hY : n < ys (Y + 1)) : 1900 + n / 366 ≤ Y := by
  apply Classical.byContradiction
  intro hn
  have a := ys_le (y := Y + 1) (z := 1900 + n / 366) (by omega)
  have b := ys_le366 (y := 1900) (z := 1900 + n / 366) (by omega)
  rw [ys_0] at b
  omega

/-- P2.2: the number and the error -/
def num (y m d : Int) : Int × Int := if d < 1 ∨ last y m < d then (0, 20) else if y < 1900 ∨ 2199 < y then (0, 21) else (ys y + ms y m + d - 1, 0)
/-- P2.3: the date and the error -/
inductive Dat (n : Int) : Int → Int → Int → Int → Prop
  | yes (k d : Int) (h : At n k d) : Dat n (1900 + k / 12) (k % 12 + 1) (d + 1) 0
  | no (h : ¬ (0 ≤ n ∧ n ≤ 109572)) : Dat n 0 0 0 21
theorem dat_ex (n : Int) : ∃ y m d e, Dat n y m d e := by
  by_cases h : 0 ≤ n ∧ n ≤ 109572
  · obtain ⟨k, d, hk⟩ := at_ex n h.1 h.2
    exact ⟨_, _, _, _, .yes k d hk⟩
  · exact ⟨_, _, _, _, .no h⟩
/-- P2.3: the weekday and the error -/
def wk (n : Int) : Int × Int := if 0 ≤ n ∧ n ≤ 109572 then (n % 7 + 1, 0) else (0, 21)

/-- P2.4: so many months later: the same day of the month, or the month's last -/
def addv (k d by' : Int) : Int := bg (k + by') + (if d ≤ ln (k + by') - 1 then d else ln (k + by') - 1)
inductive AddIs (n by' : Int) : Int → Int → Prop
  | no (h : ¬ (0 ≤ n ∧ n ≤ 109572)) : AddIs n by' 0 21
  | out (k d : Int) (h : At n k d) (hk : k + by' < 0 ∨ 3600 ≤ k + by') : AddIs n by' 0 21
  | yes (k d : Int) (h : At n k d) (h0 : 0 ≤ k + by') (h1 : k + by' < 3600) : AddIs n by' (addv k d by') 0
theorem add_ex (n by' : Int) : ∃ v e, AddIs n by' v e := by
  by_cases h : 0 ≤ n ∧ n ≤ 109572
  · obtain ⟨k, d, hk⟩ := at_ex n h.1 h.2
    by_cases h1 : 0 ≤ k + by' ∧ k + by' < 3600
    · exact ⟨_, _, .yes k d hk h1.1 h1.2⟩
    · exact ⟨_, _, .out k d hk (by omega)⟩
  · exact ⟨_, _, .no h⟩
theorem addv_at {n k d by' : Int} (h : At n k d) (h0 : 0 ≤ k + by') (h1 : k + by' < 3600) : At (addv k d by') (k + by') (if d ≤ ln (k + by') - 1 then d else ln (k + by') - 1) := by
  have := h.d0
  have := ln_bd (k + by')
  refine ⟨h0, h1, ?_, ?_, rfl⟩
  · split <;> omega
  · split <;> omega
/-- P2.5 -/
def whole (k1 d1 k2 b : Int) : Int := if b < addv k1 d1 (k2 - k1) then k2 - k1 - 1 else k2 - k1
inductive BetIs (a b : Int) : Int → Int → Prop
  | no (h : ¬ ((0 ≤ a ∧ a ≤ 109572) ∧ (0 ≤ b ∧ b ≤ 109572))) : BetIs a b 0 21
  | le (k1 d1 k2 d2 : Int) (h1 : At a k1 d1) (h2 : At b k2 d2) (h : a ≤ b) : BetIs a b (whole k1 d1 k2 b) 0
  | gt (k1 d1 k2 d2 : Int) (h1 : At a k1 d1) (h2 : At b k2 d2) (h : b < a) : BetIs a b (-(whole k2 d2 k1 a)) 0
theorem bet_ex (a b : Int) : ∃ v e, BetIs a b v e := by
  by_cases h : (0 ≤ a ∧ a ≤ 109572) ∧ (0 ≤ b ∧ b ≤ 109572)
  · obtain ⟨k1, d1, h1⟩ := at_ex a h.1.1 h.1.2
    obtain ⟨k2, d2, h2⟩ := at_ex b h.2.1 h.2.2
    by_cases hl : a ≤ b
    · exact ⟨_, _, .le k1 d1 k2 d2 h1 h2 hl⟩
    · exact ⟨_, _, .gt k1 d1 k2 d2 h1 h2 (by omega)⟩
  · exact ⟨_, _, .no h⟩
theorem At.le {a b k1 d1 k2 d2 : Int} (h1 : At a k1 d1) (h2 : At b k2 d2) (h : a ≤ b) : k1 ≤ k2 := by
  have := bg_lt (j := k1) (k := k2 + 1) (by have := h1.lo; have := h2.hi; omega)
  omega
theorem whole_bd {a b k1 d1 k2 d2 : Int} (h1 : At a k1 d1) (h2 : At b k2 d2) (h : a ≤ b) : 0 ≤ whole k1 d1 k2 b ∧ whole k1 d1 k2 b ≤ 3600 := by
  have hk := h1.le h2 h
  have := h1.k0; have := h2.k1
  unfold whole
  by_cases he : k1 = k2
  · subst he
    have hd := h1.d1
    rw [if_neg]
    · omega
    · unfold addv
      rw [show k1 + (k1 - k1) = k1 by omega, if_pos (by omega)]
      have := h1.eq
      omega
  · split <;> omega

/-- a number brought into the calendar -/
def dn (n : Int) : Int := if n < 0 then (-(n + 1)) % 109573 else n % 109573
theorem dn_bd (n : Int) : 0 ≤ dn n ∧ dn n ≤ 109572 := by unfold dn; split <;> omega
theorem at_known : At 36583 1201 28 := ⟨by omega, by omega, by omega, by decide, by decide⟩
theorem dat_known : Dat 36583 2000 2 29 0 := .yes 1201 28 at_known

end D
end Go.Proofs.YthbojlbgjmecoaaGreat
