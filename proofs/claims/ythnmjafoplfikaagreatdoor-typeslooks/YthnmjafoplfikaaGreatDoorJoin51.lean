import Derived.Test.YthnmjafoplfikaaGreatDoorJoin50
import Derived.Test.YthnmjafoplfikaaGreatDoorJoin41
import Derived.Deep.CutBlock
import Derived.Deep.DeepCutAuto
import Derived.Test.YthnmjafoplfikaaGreatDoorJoin49
import Derived.Deep.RegionHeld3
import Derived.Test.YthnmjafoplfikaaGreatDoorTurnYSe
import Derived.Deep.QuietTactic
import Derived.BigQuiet
import Derived.WalkLawsBesides
namespace Go.Proofs.YthnmjafoplfikaaGreatDoor
open Go.RowKit

/-- The number of an option. -/
def opIx (os : List (List UInt8 × List (List UInt8))) (t : Int) (v : List UInt8) : Int := match at? os t with
  | some o => ixF id o.2 v 0
  | none => -1
theorem at?_noneL {α : Type} {l : List α} {n : Int} (h : ¬ (0 ≤ n ∧ n < l.length)) : at? l n = none := by
  unfold at?
  by_cases h0 : 0 ≤ n
  · rw [if_pos h0, List.getElem?_eq_none (by omega)]
  · rw [if_neg h0]
set_option maxRecDepth 20000 in
set_option maxHeartbeats 1000000 in
theorem topt_any (p : Pk) (a3 a4 a5 a6 a7 : Option Addr) (c3 c4 c5 c6 c7 : Nat) (t : Int) (v : List UInt8) (W : World) (hR : RowR eO W AnyB p.opts a3) (hl : p.opts.length ≤ 9223372036854775807) (hl2 : ∀ o ∈ p.opts, o.2.length ≤ 9223372036854775807) : Calls Tryz.prog 7 #[.agg #[.string ⟨p.name.toArray⟩, .int .i64 p.year, .slice a3 p.opts.length c3, .slice a4 p.tabs.length c4, .slice a5 p.grps.length c5, .slice a6 p.lns.length c6, .slice a7 p.cks.length c7], .int .i64 t, .string ⟨v.toArray⟩] W (Lk (.int .i64 (opIx p.opts t v)) W) := by
  obtain ⟨A, hA⟩ : ∃ A, A = Obj.cells #[.string ⟨p.name.toArray⟩, .int .i64 p.year, .slice a3 p.opts.length c3, .slice a4 p.tabs.length c4, .slice a5 p.grps.length c5, .slice a6 p.lns.length c6, .slice a7 p.cks.length c7] 28 := ⟨_, rfl⟩
  have hb0 := bel_alloc W A
  have hr0 := heap_alloc_new W A
  obtain ⟨X, hX⟩ : ∃ X, X = W.alloc A := ⟨_, rfl⟩
  rw [← hX] at hb0 hr0
  rw [hA] at hr0 hX
  have hXl : W.heap.size < X.heap.size := (Array.getElem?_eq_some_iff.1 hr0).1
  have hXe : W.alloc (.cells #[.string ⟨p.name.toArray⟩, .int .i64 p.year, .slice a3 p.opts.length c3, .slice a4 p.tabs.length c4, .slice a5 p.grps.length c5, .slice a6 p.lns.length c6, .slice a7 p.cks.length c7] 28) = X := hX.symm
  have hOr := row_bel hR hb0 (Nat.le_refl _)
  have b2 : X.cell? ⟨W.heap.size, 2, none⟩ = some (.slice a3 p.opts.length c3) := cell_of_row _ _ 2 _ _ _ hr0
  have hh := has_opt a3 p.opts.length c3 t X
  have hl' : (p.opts.length : Int) ≤ 9223372036854775807 := by omega
  clear hX hA hr0 hR
  by_cases hin : 0 ≤ t ∧ t < p.opts.length
  · rw [decide_eq_true hin.1, decide_eq_true hin.2] at hh
    obtain ⟨i, rfl⟩ := Int.eq_ofNat_of_zero_le hin.1
    have hi : i < p.opts.length := by omega
    have hi0 : (0 : Int) ≤ (i : Int) := hin.1
    have hi1 : (i : Int) < (p.opts.length : Int) := hin.2
    obtain ⟨N, hN⟩ : ∃ N, opIx p.opts (i : Int) v = N := ⟨_, rfl⟩
    rw [hN]
    rw [opIx, at?_some hin.1 hin.2] at hN
    simp only [Int.toNat_natCast] at hN
    have hz := hl2 _ (List.getElem_mem hi)
    obtain ⟨g, o, hga⟩ := hOr.some hi
    have hrw := Hid.mk (fun w1 (hb1 : Below X.heap.size X w1) => by have h := row_bel hOr hb1 (Nat.le_refl _); rw [hga] at h; exact h.item hi)
    rw [hga] at hh b2 hXe ⊢
    generalize p.opts[i] = y at *
    clear hga hOr hl2 hin hi
    go_enter Tryz.func7, Tryz.ntmps7
    go_wp2_with (go_at_call 25; fail)
    refine hh.mono ?_
    rintro e w1 ⟨rfl, hb1⟩
    obtain ⟨cs, -, -, ⟨a1, c1, rfl, hSr⟩, hcc⟩ := hrw.out w1 hb1
    have d2 := (bel_cell hb1 hXl 2).trans b2
    have e1 : w1.cell? ⟨g, o + i * 2 + 1, none⟩ = some (.slice a1 y.2.length c1) := hcc 1 (by decide)
    have hcall := slIx_any y.2 a1 c1 v w1 hSr hz
    rw [hN] at hcall
    have hbf := Hid.mk (belT hb0 hb1)
    clear hrw hcc hh hSr hXe b2
    go_wp2_with (go_at_call 26; fail)
    refine hcall.mono ?_
    rintro e w2 ⟨rfl, hww⟩
    have hbf := hbf.out
    rw [hww] at hbf
    clear hcall
    go_wp2
    go_ret
    exact ⟨rfl, hbf⟩
  · have hh2 : (decide (0 ≤ t) && decide (t < (p.opts.length : Int))) = false := by
      cases hq : (decide (0 ≤ t) && decide (t < (p.opts.length : Int))) with
      | false => rfl
      | true => exact absurd (by simpa using hq) hin
    rw [hh2] at hh
    rw [opIx, at?_noneL hin]
    clear hin hh2
    go_enter Tryz.func7, Tryz.ntmps7
    go_wp2_with (go_at_call 25; fail)
    refine hh.mono ?_
    rintro e w1 ⟨rfl, hb1⟩
    have hbf := belT hb0 hb1
    clear hh
    go_wp2
    go_ret
    exact ⟨rfl, hbf⟩

set_option maxRecDepth 20000 in
set_option maxHeartbeats 1000000 in
theorem ropt_any (p : Pk) (a3 a4 a5 a6 a7 : Option Addr) (c3 c4 c5 c6 c7 : Nat) (t : Int) (v : List UInt8) (W : World) (hR : RowR eO W AnyB p.opts a3) (hl : p.opts.length ≤ 9223372036854775807) (hl2 : ∀ o ∈ p.opts, o.2.length ≤ 9223372036854775807) : Calls Tryz.prog 11 #[.agg #[.string ⟨p.name.toArray⟩, .int .i64 p.year, .slice a3 p.opts.length c3, .slice a4 p.tabs.length c4, .slice a5 p.grps.length c5, .slice a6 p.lns.length c6, .slice a7 p.cks.length c7], .int .i64 t, .string ⟨v.toArray⟩] W (Lk (.int .i64 (opIx p.opts t v)) W) := by
  obtain ⟨A, hA⟩ : ∃ A, A = Obj.cells #[.string ⟨p.name.toArray⟩, .int .i64 p.year, .slice a3 p.opts.length c3, .slice a4 p.tabs.length c4, .slice a5 p.grps.length c5, .slice a6 p.lns.length c6, .slice a7 p.cks.length c7] 28 := ⟨_, rfl⟩
  have hb0 := bel_alloc W A
  have hr0 := heap_alloc_new W A
  obtain ⟨X, hX⟩ : ∃ X, X = W.alloc A := ⟨_, rfl⟩
  rw [← hX] at hb0 hr0
  rw [hA] at hr0 hX
  have hXl : W.heap.size < X.heap.size := (Array.getElem?_eq_some_iff.1 hr0).1
  have hXe : W.alloc (.cells #[.string ⟨p.name.toArray⟩, .int .i64 p.year, .slice a3 p.opts.length c3, .slice a4 p.tabs.length c4, .slice a5 p.grps.length c5, .slice a6 p.lns.length c6, .slice a7 p.cks.length c7] 28) = X := hX.symm
  have hOr := row_bel hR hb0 (Nat.le_refl _)
  have b2 : X.cell? ⟨W.heap.size, 2, none⟩ = some (.slice a3 p.opts.length c3) := cell_of_row _ _ 2 _ _ _ hr0
  have hl' : (p.opts.length : Int) ≤ 9223372036854775807 := by omega
  clear hX hA hr0 hR
  by_cases h0 : 0 ≤ t
  rotate_left
  · have h0' : t < 0 := by omega
    rw [opIx, at?_noneL (fun h => h0 h.1)]
    clear h0
    go_enter Tryz.func11, Tryz.ntmps11
    go_wp2
    go_ret
    exact ⟨rfl, hb0⟩
  have h0' : ¬ t < 0 := by omega
  by_cases h1 : t < p.opts.length
  rotate_left
  · have h1' : (p.opts.length : Int) ≤ t := by omega
    rw [opIx, at?_noneL (fun h => h1 h.2)]
    clear h0 h1
    go_enter Tryz.func11, Tryz.ntmps11
    go_wp2
    go_ret
    exact ⟨rfl, hb0⟩
  have h1' : ¬ (p.opts.length : Int) ≤ t := by omega
  obtain ⟨i, rfl⟩ := Int.eq_ofNat_of_zero_le h0
  have hi : i < p.opts.length := by omega
  obtain ⟨N, hN⟩ : ∃ N, opIx p.opts (i : Int) v = N := ⟨_, rfl⟩
  rw [hN]
  rw [opIx, at?_some h0 h1] at hN
  simp only [Int.toNat_natCast] at hN
  have hz := hl2 _ (List.getElem_mem hi)
  obtain ⟨g, o, hga⟩ := hOr.some hi
  rw [hga] at hOr b2 hXe ⊢
  obtain ⟨cs, -, -, hE, hcc⟩ := hOr.item hi
  generalize p.opts[i] = y at *
  obtain ⟨a1, c1, rfl, hSr⟩ := hE
  have e1 : X.cell? ⟨g, o + i * 2 + 1, none⟩ = some (.slice a1 y.2.length c1) := hcc 1 (by decide)
  generalize y.2 = l at *
  have hN0 : Hid (ixF id (l.drop 0) v ((0 : Nat) : Int) = N) := ⟨hN⟩
  have hz' : (l.length : Int) ≤ 9223372036854775807 := by omega
  clear hga hOr hl2 hcc hN
  go_enter Tryz.func11, Tryz.ntmps11
  go_wp2
  go_loopw [7] (fun iv wr => ∃ k : Nat, iv = .int .i64 (k : Int) ∧ k ≤ l.length ∧ wr = X ∧ Hid (ixF id (l.drop k) v (k : Int) = N)) (fun iv _ => l.length - (intOf iv).toNat)
  case atStart => exact ⟨0, rfl, Nat.zero_le _, rfl, hN0⟩
  case round =>
    clear hN0
    obtain ⟨k, rfl, hk, rfl, hall⟩ := hrel
    by_cases hlt : k < l.length
    · have hlt' : (k : Int) < (l.length : Int) := by omega
      have hk0 : (0 : Int) ≤ (k : Int) := by omega
      have hst := hall.out
      rw [ix_step id l v hlt] at hst
      obtain ⟨ge, oe, rfl⟩ := hSr.some hlt
      obtain ⟨cs, -, -, rfl, hcs⟩ := hSr.item hlt
      have e0 : wr.cell? ⟨ge, oe + k, none⟩ = some (.string ⟨(l[k]).toArray⟩) := by
        have := hcs 0 (by decide)
        rw [show oe + k * eS.k + 0 = oe + k by show oe + k * 1 + 0 = oe + k; omega] at this
        exact this
      obtain ⟨r, hr⟩ : ∃ r, (l[k] == v) = r := ⟨_, rfl⟩
      replace hst := Hid.mk hst
      generalize l[k] = y at *
      clear hcs hall
      cases r with
      | true =>
        have hv : y = v := eq_of_beq hr
        have hfin : ((k : Nat) : Int) = N := by
          have h1 := hst.out
          rw [if_pos (show id y = v from hv)] at h1
          exact h1
        replace hfin := Hid.mk hfin
        rw [hv] at e0
        clear hst hr hv
        go_wp2
        go_ret
        exact ⟨congrArg (fun z => Ending.returned (.int .i64 z)) hfin.out, hb0⟩
      | false =>
        have hnx : Hid (ixF id (l.drop (k + 1)) v ((k + 1 : Nat) : Int) = N) := ⟨by
          have h1 := hst.out
          rw [if_neg (show ¬ id y = v from fun h => by rw [show (y == v) = true from beq_iff_eq.2 h] at hr; cases hr)] at h1
          exact h1⟩
        clear hst
        go_wp2
        go_roundw
        case rel => exact ⟨k + 1, by go_num, hlt, (by first | rfl | trivial), hnx⟩
        case measure => simp only [intOf]; omega
    · have hlt' : ¬ (k : Int) < (l.length : Int) := by omega
      obtain rfl : k = l.length := by omega
      have hst := hall.out
      rw [ix_end] at hst
      replace hst := Hid.mk hst
      clear hall
      go_wp2
      go_ret
      exact ⟨congrArg (fun z => Ending.returned (.int .i64 z)) hst.out, hb0⟩

end Go.Proofs.YthnmjafoplfikaaGreatDoor


namespace Go.Proofs.YthnmjafoplfikaaGreatDoor
open Go.RowKit

/-- Is there such an option? -/
def hoF (p : Pk) (t n : Int) : Bool := match at? p.opts t with | some o => (at? o.2 n).isSome | none => false
/-- May a value stand in a line? -/
def fitL (p : Pk) (l : Ln) (k n : Int) : Bool := isK l.type && ((k == l.type) && (M.valid k n && (k != 5 || hoF p l.opts n)))
def fitF (p : Pk) (t k n : Int) : Bool := match at? p.lns t with
  | some l => if k = 0 then (n == 0) else fitL p l k n
  | none => false
set_option maxRecDepth 20000 in
set_option maxHeartbeats 1000000 in
theorem tfits_any (p : Pk) (a3 a4 a5 a6 a7 : Option Addr) (c3 c4 c5 c6 c7 : Nat) (t k n : Int) (W : World) (hK : Kinds W) (hO : RowR eO W AnyB p.opts a3) (hL : RowR eL W AnyB p.lns a6) (hl : p.lns.length ≤ 9223372036854775807) : Calls Tryz.prog 8 #[.agg #[.string ⟨p.name.toArray⟩, .int .i64 p.year, .slice a3 p.opts.length c3, .slice a4 p.tabs.length c4, .slice a5 p.grps.length c5, .slice a6 p.lns.length c6, .slice a7 p.cks.length c7], .int .i64 t, .agg #[.int .i64 k, .int .i64 n]] W (Lk (.bool (fitF p t k n)) W) := by
  obtain ⟨A, hA⟩ : ∃ A, A = Obj.cells #[.string ⟨p.name.toArray⟩, .int .i64 p.year, .slice a3 p.opts.length c3, .slice a4 p.tabs.length c4, .slice a5 p.grps.length c5, .slice a6 p.lns.length c6, .slice a7 p.cks.length c7] 28 := ⟨_, rfl⟩
  have hb0 := bel_alloc W A
  have hr0 := heap_alloc_new W A
  have hs1 : (W.alloc A).heap.size = W.heap.size + 1 := by simp
  have hb1 := bel_alloc (W.alloc A) (.cells #[.int .i64 k, .int .i64 n] 30)
  have hr1 := heap_alloc_new (W.alloc A) (.cells #[.int .i64 k, .int .i64 n] 30)
  rw [hs1] at hr1
  obtain ⟨X, hX⟩ : ∃ X, X = (W.alloc A).alloc (.cells #[.int .i64 k, .int .i64 n] 30) := ⟨_, rfl⟩
  rw [← hX] at hb1 hr1
  have hbX : Below W.heap.size W X := belT hb0 hb1
  have hr0 : X.heap[W.heap.size]? = some A := bel_cells hb1 (by omega) hr0
  rw [hA] at hr0 hX
  have hXe : (W.alloc (.cells #[.string ⟨p.name.toArray⟩, .int .i64 p.year, .slice a3 p.opts.length c3, .slice a4 p.tabs.length c4, .slice a5 p.grps.length c5, .slice a6 p.lns.length c6, .slice a7 p.cks.length c7] 28)).alloc (.cells #[.int .i64 k, .int .i64 n] 30) = X := hX.symm
  have hX1 : W.heap.size + 1 < X.heap.size := (Array.getElem?_eq_some_iff.1 hr1).1
  have hX0 : W.heap.size < X.heap.size := by omega
  have hLr := row_bel hL hbX (Nat.le_refl _)
  have hOr := row_bel hO hbX (Nat.le_refl _)
  have hKX := hK.later hbX
  have hBx : Hid (∀ w : World, Below X.heap.size X w → (w.cell? ⟨W.heap.size, 0, none⟩ = some (.string ⟨p.name.toArray⟩) ∧ w.cell? ⟨W.heap.size, 1, none⟩ = some (.int .i64 p.year) ∧ w.cell? ⟨W.heap.size, 2, none⟩ = some (.slice a3 p.opts.length c3) ∧ w.cell? ⟨W.heap.size, 3, none⟩ = some (.slice a4 p.tabs.length c4) ∧ w.cell? ⟨W.heap.size, 4, none⟩ = some (.slice a5 p.grps.length c5) ∧ w.cell? ⟨W.heap.size, 5, none⟩ = some (.slice a6 p.lns.length c6) ∧ w.cell? ⟨W.heap.size, 6, none⟩ = some (.slice a7 p.cks.length c7)) ∧ w.cell? ⟨W.heap.size + 1, 0, none⟩ = some (.int .i64 k) ∧ w.cell? ⟨W.heap.size + 1, 1, none⟩ = some (.int .i64 n)) := ⟨fun w hw => ⟨⟨(bel_cell hw hX0 0).trans (cell_of_row _ _ 0 _ _ _ hr0), (bel_cell hw hX0 1).trans (cell_of_row _ _ 1 _ _ _ hr0), (bel_cell hw hX0 2).trans (cell_of_row _ _ 2 _ _ _ hr0), (bel_cell hw hX0 3).trans (cell_of_row _ _ 3 _ _ _ hr0), (bel_cell hw hX0 4).trans (cell_of_row _ _ 4 _ _ _ hr0), (bel_cell hw hX0 5).trans (cell_of_row _ _ 5 _ _ _ hr0), (bel_cell hw hX0 6).trans (cell_of_row _ _ 6 _ _ _ hr0)⟩, (bel_cell hw hX1 0).trans (cell_of_row _ _ 0 _ _ _ hr1), (bel_cell hw hX1 1).trans (cell_of_row _ _ 1 _ _ _ hr1)⟩⟩
  clear hX hA hr0 hr1 hb0 hb1 hs1 hO hL hK
  have hh := has_lns a6 p.lns.length c6 t X
  have hl' : (p.lns.length : Int) ≤ 9223372036854775807 := by omega
  obtain ⟨⟨-, -, -, -, -, b5, -⟩, -, -⟩ := hBx.out X (Below.refl _ _)
  by_cases hin : 0 ≤ t ∧ t < p.lns.length
  rotate_left
  · have hh2 : (decide (0 ≤ t) && decide (t < (p.lns.length : Int))) = false := by
      cases hq : (decide (0 ≤ t) && decide (t < (p.lns.length : Int))) with
      | false => rfl
      | true => exact absurd (by simpa using hq) hin
    rw [hh2] at hh
    rw [fitF, at?_noneL hin]
    clear hin hh2
    go_enter Tryz.func8, Tryz.ntmps8
    go_wp2_with (go_at_call 27; fail)
    refine hh.mono ?_
    rintro e w1 ⟨rfl, hb1⟩
    have hbf := belT hbX hb1
    clear hh
    go_wp2
    go_ret
    exact ⟨rfl, hbf⟩
  rw [decide_eq_true hin.1, decide_eq_true hin.2] at hh
  obtain ⟨i, rfl⟩ := Int.eq_ofNat_of_zero_le hin.1
  have hi : i < p.lns.length := by omega
  have hi0 : (0 : Int) ≤ (i : Int) := hin.1
  have hi1 : (i : Int) < (p.lns.length : Int) := hin.2
  obtain ⟨N, hN⟩ : ∃ N, fitF p (i : Int) k n = N := ⟨_, rfl⟩
  rw [hN]
  rw [fitF, at?_some hin.1 hin.2] at hN
  simp only [Int.toNat_natCast] at hN
  obtain ⟨g, o, hga⟩ := hLr.some hi
  have hrw := Hid.mk (fun w1 (hb1 : Below X.heap.size X w1) => by have h := row_bel hLr hb1 (Nat.le_refl _); rw [hga] at h; exact h.item hi)
  rw [hga] at hh b5 hXe hBx ⊢
  generalize p.lns[i] = y at *
  clear hga hLr hin hi
  have hNH := Hid.mk hN
  clear hN
  go_enter Tryz.func8, Tryz.ntmps8
  go_wp2_with (go_at_call 27; fail)
  refine hh.mono ?_
  rintro e w1 ⟨rfl, hb1⟩
  obtain ⟨⟨-, -, -, -, -, d5, -⟩, v0, v1⟩ := hBx.out w1 hb1
  obtain ⟨cs, -, -, hE, hcc⟩ := hrw.out w1 hb1
  have hbW := Hid.mk (belT hbX hb1)
  have hK1 := hKX.later hb1
  have hO1 := row_bel hOr hb1 (Nat.le_refl _)
  clear hrw hh hXe b5 hKX hOr
  by_cases hk0 : k = 0
  · have hNz := hNH.out
    rw [if_pos hk0] at hNz
    subst hk0
    replace hNz := Hid.mk hNz
    clear hcc hE
    go_wp2
    go_ret
    exact ⟨congrArg (fun z => Ending.returned (.bool z)) hNz.out, hbW.out⟩
  have hNz := hNH.out
  rw [if_neg hk0, fitL] at hNz
  have hkb : (k == 0) = false := by simp [hk0]
  clear hNH hk0
  obtain ⟨a1, c1, rfl, -, -⟩ := hE
  have e0 : w1.cell? ⟨g, o + i * 7, none⟩ = some (.string ⟨y.name.toArray⟩) := hcc 0 (by decide)
  have e1 : w1.cell? ⟨g, o + i * 7 + 1, none⟩ = some (.bool y.input) := hcc 1 (by decide)
  have e2 : w1.cell? ⟨g, o + i * 7 + 2, none⟩ = some (.bool y.must) := hcc 2 (by decide)
  have e3 : w1.cell? ⟨g, o + i * 7 + 3, none⟩ = some (.int .i64 y.type) := hcc 3 (by decide)
  have e4 : w1.cell? ⟨g, o + i * 7 + 4, none⟩ = some (.int .i64 y.opts) := hcc 4 (by decide)
  have e5 : w1.cell? ⟨g, o + i * 7 + 5, none⟩ = some (.int .i64 y.group) := hcc 5 (by decide)
  have e6 : w1.cell? ⟨g, o + i * 7 + 6, none⟩ = some (.slice a1 y.cls.length c1) := hcc 6 (by decide)
  clear hcc
  go_upto_region 5 with fail
  go_cut [7] (fun pv wx => pv = .pointer (some ⟨w1.heap.size, 0, none⟩) ∧ Below w1.heap.size w1 wx ∧ wx.cell? ⟨w1.heap.size, 3, none⟩ = some (.int .i64 y.type) ∧ wx.cell? ⟨w1.heap.size, 4, none⟩ = some (.int .i64 y.opts))
  case first =>
    go_wp2_with fail
    go_meet
    exact ⟨rfl, bel_alloc _ _, cell_of_row _ _ 3 _ _ _ (heap_alloc_new _ _), cell_of_row _ _ 4 _ _ _ (heap_alloc_new _ _)⟩
  case rest =>
  obtain ⟨rfl, hb2, l3, l4⟩ := hcut
  obtain ⟨w2, hw2⟩ : ∃ w2, w2 = wc := ⟨_, rfl⟩
  rw [← hw2] at hb2 l3 l4 ⊢
  clear hw2 e0 e1 e2 e3 e4 e5 e6 d5 v0 v1
  have hbX2 := belT hb1 hb2
  obtain ⟨⟨q0, q1, q2, q3, q4, q5, q6⟩, v0, v1⟩ := hBx.out w2 hbX2
  have hbW2 := Hid.mk (belT hbW.out hb2)
  have hK2 := hK1.later hb2
  have hO2 := row_bel hO1 hb2 (Nat.le_refl _)
  have hlb : w1.heap.size < w2.heap.size := World.block_lt_of_cell? _ _ l3
  have hkind := isKind_any y.type w2
  obtain ⟨bk, hbk⟩ : ∃ bk, isK y.type = bk := ⟨_, rfl⟩
  rw [hbk] at hkind hNz
  clear hK1 hO1 hbW hb1 hb2
  cases bk with
  | false =>
    rw [Bool.false_and] at hNz
    replace hNz := Hid.mk hNz
    clear hBx hbk
    go_wp2_with (go_at_call 28; fail)
    refine hkind.mono ?_
    rintro e w3 ⟨rfl, rfl⟩
    clear hkind
    go_wp2
    go_ret
    exact ⟨congrArg (fun z => Ending.returned (.bool z)) hNz.out, hbW2.out⟩
  | true =>
    rw [Bool.true_and] at hNz
    by_cases hkt : k = y.type
    rotate_left
    · rw [show (k == y.type) = false by simp [hkt], Bool.false_and] at hNz
      have hkn : (k != y.type) = true := by simp [hkt]
      replace hNz := Hid.mk hNz
      clear hBx hbk
      go_wp2_with (go_at_call 28; fail)
      refine hkind.mono ?_
      rintro e w3 ⟨rfl, rfl⟩
      clear hkind
      go_wp2
      go_ret
      exact ⟨congrArg (fun z => Ending.returned (.bool z)) hNz.out, hbW2.out⟩
    rw [show (k == y.type) = true by simp [hkt], Bool.true_and] at hNz
    rw [← hkt] at l3 hkind
    have hval := valid_any k n w2 hK2
    obtain ⟨bv, hbv⟩ : ∃ bv, M.valid k n = bv := ⟨_, rfl⟩
    rw [hbv] at hval hNz
    clear hbk hkt hbv
    have hopt := Hid.mk (fun w (h : Below w2.heap.size w2 w) => hasOption_any p a3 a4 a5 (some ⟨g, o, none⟩) a7 c3 c4 c5 c6 c7 y.opts n w (row_bel hO2 h (Nat.le_refl _)))
    cases bv with
    | false =>
      rw [Bool.false_and] at hNz
      replace hNz := Hid.mk hNz
      clear hBx hopt
      go_wp2_with (go_at_call 28; fail)
      refine hkind.mono ?_
      rintro e w3 ⟨rfl, rfl⟩
      clear hkind
      go_wp2_with (go_at_call 29; fail)
      refine hval.mono ?_
      rintro e w4 ⟨rfl, hb4⟩
      have hbf := belT hbW2.out hb4
      clear hval
      go_wp2
      go_ret
      exact ⟨congrArg (fun z => Ending.returned (.bool z)) hNz.out, hbf⟩
    | true =>
      rw [Bool.true_and] at hNz
      replace hNz := Hid.mk hNz
      go_wp2_with (go_at_call 28; fail)
      refine hkind.mono ?_
      rintro e w3 ⟨rfl, rfl⟩
      clear hkind
      go_wp2_with (go_at_call 29; fail)
      refine hval.mono ?_
      rintro e w4 ⟨rfl, hb4⟩
      have hbf := belT hbW2.out hb4
      have l4' := (bel_cell hb4 hlb 4).trans l4
      have hop : Calls Tryz.prog 30 #[.agg #[.string ⟨p.name.toArray⟩, .int .i64 p.year, .slice a3 p.opts.length c3, .slice a4 p.tabs.length c4, .slice a5 p.grps.length c5, .slice (some ⟨g, o, none⟩) p.lns.length c6, .slice a7 p.cks.length c7], .int .i64 y.opts, .int .i64 n] w4 (Lk (.bool (hoF p y.opts n)) w4) := hopt.out w4 hb4
      clear hval q0 q1 q2 q3 q4 q5 q6 v0 v1 l3 l4 hopt
      obtain ⟨⟨q0, q1, q2, q3, q4, q5, q6⟩, v0, v1⟩ := hBx.out w4 (belT hbX2 hb4)
      clear hBx hb4
      by_cases hk5 : k = 5
      rotate_left
      · replace hNz := hNz.out
        rw [show (k != 5) = true by simp [hk5], Bool.true_or] at hNz
        replace hNz := Hid.mk hNz
        have hkn : (k != 5) = true := by simp [hk5]
        clear hop
        go_wp2
        go_ret
        exact ⟨congrArg (fun z => Ending.returned (.bool z)) hNz.out, hbf⟩
      replace hNz := hNz.out
      rw [show (k != 5) = false by simp [hk5], Bool.false_or] at hNz
      replace hNz := Hid.mk hNz
      subst hk5
      rw [hNz.out] at hop
      go_wp2_with (go_at_call 30; fail)
      refine hop.mono ?_
      rintro e w5 ⟨rfl, hb5⟩
      have hbg := belT hbf hb5
      clear hop
      go_wp2
      go_ret
      exact ⟨rfl, hbg⟩

end Go.Proofs.YthnmjafoplfikaaGreatDoor


namespace Go.Proofs.YthnmjafoplfikaaGreatDoor
open Go.RowKit

theorem rwi_any (n l h : Int) (w : World) : Calls Tryz.prog 33 #[.int .i64 n, .int .i64 l, .int .i64 h] w fun e w' => e = .returned (.bool (decide (l ≤ n ∧ n ≤ h))) ∧ w' = w := by
  by_cases c : l ≤ n
  · go_enter Tryz.func33, Tryz.ntmps33
    go_wp2
    go_ret
    exact ⟨by simp [c], rfl⟩
  · have h' : decide (l ≤ n) = false := by simpa using c
    have h2 : n < l := by omega
    go_enter Tryz.func33, Tryz.ntmps33
    go_wp2
    go_ret
    exact ⟨by simp, rfl⟩
theorem hoF_some (p : Pk) (i : Nat) (n : Int) (hi : i < p.opts.length) : hoF p (i : Int) n = (decide (0 ≤ n) && decide (n < ((p.opts[i]).2.length : Int))) := by
  unfold hoF
  rw [at?_some (by omega) (by omega)]
  simp only [Int.toNat_natCast]
  rw [at?_is]
theorem hoF_none (p : Pk) (t n : Int) (h : ¬ (0 ≤ t ∧ t < p.opts.length)) : hoF p t n = false := by
  unfold hoF
  rw [at?_noneL h]

set_option maxRecDepth 20000 in
set_option maxHeartbeats 1000000 in
theorem rfits_any (p : Pk) (a3 a4 a5 a6 a7 : Option Addr) (c3 c4 c5 c6 c7 : Nat) (t k n : Int) (W : World) (hK : Kinds W) (hO : RowR eO W AnyB p.opts a3) (hL : RowR eL W AnyB p.lns a6) (hl : p.lns.length ≤ 9223372036854775807) (ho : p.opts.length ≤ 9223372036854775807) (ho2 : ∀ o ∈ p.opts, o.2.length ≤ 9223372036854775807) : Calls Tryz.prog 12 #[.agg #[.string ⟨p.name.toArray⟩, .int .i64 p.year, .slice a3 p.opts.length c3, .slice a4 p.tabs.length c4, .slice a5 p.grps.length c5, .slice a6 p.lns.length c6, .slice a7 p.cks.length c7], .int .i64 t, .agg #[.int .i64 k, .int .i64 n]] W (Lk (.bool (fitF p t k n)) W) := by
  obtain ⟨A, hA⟩ : ∃ A, A = Obj.cells #[.string ⟨p.name.toArray⟩, .int .i64 p.year, .slice a3 p.opts.length c3, .slice a4 p.tabs.length c4, .slice a5 p.grps.length c5, .slice a6 p.lns.length c6, .slice a7 p.cks.length c7] 28 := ⟨_, rfl⟩
  have hb0 := bel_alloc W A
  have hr0 := heap_alloc_new W A
  have hs1 : (W.alloc A).heap.size = W.heap.size + 1 := by simp
  have hb1 := bel_alloc (W.alloc A) (.cells #[.int .i64 k, .int .i64 n] 30)
  have hr1 := heap_alloc_new (W.alloc A) (.cells #[.int .i64 k, .int .i64 n] 30)
  rw [hs1] at hr1
  obtain ⟨X, hX⟩ : ∃ X, X = (W.alloc A).alloc (.cells #[.int .i64 k, .int .i64 n] 30) := ⟨_, rfl⟩
  rw [← hX] at hb1 hr1
  have hbX : Below W.heap.size W X := belT hb0 hb1
  have hr0 : X.heap[W.heap.size]? = some A := bel_cells hb1 (by omega) hr0
  rw [hA] at hr0 hX
  have hXe : (W.alloc (.cells #[.string ⟨p.name.toArray⟩, .int .i64 p.year, .slice a3 p.opts.length c3, .slice a4 p.tabs.length c4, .slice a5 p.grps.length c5, .slice a6 p.lns.length c6, .slice a7 p.cks.length c7] 28)).alloc (.cells #[.int .i64 k, .int .i64 n] 30) = X := hX.symm
  have hX1 : W.heap.size + 1 < X.heap.size := (Array.getElem?_eq_some_iff.1 hr1).1
  have hX0 : W.heap.size < X.heap.size := by omega
  have hLr := row_bel hL hbX (Nat.le_refl _)
  have hOr := row_bel hO hbX (Nat.le_refl _)
  have hKX := hK.later hbX
  have hBx : Hid (∀ w : World, Below X.heap.size X w → (w.cell? ⟨W.heap.size, 0, none⟩ = some (.string ⟨p.name.toArray⟩) ∧ w.cell? ⟨W.heap.size, 1, none⟩ = some (.int .i64 p.year) ∧ w.cell? ⟨W.heap.size, 2, none⟩ = some (.slice a3 p.opts.length c3) ∧ w.cell? ⟨W.heap.size, 3, none⟩ = some (.slice a4 p.tabs.length c4) ∧ w.cell? ⟨W.heap.size, 4, none⟩ = some (.slice a5 p.grps.length c5) ∧ w.cell? ⟨W.heap.size, 5, none⟩ = some (.slice a6 p.lns.length c6) ∧ w.cell? ⟨W.heap.size, 6, none⟩ = some (.slice a7 p.cks.length c7)) ∧ w.cell? ⟨W.heap.size + 1, 0, none⟩ = some (.int .i64 k) ∧ w.cell? ⟨W.heap.size + 1, 1, none⟩ = some (.int .i64 n)) := ⟨fun w hw => ⟨⟨(bel_cell hw hX0 0).trans (cell_of_row _ _ 0 _ _ _ hr0), (bel_cell hw hX0 1).trans (cell_of_row _ _ 1 _ _ _ hr0), (bel_cell hw hX0 2).trans (cell_of_row _ _ 2 _ _ _ hr0), (bel_cell hw hX0 3).trans (cell_of_row _ _ 3 _ _ _ hr0), (bel_cell hw hX0 4).trans (cell_of_row _ _ 4 _ _ _ hr0), (bel_cell hw hX0 5).trans (cell_of_row _ _ 5 _ _ _ hr0), (bel_cell hw hX0 6).trans (cell_of_row _ _ 6 _ _ _ hr0)⟩, (bel_cell hw hX1 0).trans (cell_of_row _ _ 0 _ _ _ hr1), (bel_cell hw hX1 1).trans (cell_of_row _ _ 1 _ _ _ hr1)⟩⟩
  clear hX hA hr0 hr1 hb0 hb1 hs1 hO hL hK
  have hl' : (p.lns.length : Int) ≤ 9223372036854775807 := by omega
  have ho' : (p.opts.length : Int) ≤ 9223372036854775807 := by omega
  obtain ⟨⟨-, -, -, -, -, d5, -⟩, v0, v1⟩ := hBx.out X (Below.refl _ _)
  have hbX := Hid.mk hbX
  clear hKX
  by_cases h0 : 0 ≤ t
  rotate_left
  · have h0' : t < 0 := by omega
    rw [fitF, at?_noneL (fun h => h0 h.1)]
    clear h0 hBx
    go_enter Tryz.func12, Tryz.ntmps12
    go_wp2
    go_ret
    exact ⟨rfl, hbX.out⟩
  have h0' : ¬ t < 0 := by omega
  by_cases h1 : t < p.lns.length
  rotate_left
  · have h1' : (p.lns.length : Int) ≤ t := by omega
    rw [fitF, at?_noneL (fun h => h1 h.2)]
    clear h0 h1 hBx
    go_enter Tryz.func12, Tryz.ntmps12
    go_wp2
    go_ret
    exact ⟨rfl, hbX.out⟩
  have h1' : ¬ (p.lns.length : Int) ≤ t := by omega
  obtain ⟨i, rfl⟩ := Int.eq_ofNat_of_zero_le h0
  have hi : i < p.lns.length := by omega
  obtain ⟨N, hN⟩ : ∃ N, fitF p (i : Int) k n = N := ⟨_, rfl⟩
  rw [hN]
  rw [fitF, at?_some h0 h1] at hN
  simp only [Int.toNat_natCast] at hN
  obtain ⟨g, o, hga⟩ := hLr.some hi
  rw [hga] at hLr d5 hXe hBx ⊢
  obtain ⟨cs, -, -, hE, hcc⟩ := hLr.item hi
  generalize p.lns[i] = y at *
  clear hga hLr hi
  by_cases hk0 : k = 0
  · rw [if_pos hk0] at hN
    subst hk0
    replace hN := Hid.mk hN
    clear hcc hE hBx
    go_enter Tryz.func12, Tryz.ntmps12
    go_wp2
    go_ret
    exact ⟨congrArg (fun z => Ending.returned (.bool z)) hN.out, hbX.out⟩
  rw [if_neg hk0, fitL] at hN
  have hkb : (k == 0) = false := by simp [hk0]
  obtain ⟨a1, c1, rfl, -, -⟩ := hE
  have e0 : X.cell? ⟨g, o + i * 7, none⟩ = some (.string ⟨y.name.toArray⟩) := hcc 0 (by decide)
  have e1 : X.cell? ⟨g, o + i * 7 + 1, none⟩ = some (.bool y.input) := hcc 1 (by decide)
  have e2 : X.cell? ⟨g, o + i * 7 + 2, none⟩ = some (.bool y.must) := hcc 2 (by decide)
  have e3 : X.cell? ⟨g, o + i * 7 + 3, none⟩ = some (.int .i64 y.type) := hcc 3 (by decide)
  have e4 : X.cell? ⟨g, o + i * 7 + 4, none⟩ = some (.int .i64 y.opts) := hcc 4 (by decide)
  have e5 : X.cell? ⟨g, o + i * 7 + 5, none⟩ = some (.int .i64 y.group) := hcc 5 (by decide)
  have e6 : X.cell? ⟨g, o + i * 7 + 6, none⟩ = some (.slice a1 y.cls.length c1) := hcc 6 (by decide)
  replace hN := Hid.mk hN
  clear hcc
  go_enter Tryz.func12, Tryz.ntmps12
  go_upto_region 5 with fail
  go_cut [7] (fun pv wx => pv = .pointer (some ⟨X.heap.size, 0, none⟩) ∧ Below X.heap.size X wx ∧ wx.cell? ⟨X.heap.size, 3, none⟩ = some (.int .i64 y.type) ∧ wx.cell? ⟨X.heap.size, 4, none⟩ = some (.int .i64 y.opts))
  case first =>
    go_wp2_with fail
    go_meet
    exact ⟨rfl, bel_alloc _ _, cell_of_row _ _ 3 _ _ _ (heap_alloc_new _ _), cell_of_row _ _ 4 _ _ _ (heap_alloc_new _ _)⟩
  case rest =>
  obtain ⟨rfl, hb2, l3, l4⟩ := hcut
  obtain ⟨w2, hw2⟩ : ∃ w2, w2 = wc := ⟨_, rfl⟩
  rw [← hw2] at hb2 l3 l4 ⊢
  clear hw2 e0 e1 e2 e3 e4 e5 e6 d5 v0 v1
  obtain ⟨⟨-, -, q2, -, -, -, -⟩, v0, v1⟩ := hBx.out w2 hb2
  have hbW2 := Hid.mk (belT hbX.out hb2)
  have hO2 := row_bel hOr hb2 (Nat.le_refl _)
  clear hBx hOr hb2 hbX
  by_cases hkt : k = y.type
  rotate_left
  · have hNz := hN.out
    rw [show (k == y.type) = false by simp [hkt], Bool.false_and, Bool.and_false] at hNz
    have hkn : (k != y.type) = true := by simp [hkt]
    replace hNz := Hid.mk hNz
    clear hN hO2
    go_wp2
    go_ret
    exact ⟨congrArg (fun z => Ending.returned (.bool z)) hNz.out, hbW2.out⟩
  have hNz := hN.out
  rw [show (k == y.type) = true by simp [hkt], Bool.true_and, ← hkt] at hNz
  rw [← hkt] at l3
  clear hN hkt
  by_cases hk : isK k = true
  rotate_left
  · have hk' : isK k = false := by simpa using hk
    rw [hk', Bool.false_and] at hNz
    unfold isK at hk'
    have q1 : (k == 1) = false := by cases h : (k == 1) with | false => rfl | true => (have := eq_of_beq h; subst this; simp at hk')
    have q3 : (k == 2) = false := by cases h : (k == 2) with | false => rfl | true => (have := eq_of_beq h; subst this; simp at hk')
    have q4 : (k == 3) = false := by cases h : (k == 3) with | false => rfl | true => (have := eq_of_beq h; subst this; simp at hk')
    have q5 : (k == 4) = false := by cases h : (k == 4) with | false => rfl | true => (have := eq_of_beq h; subst this; simp at hk')
    have q6 : (k == 5) = false := by cases h : (k == 5) with | false => rfl | true => (have := eq_of_beq h; subst this; simp at hk')
    replace hNz := Hid.mk hNz
    clear hk hk' hO2 hk0
    go_wp2
    go_ret
    exact ⟨congrArg (fun z => Ending.returned (.bool z)) hNz.out, hbW2.out⟩
  rw [hk, Bool.true_and] at hNz
  have hkc : k = 1 ∨ k = 2 ∨ k = 3 ∨ k = 4 ∨ k = 5 := by
    unfold isK at hk
    simp at hk
    omega
  clear hk hk0
  rcases hkc with hkc | hkc
  · subst hkc
    have hw := rwi_any n (-9999999999999) 9999999999999 w2
    rw [show ((1 : Int) != 5) = true by decide, Bool.true_or, Bool.and_true] at hNz
    rw [show M.valid 1 n = decide ((-9999999999999 : Int) ≤ n ∧ n ≤ 9999999999999) from M.valid_tab 1 (by decide) n] at hNz
    rw [hNz] at hw
    clear hO2 hNz
    go_wp2_with (go_at_call 33; fail)
    refine hw.mono ?_
    rintro e w3 ⟨rfl, rfl⟩
    clear hw
    go_wp2
    go_ret
    exact ⟨rfl, hbW2.out⟩
  rcases hkc with hkc | hkc
  · subst hkc
    have hw := rwi_any n (-1000000000) 1000000000 w2
    rw [show ((2 : Int) != 5) = true by decide, Bool.true_or, Bool.and_true] at hNz
    rw [show M.valid 2 n = decide ((-1000000000 : Int) ≤ n ∧ n ≤ 1000000000) from M.valid_tab 2 (by decide) n] at hNz
    rw [hNz] at hw
    clear hO2 hNz
    go_wp2_with (go_at_call 33; fail)
    refine hw.mono ?_
    rintro e w3 ⟨rfl, rfl⟩
    clear hw
    go_wp2
    go_ret
    exact ⟨rfl, hbW2.out⟩
  rcases hkc with hkc | hkc
  · subst hkc
    have hw := rwi_any n (0) 1 w2
    rw [show ((3 : Int) != 5) = true by decide, Bool.true_or, Bool.and_true] at hNz
    rw [show M.valid 3 n = decide ((0 : Int) ≤ n ∧ n ≤ 1) from M.valid_tab 3 (by decide) n] at hNz
    rw [hNz] at hw
    clear hO2 hNz
    go_wp2_with (go_at_call 33; fail)
    refine hw.mono ?_
    rintro e w3 ⟨rfl, rfl⟩
    clear hw
    go_wp2
    go_ret
    exact ⟨rfl, hbW2.out⟩
  rcases hkc with hkc | hkc
  · subst hkc
    have hw := rwi_any n (0) 109572 w2
    rw [show ((4 : Int) != 5) = true by decide, Bool.true_or, Bool.and_true] at hNz
    rw [show M.valid 4 n = decide ((0 : Int) ≤ n ∧ n ≤ 109572) from M.valid_tab 4 (by decide) n] at hNz
    rw [hNz] at hw
    clear hO2 hNz
    go_wp2_with (go_at_call 33; fail)
    refine hw.mono ?_
    rintro e w3 ⟨rfl, rfl⟩
    clear hw
    go_wp2
    go_ret
    exact ⟨rfl, hbW2.out⟩
  subst hkc
  rw [show ((5 : Int) != 5) = false by decide, Bool.false_or] at hNz
  rw [show M.valid 5 n = decide ((0 : Int) ≤ n ∧ n ≤ 7) from M.valid_tab 5 (by decide) n] at hNz
  by_cases ht0 : 0 ≤ y.opts
  rotate_left
  · have ht0' : y.opts < 0 := by omega
    rw [hoF_none p _ _ (fun h => ht0 h.1), Bool.and_false] at hNz
    replace hNz := Hid.mk hNz
    have hd0 : decide (0 ≤ y.opts) = false := decide_eq_false ht0
    clear ht0 hO2
    go_wp2
    go_quiet (fail)
    go_wp2
    go_ret
    exact ⟨congrArg (fun z => Ending.returned (.bool z)) hNz.out, below_drewN hbW2.out _⟩
  have ht0' : ¬ y.opts < 0 := by omega
  by_cases ht1 : y.opts < p.opts.length
  rotate_left
  · have ht1' : (p.opts.length : Int) ≤ y.opts := by omega
    rw [hoF_none p _ _ (fun h => ht1 h.2), Bool.and_false] at hNz
    replace hNz := Hid.mk hNz
    have hd0 : decide (0 ≤ y.opts) = true := decide_eq_true ht0
    have hd1 : decide (y.opts < (p.opts.length : Int)) = false := decide_eq_false ht1
    clear hO2
    go_wp2
    go_quiet (fail)
    go_wp2
    go_ret
    exact ⟨congrArg (fun z => Ending.returned (.bool z)) hNz.out, below_drewN hbW2.out _⟩
  obtain ⟨j, hj⟩ := Int.eq_ofNat_of_zero_le ht0
  rw [hj] at l4 ht0 ht0' ht1 hNz
  have hjl : j < p.opts.length := by omega
  rw [hoF_some p j n hjl] at hNz
  have hz := ho2 _ (List.getElem_mem hjl)
  obtain ⟨g2, o2, hga⟩ := hO2.some hjl
  rw [hga] at hO2 q2
  obtain ⟨cs, -, -, hE, hcc⟩ := hO2.item hjl
  generalize p.opts[j] = z at *
  obtain ⟨a1, c1, rfl, -⟩ := hE
  have e1 : w2.cell? ⟨g2, o2 + j * 2 + 1, none⟩ = some (.slice a1 z.2.length c1) := hcc 1 (by decide)
  have hz' : (z.2.length : Int) ≤ 9223372036854775807 := by omega
  have hw := rwi_any n 0 7 w2
  by_cases hn : (0 : Int) ≤ n ∧ n ≤ 7
  · rw [decide_eq_true hn] at hw hNz
    rw [Bool.true_and, decide_eq_true hn.1, Bool.true_and] at hNz
    have hn1 := hn.2
    replace hNz := Hid.mk hNz
    have hwq : Hid (∀ w, Calls Tryz.prog 33 #[.int .i64 n, .int .i64 0, .int .i64 7] w fun e w' => e = .returned (.bool true) ∧ w' = w) := ⟨fun w => by have := rwi_any n 0 7 w; rwa [decide_eq_true hn] at this⟩
    have hd0 : decide (0 ≤ (j : Int)) = true := decide_eq_true ht0
    have hd1 : decide ((j : Int) < (p.opts.length : Int)) = true := decide_eq_true ht1
    clear hcc hO2 hj hga hw hn
    go_wp2
    go_quiet ((go_at_call 33; exact Calls.quiet_of_same (hwq.out _)))
    go_wp2
    go_ret
    exact ⟨congrArg (fun z => Ending.returned (.bool z)) hNz.out, below_drewN hbW2.out _⟩
  · rw [decide_eq_false hn] at hw hNz
    rw [Bool.false_and] at hNz
    replace hNz := Hid.mk hNz
    have hwq : Hid (∀ w, Calls Tryz.prog 33 #[.int .i64 n, .int .i64 0, .int .i64 7] w fun e w' => e = .returned (.bool false) ∧ w' = w) := ⟨fun w => by have := rwi_any n 0 7 w; rwa [decide_eq_false hn] at this⟩
    have hd0 : decide (0 ≤ (j : Int)) = true := decide_eq_true ht0
    have hd1 : decide ((j : Int) < (p.opts.length : Int)) = true := decide_eq_true ht1
    clear hcc hO2 hj hga hw hn
    go_wp2
    go_quiet ((go_at_call 33; exact Calls.quiet_of_same (hwq.out _)))
    go_wp2
    go_ret
    exact ⟨congrArg (fun z => Ending.returned (.bool z)) hNz.out, below_drewN hbW2.out _⟩

end Go.Proofs.YthnmjafoplfikaaGreatDoor


namespace Go.Proofs.YthnmjafoplfikaaGreatDoor
open Go.RowKit

theorem wr64 (z : Int) (h0 : -9223372036854775808 ≤ z) (h1 : z ≤ 9223372036854775807) : IntKind.i64.wrap z = z := by rw [IntKind.wrap_i64]; omega
theorem rinr_any (g : List UInt8 × Int) (W : World) : Calls Tryz.prog 35 #[.int .i64 g.2] W fun e W' => e = .returned (.int .i64 (rwF g)) ∧ W' = W := by
  obtain ⟨N, hN⟩ : ∃ N, rwF g = N := ⟨_, rfl⟩
  rw [hN]
  unfold rwF at hN
  by_cases h0 : g.2 < 0
  · have hN' : Hid (0 = N) := ⟨by omega⟩
    clear hN
    go_enter Tryz.func35, Tryz.ntmps35
    go_wp2
    go_ret
    exact ⟨congrArg (fun z => Ending.returned (.int .i64 z)) hN'.out, rfl⟩
  · by_cases h1 : 8 < g.2
    · have hN' : Hid (8 = N) := ⟨by omega⟩
      clear hN
      go_enter Tryz.func35, Tryz.ntmps35
      go_wp2
      go_ret
      exact ⟨congrArg (fun z => Ending.returned (.int .i64 z)) hN'.out, rfl⟩
    · have hN' : Hid (g.2 = N) := ⟨by omega⟩
      clear hN
      go_enter Tryz.func35, Tryz.ntmps35
      go_wp2
      go_ret
      exact ⟨congrArg (fun z => Ending.returned (.int .i64 z)) hN'.out, rfl⟩
set_option maxRecDepth 20000 in
set_option maxHeartbeats 1000000 in
theorem rrows_any (p : Pk) (a3 a4 a5 a6 a7 : Option Addr) (c3 c4 c5 c6 c7 : Nat) (t : Int) (W : World) (hG : RowR eG W AnyB p.grps a5) : Calls Tryz.prog 34 #[.agg #[.string ⟨p.name.toArray⟩, .int .i64 p.year, .slice a3 p.opts.length c3, .slice a4 p.tabs.length c4, .slice a5 p.grps.length c5, .slice a6 p.lns.length c6, .slice a7 p.cks.length c7], .int .i64 t] W (Lk (.int .i64 (ceF p t)) W) := by
  obtain ⟨A, hA⟩ : ∃ A, A = Obj.cells #[.string ⟨p.name.toArray⟩, .int .i64 p.year, .slice a3 p.opts.length c3, .slice a4 p.tabs.length c4, .slice a5 p.grps.length c5, .slice a6 p.lns.length c6, .slice a7 p.cks.length c7] 28 := ⟨_, rfl⟩
  have hb0 := bel_alloc W A
  have hr0 := heap_alloc_new W A
  obtain ⟨X, hX⟩ : ∃ X, X = W.alloc A := ⟨_, rfl⟩
  rw [← hX] at hb0 hr0
  rw [hA] at hr0 hX
  have hXl : W.heap.size < X.heap.size := (Array.getElem?_eq_some_iff.1 hr0).1
  have hXe : W.alloc (.cells #[.string ⟨p.name.toArray⟩, .int .i64 p.year, .slice a3 p.opts.length c3, .slice a4 p.tabs.length c4, .slice a5 p.grps.length c5, .slice a6 p.lns.length c6, .slice a7 p.cks.length c7] 28) = X := hX.symm
  have hGr := row_bel hG hb0 (Nat.le_refl _)
  have b4 : X.cell? ⟨W.heap.size, 4, none⟩ = some (.slice a5 p.grps.length c5) := cell_of_row _ _ 4 _ _ _ hr0
  clear hX hA hr0 hG
  by_cases h0 : 0 ≤ t
  rotate_left
  · have h0' : t < 0 := by omega
    rw [ceF, at?_noneL (fun h => h0 h.1)]
    clear h0
    go_enter Tryz.func34, Tryz.ntmps34
    go_wp2
    go_ret
    exact ⟨rfl, hb0⟩
  have h0' : ¬ t < 0 := by omega
  by_cases h1 : t < p.grps.length
  rotate_left
  · have h1' : (p.grps.length : Int) ≤ t := by omega
    rw [ceF, at?_noneL (fun h => h1 h.2)]
    clear h0 h1
    go_enter Tryz.func34, Tryz.ntmps34
    go_wp2
    go_ret
    exact ⟨rfl, hb0⟩
  have h1' : ¬ (p.grps.length : Int) ≤ t := by omega
  obtain ⟨i, rfl⟩ := Int.eq_ofNat_of_zero_le h0
  have hi : i < p.grps.length := by omega
  rw [ceF, at?_some h0 h1]
  simp only [Int.toNat_natCast]
  obtain ⟨g, o, hga⟩ := hGr.some hi
  rw [hga] at hGr b4 hXe ⊢
  obtain ⟨cs, -, -, ⟨rfl, -⟩, hcc⟩ := hGr.item hi
  have e1 : X.cell? ⟨g, o + i * 2 + 1, none⟩ = some (.int .i64 (p.grps[i]).2) := hcc 1 (by decide)
  have hcall := rinr_any (p.grps[i]) X
  generalize p.grps[i] = y at *
  clear hga hGr hcc hi
  go_enter Tryz.func34, Tryz.ntmps34
  go_wp2_with (go_at_call 35; fail)
  refine hcall.mono ?_
  rintro e w3 ⟨rfl, rfl⟩
  clear hcall
  go_wp2
  go_ret
  exact ⟨rfl, hb0⟩

theorem map_snoc {α : Type} (f : α → Int) (xs : List α) (k : Nat) (h : k < xs.length) : ((xs.take (k + 1)).map f).sum = ((xs.take k).map f).sum + f xs[k] := by
  rw [List.take_succ_eq_append_getElem h]
  simp only [List.map_append, List.map_cons, List.map_nil, List.sum_append, List.sum_cons, List.sum_nil]
  omega
theorem map_bd {α : Type} (f : α → Int) (hf : ∀ x, 0 ≤ f x ∧ f x ≤ 8) (xs : List α) : 0 ≤ (xs.map f).sum ∧ (xs.map f).sum ≤ 8 * (xs.length : Int) := by
  induction xs with
  | nil => simp
  | cons x xs ih =>
    have := hf x
    simp only [List.map_cons, List.sum_cons, List.length_cons]
    omega

set_option maxRecDepth 20000 in
set_option maxHeartbeats 1000000 in
theorem rcells_any (p : Pk) (a3 a4 a5 a6 a7 : Option Addr) (c3 c4 c5 c6 c7 : Nat) (W : World) (hR5 : RowR eG W AnyB p.grps a5) (hR6 : RowR eL W AnyB p.lns a6) (hR7 : RowR eK W AnyB p.cks a7) (h5 : p.grps.length ≤ 1000000) (h6 : p.lns.length ≤ 1000000) (h7 : p.cks.length ≤ 1000000) : Calls Tryz.prog 13 #[.agg #[.string ⟨p.name.toArray⟩, .int .i64 p.year, .slice a3 p.opts.length c3, .slice a4 p.tabs.length c4, .slice a5 p.grps.length c5, .slice a6 p.lns.length c6, .slice a7 p.cks.length c7]] W (Lk (.int .i64 (cesF p)) W) := by
  obtain ⟨A, hA⟩ : ∃ A, A = Obj.cells #[.string ⟨p.name.toArray⟩, .int .i64 p.year, .slice a3 p.opts.length c3, .slice a4 p.tabs.length c4, .slice a5 p.grps.length c5, .slice a6 p.lns.length c6, .slice a7 p.cks.length c7] 28 := ⟨_, rfl⟩
  have hb0 := bel_alloc W A
  have hr0 := heap_alloc_new W A
  obtain ⟨X, hX⟩ : ∃ X, X = W.alloc A := ⟨_, rfl⟩
  rw [← hX] at hb0 hr0
  rw [hA] at hr0 hX
  have hXl : W.heap.size < X.heap.size := (Array.getElem?_eq_some_iff.1 hr0).1
  have hXe : W.alloc (.cells #[.string ⟨p.name.toArray⟩, .int .i64 p.year, .slice a3 p.opts.length c3, .slice a4 p.tabs.length c4, .slice a5 p.grps.length c5, .slice a6 p.lns.length c6, .slice a7 p.cks.length c7] 28) = X := hX.symm
  have hGr := row_bel hR5 hb0 (Nat.le_refl _)
  have hLr := row_bel hR6 hb0 (Nat.le_refl _)
  have hKr := row_bel hR7 hb0 (Nat.le_refl _)
  have hBx : Hid (∀ w : World, Below X.heap.size X w → (w.cell? ⟨W.heap.size, 0, none⟩ = some (.string ⟨p.name.toArray⟩) ∧ w.cell? ⟨W.heap.size, 1, none⟩ = some (.int .i64 p.year) ∧ w.cell? ⟨W.heap.size, 2, none⟩ = some (.slice a3 p.opts.length c3) ∧ w.cell? ⟨W.heap.size, 3, none⟩ = some (.slice a4 p.tabs.length c4) ∧ w.cell? ⟨W.heap.size, 4, none⟩ = some (.slice a5 p.grps.length c5) ∧ w.cell? ⟨W.heap.size, 5, none⟩ = some (.slice a6 p.lns.length c6) ∧ w.cell? ⟨W.heap.size, 6, none⟩ = some (.slice a7 p.cks.length c7))) := ⟨fun w hw => ⟨(bel_cell hw hXl 0).trans (cell_of_row _ _ 0 _ _ _ hr0), (bel_cell hw hXl 1).trans (cell_of_row _ _ 1 _ _ _ hr0), (bel_cell hw hXl 2).trans (cell_of_row _ _ 2 _ _ _ hr0), (bel_cell hw hXl 3).trans (cell_of_row _ _ 3 _ _ _ hr0), (bel_cell hw hXl 4).trans (cell_of_row _ _ 4 _ _ _ hr0), (bel_cell hw hXl 5).trans (cell_of_row _ _ 5 _ _ _ hr0), (bel_cell hw hXl 6).trans (cell_of_row _ _ 6 _ _ _ hr0)⟩⟩
  have hces : Hid (cesF p = (p.lns.map (fun l => ceF p l.group)).sum + (p.grps.map rwF).sum + (p.cks.map (fun c => ceF p c.group)).sum) := ⟨by unfold cesF; omega⟩
  have hB1 := map_bd (fun l : Ln => ceF p l.group) (fun x => ceF_b p _) p.lns
  have hB2 := map_bd rwF rwF_b p.grps
  obtain ⟨T, hT⟩ : ∃ T, cesF p = T := ⟨_, rfl⟩
  rw [hT] at hces ⊢
  obtain ⟨N1, hN1⟩ : ∃ N1, (p.lns.map (fun l : Ln => ceF p l.group)).sum = N1 := ⟨_, rfl⟩
  obtain ⟨N2, hN2⟩ : ∃ N2, N1 + (p.grps.map rwF).sum = N2 := ⟨_, rfl⟩
  have hces2 : Hid (T = N2 + (p.cks.map (fun c => ceF p c.group)).sum) := ⟨by rw [hces.out, ← hN2, ← hN1]⟩
  have hN1b : 0 ≤ N1 ∧ N1 ≤ 8000000 := by rw [← hN1]; omega
  have hN2b : 0 ≤ N2 ∧ N2 ≤ 16000000 := by rw [← hN2]; omega
  replace hN1 := Hid.mk hN1
  replace hN2 := Hid.mk hN2
  clear hX hA hr0 hR5 hR6 hR7 hT hces hB1 hB2
  go_enter Tryz.func13, Tryz.ntmps13
  go_wp2
  go_loopw [3, 4] (fun nv iv wr => ∃ (k : Nat), k ≤ p.lns.length ∧ iv = .int .i64 (k : Int) ∧ nv = .int .i64 (0 + ((p.lns.take k).map (fun l : Ln => ceF p l.group)).sum) ∧ Below X.heap.size X wr) (fun _ iv _ => p.lns.length - (intOf iv).toNat)
  case atStart => exact ⟨0, Nat.zero_le _, rfl, by simp, Below.refl _ _⟩
  case round =>
    obtain ⟨k, hk, rfl, rfl, hb⟩ := hrel
    obtain ⟨wz, hwz⟩ : ∃ wz, wz = wr := ⟨_, rfl⟩
    rw [← hwz] at hb ⊢
    clear hwz
    obtain ⟨q0, q1, q2, q3, q4, q5, q6⟩ := hBx.out wz hb
    have hbd := map_bd (fun l : Ln => ceF p l.group) (fun x => ceF_b p x.group) (p.lns.take k)
    have htl : ((p.lns.take k).length : Int) ≤ 1000000 := by rw [List.length_take]; omega
    obtain ⟨n, hn⟩ : ∃ n, 0 + ((p.lns.take k).map (fun l : Ln => ceF p l.group)).sum = n := ⟨_, rfl⟩
    have hn0 : 0 ≤ n ∧ n ≤ 8000000 := by omega
    rw [hn]
    replace hn := Hid.mk hn
    clear hbd htl
    by_cases hlt : k < p.lns.length
    · have hlt' : (k : Int) < (p.lns.length : Int) := by omega
      have hk0 : (0 : Int) ≤ (k : Int) := by omega
      obtain ⟨ga, oa, hga⟩ := hLr.some hlt
      have hBd : Below wz.heap.size wz wz.drew := (Below.refl _ _).drew
      have hbD := belT hb hBd
      have hrw := row_bel hLr hbD (Nat.le_refl _)
      have hst := Hid.mk (map_snoc (fun l : Ln => ceF p l.group) p.lns k hlt)
      rw [hga] at hrw
      obtain ⟨cx, hcl, -, hE1, hcc⟩ := hrw.item hlt
      generalize p.lns[k] = y at *
      have hst : Hid (((p.lns.take (k + 1)).map (fun l : Ln => ceF p l.group)).sum = ((p.lns.take k).map (fun l : Ln => ceF p l.group)).sum + ceF p y.group) := hst
      obtain ⟨a1, c1, rfl, -, -⟩ := hE1
      have e1 : wz.drew.cell? ⟨ga, oa + k * 7 + 5, none⟩ = some (.int .i64 y.group) := hcc 5 (by decide)
      have hgl : ga < wz.drew.heap.size := World.block_lt_of_cell? _ _ e1
      have hcall := rrows_any p a3 a4 a5 a6 a7 c3 c4 c5 c6 c7 y.group wz.drew (row_bel hGr hbD (Nat.le_refl _))
      have hyb := ceF_b p y.group
      have hkeep : ∀ Y, Below wz.drew.heap.size wz.drew Y → Y.cell? ⟨W.heap.size, 0, none⟩ = some (.string ⟨p.name.toArray⟩) ∧ Y.cell? ⟨W.heap.size, 1, none⟩ = some (.int .i64 p.year) ∧ Y.cell? ⟨W.heap.size, 2, none⟩ = some (.slice a3 p.opts.length c3) ∧ Y.cell? ⟨W.heap.size, 3, none⟩ = some (.slice a4 p.tabs.length c4) ∧ Y.cell? ⟨W.heap.size, 4, none⟩ = some (.slice a5 p.grps.length c5) ∧ Y.cell? ⟨W.heap.size, 5, none⟩ = some (.slice (some ⟨ga, oa, none⟩) p.lns.length c6) ∧ Y.cell? ⟨W.heap.size, 6, none⟩ = some (.slice a7 p.cks.length c7) ∧ Y.cell? ⟨ga, oa + k * 7 + 5, none⟩ = some (.int .i64 y.group) := fun Y hY => by
        have h := hBx.out Y (belT hbD hY)
        rw [hga] at h
        obtain ⟨h0, h1, h2, h3, h4, h5, h6⟩ := h
        exact ⟨h0, h1, h2, h3, h4, h5, h6, (bel_cell hY hgl _).trans e1⟩
      have hS0 := hkeep wz.drew (Below.refl _ _)
      rw [hga] at q5 hcall
      have hkeepH := Hid.mk hkeep
      clear hcc hcl hrw hkeep e1 hga
      go_wp2_with fail
      go_region_held3 (fun Y => Y.cell? ⟨W.heap.size, 0, none⟩ = some (.string ⟨p.name.toArray⟩) ∧ Y.cell? ⟨W.heap.size, 1, none⟩ = some (.int .i64 p.year) ∧ Y.cell? ⟨W.heap.size, 2, none⟩ = some (.slice a3 p.opts.length c3) ∧ Y.cell? ⟨W.heap.size, 3, none⟩ = some (.slice a4 p.tabs.length c4) ∧ Y.cell? ⟨W.heap.size, 4, none⟩ = some (.slice a5 p.grps.length c5) ∧ Y.cell? ⟨W.heap.size, 5, none⟩ = some (.slice (some ⟨ga, oa, none⟩) p.lns.length c6) ∧ Y.cell? ⟨W.heap.size, 6, none⟩ = some (.slice a7 p.cks.length c7) ∧ Y.cell? ⟨ga, oa + k * 7 + 5, none⟩ = some (.int .i64 y.group)) (with_reducible assumption)
        (first | (go_at_call 34; refine hcall.mono ?_; rintro e w3 ⟨rfl, hb3⟩; have hS5 := hkeepH.out w3 hb3))
      have hbE := belT hbD hb3
      clear hcall q0 q1 q2 q3 q4 q5 q6 hkeepH hS0
      go_wp2
      go_roundw
      case rel => exact ⟨k + 1, by omega, by go_num, by rw [hst.out]; have h2 := hn.out; rw [show IntKind.i64.wrap (n + ceF p y.group) = n + ceF p y.group from wr64 _ (by omega) (by omega)]; simp only [Value.int.injEq, true_and]; omega, hbE⟩
      case measure => simp [intOf]; omega
    · have hlt' : ¬ (k : Int) < (p.lns.length : Int) := by omega
      obtain rfl : k = p.lns.length := by omega
      have hfin : Hid (N1 = n) := ⟨by have h2 := hn.out; rw [List.take_length] at h2; have h3 := hN1.out; omega⟩
      clear hn
      have hfin := hfin.out
      subst hfin
      have hbA := hb
      go_wp2
      clear hb q0 q1 q2 q3 q4 q5 q6 hlt hlt' hk hn0
      go_loopw [3, 5] (fun nv iv wr => ∃ (k : Nat), k ≤ p.grps.length ∧ iv = .int .i64 (k : Int) ∧ nv = .int .i64 (N1 + ((p.grps.take k).map rwF).sum) ∧ Below X.heap.size X wr) (fun _ iv _ => p.grps.length - (intOf iv).toNat)
      case atStart => exact ⟨0, Nat.zero_le _, rfl, by simp, hbA⟩
      case round =>
        obtain ⟨k, hk, rfl, rfl, hb⟩ := hrel
        obtain ⟨wz, hwz⟩ : ∃ wz, wz = wr := ⟨_, rfl⟩
        rw [← hwz] at hb ⊢
        clear hwz
        obtain ⟨q0, q1, q2, q3, q4, q5, q6⟩ := hBx.out wz hb
        have hbd := map_bd rwF (fun x => rwF_b x) (p.grps.take k)
        have htl : ((p.grps.take k).length : Int) ≤ 1000000 := by rw [List.length_take]; omega
        obtain ⟨n, hn⟩ : ∃ n, N1 + ((p.grps.take k).map rwF).sum = n := ⟨_, rfl⟩
        have hn0 : 0 ≤ n ∧ n ≤ 16000000 := by omega
        rw [hn]
        replace hn := Hid.mk hn
        clear hbd htl
        by_cases hlt : k < p.grps.length
        · have hlt' : (k : Int) < (p.grps.length : Int) := by omega
          have hk0 : (0 : Int) ≤ (k : Int) := by omega
          obtain ⟨ga, oa, hga⟩ := hGr.some hlt
          have hBd : Below wz.heap.size wz wz := Below.refl _ _
          have hbD := belT hb hBd
          have hrw := row_bel hGr hbD (Nat.le_refl _)
          have hst := Hid.mk (map_snoc rwF p.grps k hlt)
          rw [hga] at hrw
          obtain ⟨cx, hcl, -, hE1, hcc⟩ := hrw.item hlt
          generalize p.grps[k] = y at *
          have hst : Hid (((p.grps.take (k + 1)).map rwF).sum = ((p.grps.take k).map rwF).sum + rwF y) := hst
          obtain ⟨rfl, -⟩ := hE1
          have e1 : wz.cell? ⟨ga, oa + k * 2 + 1, none⟩ = some (.int .i64 y.2) := hcc 1 (by decide)
          have hgl : ga < wz.heap.size := World.block_lt_of_cell? _ _ e1
          have hcall := rinr_any y wz
          have hyb := rwF_b y
          have hkeep : ∀ Y, Below wz.heap.size wz Y → Y.cell? ⟨W.heap.size, 4, none⟩ = some (.slice (some ⟨ga, oa, none⟩) p.grps.length c5) ∧ Y.cell? ⟨ga, oa + k * 2 + 1, none⟩ = some (.int .i64 y.2) := fun Y hY => by
            have h := hBx.out Y (belT hbD hY)
            rw [hga] at h
            obtain ⟨h0, h1, h2, h3, h4, h5, h6⟩ := h
            exact ⟨h4, (bel_cell hY hgl _).trans e1⟩
          have hS0 := hkeep wz (Below.refl _ _)
          rw [hga] at q4
          have hkeepH := Hid.mk hkeep
          clear hcc hcl hrw hkeep e1 hga
          obtain ⟨g4, ge1⟩ := hS0
          go_wp2_with (go_at_call 35; fail)
          refine hcall.mono ?_
          rintro e w3 ⟨rfl, rfl⟩
          have hbE := hb
          clear hcall q0 q1 q2 q3 q4 q5 q6 hkeepH g4 ge1
          go_wp2
          go_roundw
          case rel => exact ⟨k + 1, by omega, by go_num, by rw [hst.out]; have h2 := hn.out; simp only [Value.int.injEq, true_and]; omega, hbE⟩
          case measure => simp [intOf]; omega
        · have hlt' : ¬ (k : Int) < (p.grps.length : Int) := by omega
          obtain rfl : k = p.grps.length := by omega
          have hfin : Hid (N2 = n) := ⟨by have h2 := hn.out; rw [List.take_length] at h2; have h3 := hN2.out; omega⟩
          clear hn
          have hfin := hfin.out
          subst hfin
          have hbB := hb
          go_wp2
          clear hb q0 q1 q2 q3 q4 q5 q6 hlt hlt' hk hn0
          go_loopw [3, 6] (fun nv iv wr => ∃ (k : Nat), k ≤ p.cks.length ∧ iv = .int .i64 (k : Int) ∧ nv = .int .i64 (N2 + ((p.cks.take k).map (fun c : Ck => ceF p c.group)).sum) ∧ Below X.heap.size X wr) (fun _ iv _ => p.cks.length - (intOf iv).toNat)
          case atStart => exact ⟨0, Nat.zero_le _, rfl, by simp, hbB⟩
          case round =>
            obtain ⟨k, hk, rfl, rfl, hb⟩ := hrel
            obtain ⟨wz, hwz⟩ : ∃ wz, wz = wr := ⟨_, rfl⟩
            rw [← hwz] at hb ⊢
            clear hwz
            obtain ⟨q0, q1, q2, q3, q4, q5, q6⟩ := hBx.out wz hb
            have hbd := map_bd (fun c : Ck => ceF p c.group) (fun x => ceF_b p x.group) (p.cks.take k)
            have htl : ((p.cks.take k).length : Int) ≤ 1000000 := by rw [List.length_take]; omega
            obtain ⟨n, hn⟩ : ∃ n, N2 + ((p.cks.take k).map (fun c : Ck => ceF p c.group)).sum = n := ⟨_, rfl⟩
            have hn0 : 0 ≤ n ∧ n ≤ 24000000 := by omega
            rw [hn]
            replace hn := Hid.mk hn
            clear hbd htl
            by_cases hlt : k < p.cks.length
            · have hlt' : (k : Int) < (p.cks.length : Int) := by omega
              have hk0 : (0 : Int) ≤ (k : Int) := by omega
              obtain ⟨ga, oa, hga⟩ := hKr.some hlt
              have hBd : Below wz.heap.size wz wz.drew := (Below.refl _ _).drew
              have hbD := belT hb hBd
              have hrw := row_bel hKr hbD (Nat.le_refl _)
              have hst := Hid.mk (map_snoc (fun c : Ck => ceF p c.group) p.cks k hlt)
              rw [hga] at hrw
              obtain ⟨cx, hcl, -, hE1, hcc⟩ := hrw.item hlt
              generalize p.cks[k] = y at *
              have hst : Hid (((p.cks.take (k + 1)).map (fun c : Ck => ceF p c.group)).sum = ((p.cks.take k).map (fun c : Ck => ceF p c.group)).sum + ceF p y.group) := hst
              obtain ⟨a1, c1, rfl, -, -, -⟩ := hE1
              have e1 : wz.drew.cell? ⟨ga, oa + k * 9 + 2, none⟩ = some (.int .i64 y.group) := hcc 2 (by decide)
              have hgl : ga < wz.drew.heap.size := World.block_lt_of_cell? _ _ e1
              have hcall := rrows_any p a3 a4 a5 a6 a7 c3 c4 c5 c6 c7 y.group wz.drew (row_bel hGr hbD (Nat.le_refl _))
              have hyb := ceF_b p y.group
              have hkeep : ∀ Y, Below wz.drew.heap.size wz.drew Y → Y.cell? ⟨W.heap.size, 0, none⟩ = some (.string ⟨p.name.toArray⟩) ∧ Y.cell? ⟨W.heap.size, 1, none⟩ = some (.int .i64 p.year) ∧ Y.cell? ⟨W.heap.size, 2, none⟩ = some (.slice a3 p.opts.length c3) ∧ Y.cell? ⟨W.heap.size, 3, none⟩ = some (.slice a4 p.tabs.length c4) ∧ Y.cell? ⟨W.heap.size, 4, none⟩ = some (.slice a5 p.grps.length c5) ∧ Y.cell? ⟨W.heap.size, 5, none⟩ = some (.slice a6 p.lns.length c6) ∧ Y.cell? ⟨W.heap.size, 6, none⟩ = some (.slice (some ⟨ga, oa, none⟩) p.cks.length c7) ∧ Y.cell? ⟨ga, oa + k * 9 + 2, none⟩ = some (.int .i64 y.group) := fun Y hY => by
                have h := hBx.out Y (belT hbD hY)
                rw [hga] at h
                obtain ⟨h0, h1, h2, h3, h4, h5, h6⟩ := h
                exact ⟨h0, h1, h2, h3, h4, h5, h6, (bel_cell hY hgl _).trans e1⟩
              have hS0 := hkeep wz.drew (Below.refl _ _)
              rw [hga] at q6 hcall
              have hkeepH := Hid.mk hkeep
              clear hcc hcl hrw hkeep e1 hga
              go_wp2_with fail
              go_region_held3 (fun Y => Y.cell? ⟨W.heap.size, 0, none⟩ = some (.string ⟨p.name.toArray⟩) ∧ Y.cell? ⟨W.heap.size, 1, none⟩ = some (.int .i64 p.year) ∧ Y.cell? ⟨W.heap.size, 2, none⟩ = some (.slice a3 p.opts.length c3) ∧ Y.cell? ⟨W.heap.size, 3, none⟩ = some (.slice a4 p.tabs.length c4) ∧ Y.cell? ⟨W.heap.size, 4, none⟩ = some (.slice a5 p.grps.length c5) ∧ Y.cell? ⟨W.heap.size, 5, none⟩ = some (.slice a6 p.lns.length c6) ∧ Y.cell? ⟨W.heap.size, 6, none⟩ = some (.slice (some ⟨ga, oa, none⟩) p.cks.length c7) ∧ Y.cell? ⟨ga, oa + k * 9 + 2, none⟩ = some (.int .i64 y.group)) (with_reducible assumption)
                (first | (go_at_call 34; refine hcall.mono ?_; rintro e w3 ⟨rfl, hb3⟩; have hS5 := hkeepH.out w3 hb3))
              have hbE := belT hbD hb3
              clear hcall q0 q1 q2 q3 q4 q5 q6 hkeepH hS0
              go_wp2
              go_roundw
              case rel => exact ⟨k + 1, by omega, by go_num, by rw [hst.out]; have h2 := hn.out; rw [show IntKind.i64.wrap (n + ceF p y.group) = n + ceF p y.group from wr64 _ (by omega) (by omega)]; simp only [Value.int.injEq, true_and]; omega, hbE⟩
              case measure => simp [intOf]; omega
            · have hlt' : ¬ (k : Int) < (p.cks.length : Int) := by omega
              obtain rfl : k = p.cks.length := by omega
              have hfin : Hid (T = n) := ⟨by have h2 := hn.out; rw [List.take_length] at h2; have h3 := hces2.out; omega⟩
              clear hn
              clear q0 q1 q2 q3 q5 q4
              go_wp2
              go_ret
              exact ⟨congrArg (fun z => Ending.returned (.int .i64 z)) hfin.out.symm, belT hb0 hb⟩

end Go.Proofs.YthnmjafoplfikaaGreatDoor


namespace Go.Proofs.YthnmjafoplfikaaGreatDoor
open Go.RowKit

theorem bne_self_s (s : List UInt8) : (s != s) = false := by simp
set_option maxRecDepth 20000 in
set_option maxHeartbeats 1000000 in
theorem sameTexts_eq (l : List (List UInt8)) (a b : Option Addr) (c d : Nat) (W : World) (hA : RowR eS W AnyB l a) (hB : RowR eS W AnyB l b) (hl : l.length ≤ 9223372036854775807) : Calls Tryz.prog 71 #[.slice a l.length c, .slice b l.length d] W (Lk (.bool true) W) := by
  have hl' : (l.length : Int) ≤ 9223372036854775807 := by omega
  go_enter Tryz.func71, Tryz.ntmps71
  go_wp2
  go_loopw [5] (fun iv wr => ∃ k : Nat, iv = .int .i64 (k : Int) ∧ k ≤ l.length ∧ Below W.heap.size W wr) (fun iv _ => l.length - (intOf iv).toNat)
  case atStart => exact ⟨0, rfl, Nat.zero_le _, Below.refl _ _⟩
  case round =>
    obtain ⟨k, rfl, hk, hb⟩ := hrel
    by_cases hlt : k < l.length
    · have hlt' : (k : Int) < (l.length : Int) := by omega
      have hk0 : (0 : Int) ≤ (k : Int) := by omega
      obtain ⟨g, o, hga⟩ := hA.some hlt
      obtain ⟨g', o', hgb⟩ := hB.some hlt
      have hAr := row_bel hA hb (Nat.le_refl _)
      have hBr := row_bel hB hb (Nat.le_refl _)
      rw [hga] at hAr
      rw [hgb] at hBr
      obtain ⟨cs, -, -, rfl, hcs⟩ := hAr.item hlt
      obtain ⟨ds, -, -, rfl, hds⟩ := hBr.item hlt
      have e0 : wr.cell? ⟨g, o + k, none⟩ = some (.string ⟨(l[k]).toArray⟩) := by
        have := hcs 0 (by decide)
        rw [show o + k * eS.k + 0 = o + k by show o + k * 1 + 0 = o + k; omega] at this
        exact this
      have e1 : wr.cell? ⟨g', o' + k, none⟩ = some (.string ⟨(l[k]).toArray⟩) := by
        have := hds 0 (by decide)
        rw [show o' + k * eS.k + 0 = o' + k by show o' + k * 1 + 0 = o' + k; omega] at this
        exact this
      generalize l[k] = y at *
      have hyy := bne_self_s y
      subst hga hgb
      clear hcs hds hAr hBr
      go_wp2
      go_quiet (fail)
      go_wp2
      go_roundw
      case rel => exact ⟨k + 1, by go_num, hlt, below_drewN hb _⟩
      case measure => simp only [intOf]; omega
    · have hlt' : ¬ (k : Int) < (l.length : Int) := by omega
      go_wp2
      go_ret
      exact ⟨rfl, hb⟩


set_option maxRecDepth 20000 in
set_option maxHeartbeats 2000000 in
theorem sameParts_eq (p : Pk) (a3 a4 a5 a6 a7 b3 b4 b5 b6 b7 : Option Addr) (ac3 ac4 ac5 ac6 ac7 bc3 bc4 bc5 bc6 bc7 l6 l7 m6 m7 : Nat) (W : World) (hz : (p.opts.length ≤ 9223372036854775807 ∧ ∀ x ∈ p.opts, x.2.length ≤ 9223372036854775807) ∧ (p.tabs.length ≤ 9223372036854775807 ∧ ∀ x ∈ p.tabs, x.2.length ≤ 9223372036854775807) ∧ p.grps.length ≤ 9223372036854775807) (hO1 : RowR eO W AnyB p.opts a3) (hO2 : RowR eO W AnyB p.opts b3) (hT1 : RowR eT W AnyB p.tabs a4) (hT2 : RowR eT W AnyB p.tabs b4) (hG1 : RowR eG W AnyB p.grps a5) (hG2 : RowR eG W AnyB p.grps b5) : Calls Tryz.prog 36 #[.agg #[.string ⟨p.name.toArray⟩, .int .i64 p.year, .slice a3 p.opts.length ac3, .slice a4 p.tabs.length ac4, .slice a5 p.grps.length ac5, .slice a6 l6 ac6, .slice a7 l7 ac7], .agg #[.string ⟨p.name.toArray⟩, .int .i64 p.year, .slice b3 p.opts.length bc3, .slice b4 p.tabs.length bc4, .slice b5 p.grps.length bc5, .slice b6 m6 bc6, .slice b7 m7 bc7]] W (Lk (.bool true) W) := by
  obtain ⟨A, hA⟩ : ∃ A, A = Obj.cells #[.string ⟨p.name.toArray⟩, .int .i64 p.year, .slice a3 p.opts.length ac3, .slice a4 p.tabs.length ac4, .slice a5 p.grps.length ac5, .slice a6 l6 ac6, .slice a7 l7 ac7] 28 := ⟨_, rfl⟩
  obtain ⟨B, hB⟩ : ∃ B, B = Obj.cells #[.string ⟨p.name.toArray⟩, .int .i64 p.year, .slice b3 p.opts.length bc3, .slice b4 p.tabs.length bc4, .slice b5 p.grps.length bc5, .slice b6 m6 bc6, .slice b7 m7 bc7] 28 := ⟨_, rfl⟩
  have hb0 := bel_alloc W A
  have hr0 := heap_alloc_new W A
  have hs1 : (W.alloc A).heap.size = W.heap.size + 1 := by simp
  have hb1 := bel_alloc (W.alloc A) B
  have hr1 := heap_alloc_new (W.alloc A) B
  rw [hs1] at hr1
  obtain ⟨X, hX⟩ : ∃ X, X = (W.alloc A).alloc B := ⟨_, rfl⟩
  rw [← hX] at hb1 hr1
  have hbX : Below W.heap.size W X := belT hb0 hb1
  have hr0 : X.heap[W.heap.size]? = some A := bel_cells hb1 (by omega) hr0
  rw [hA] at hr0 hX
  rw [hB] at hr1 hX
  have hXe : (W.alloc (.cells #[.string ⟨p.name.toArray⟩, .int .i64 p.year, .slice a3 p.opts.length ac3, .slice a4 p.tabs.length ac4, .slice a5 p.grps.length ac5, .slice a6 l6 ac6, .slice a7 l7 ac7] 28)).alloc (.cells #[.string ⟨p.name.toArray⟩, .int .i64 p.year, .slice b3 p.opts.length bc3, .slice b4 p.tabs.length bc4, .slice b5 p.grps.length bc5, .slice b6 m6 bc6, .slice b7 m7 bc7] 28) = X := hX.symm
  have hX1 : W.heap.size + 1 < X.heap.size := (Array.getElem?_eq_some_iff.1 hr1).1
  have hX0 : W.heap.size < X.heap.size := by omega
  replace hO1 := row_bel hO1 hbX (Nat.le_refl _)
  replace hO2 := row_bel hO2 hbX (Nat.le_refl _)
  replace hT1 := row_bel hT1 hbX (Nat.le_refl _)
  replace hT2 := row_bel hT2 hbX (Nat.le_refl _)
  replace hG1 := row_bel hG1 hbX (Nat.le_refl _)
  replace hG2 := row_bel hG2 hbX (Nat.le_refl _)
  have hBx : Hid (∀ w : World, Below X.heap.size X w → (w.cell? ⟨W.heap.size, 0, none⟩ = some (.string ⟨p.name.toArray⟩) ∧ w.cell? ⟨W.heap.size, 1, none⟩ = some (.int .i64 p.year) ∧ w.cell? ⟨W.heap.size, 2, none⟩ = some (.slice a3 p.opts.length ac3) ∧ w.cell? ⟨W.heap.size, 3, none⟩ = some (.slice a4 p.tabs.length ac4) ∧ w.cell? ⟨W.heap.size, 4, none⟩ = some (.slice a5 p.grps.length ac5)) ∧ w.cell? ⟨W.heap.size + 1, 0, none⟩ = some (.string ⟨p.name.toArray⟩) ∧ w.cell? ⟨W.heap.size + 1, 1, none⟩ = some (.int .i64 p.year) ∧ w.cell? ⟨W.heap.size + 1, 2, none⟩ = some (.slice b3 p.opts.length bc3) ∧ w.cell? ⟨W.heap.size + 1, 3, none⟩ = some (.slice b4 p.tabs.length bc4) ∧ w.cell? ⟨W.heap.size + 1, 4, none⟩ = some (.slice b5 p.grps.length bc5)) := ⟨fun w hw => ⟨⟨(bel_cell hw hX0 0).trans (cell_of_row _ _ 0 _ _ _ hr0), (bel_cell hw hX0 1).trans (cell_of_row _ _ 1 _ _ _ hr0), (bel_cell hw hX0 2).trans (cell_of_row _ _ 2 _ _ _ hr0), (bel_cell hw hX0 3).trans (cell_of_row _ _ 3 _ _ _ hr0), (bel_cell hw hX0 4).trans (cell_of_row _ _ 4 _ _ _ hr0)⟩, (bel_cell hw hX1 0).trans (cell_of_row _ _ 0 _ _ _ hr1), (bel_cell hw hX1 1).trans (cell_of_row _ _ 1 _ _ _ hr1), (bel_cell hw hX1 2).trans (cell_of_row _ _ 2 _ _ _ hr1), (bel_cell hw hX1 3).trans (cell_of_row _ _ 3 _ _ _ hr1), (bel_cell hw hX1 4).trans (cell_of_row _ _ 4 _ _ _ hr1)⟩⟩
  obtain ⟨⟨zo, zo2⟩, ⟨zt, zt2⟩, zg⟩ := hz
  have zo' : (p.opts.length : Int) ≤ 9223372036854775807 := by omega
  have zt' : (p.tabs.length : Int) ≤ 9223372036854775807 := by omega
  have zg' : (p.grps.length : Int) ≤ 9223372036854775807 := by omega
  have hbX := Hid.mk hbX
  have hnn := bne_self_s p.name
  replace zo2 := Hid.mk zo2
  replace zt2 := Hid.mk zt2
  obtain ⟨⟨x0, x1, x2, x3, x4⟩, y0, y1, y2, y3, y4⟩ := hBx.out X (Below.refl _ _)
  clear hX hA hB hr0 hr1 hb0 hb1 hs1
  go_enter Tryz.func36, Tryz.ntmps36
  go_wp2
  go_loopw [5] (fun iv wr => ∃ i : Nat, iv = .int .i64 (i : Int) ∧ i ≤ p.opts.length ∧ Below X.heap.size X wr) (fun iv _ => p.opts.length - (intOf iv).toNat)
  case atStart => exact ⟨0, rfl, Nat.zero_le _, Below.refl _ _⟩
  case round =>
    obtain ⟨i, rfl, hi, hb⟩ := hrel
    obtain ⟨wz, hwz⟩ : ∃ wz, wz = wr := ⟨_, rfl⟩
    rw [← hwz] at hb ⊢
    clear hwz
    obtain ⟨⟨x0, x1, x2, x3, x4⟩, y0, y1, y2, y3, y4⟩ := hBx.out wz hb
    by_cases hlt : i < p.opts.length
    · have hlt' : (i : Int) < (p.opts.length : Int) := by omega
      have hi0 : (0 : Int) ≤ (i : Int) := by omega
      obtain ⟨g, o, hga⟩ := hO1.some hlt
      obtain ⟨g', o', hgb⟩ := hO2.some hlt
      have hBd : Below wz.heap.size wz wz.drew := (Below.refl _ _).drew
      have hbD := belT hb hBd
      have hr1 := row_bel hO1 hbD (Nat.le_refl _)
      have hr2 := row_bel hO2 hbD (Nat.le_refl _)
      rw [hga] at hr1 x2
      rw [hgb] at hr2 y2
      obtain ⟨cs, -, -, hE1, hcs⟩ := hr1.item hlt
      obtain ⟨ds, -, -, hE2, hds⟩ := hr2.item hlt
      have hzy := zo2.out _ (List.getElem_mem hlt)
      generalize p.opts[i] = y at *
      obtain ⟨a1, ad1, rfl, hS1⟩ := hE1
      obtain ⟨b1, bd1, rfl, hS2⟩ := hE2
      have hyy := bne_self_s y.1
      have hcall := sameTexts_eq y.2 a1 b1 ad1 bd1 wz.drew hS1 hS2 hzy
      have hg1 : g < wz.drew.heap.size := World.block_lt_of_cell? _ _ (hcs 0 (by decide))
      have hg2 : g' < wz.drew.heap.size := World.block_lt_of_cell? _ _ (hds 0 (by decide))
      have hkeep : ∀ Y, Below wz.drew.heap.size wz.drew Y → Y.cell? ⟨W.heap.size, 2, none⟩ = some (.slice (some ⟨g, o, none⟩) p.opts.length ac3) ∧ Y.cell? ⟨W.heap.size + 1, 2, none⟩ = some (.slice (some ⟨g', o', none⟩) p.opts.length bc3) ∧ Y.cell? ⟨g, o + i * 2, none⟩ = some (.string ⟨y.1.toArray⟩) ∧ Y.cell? ⟨g, o + i * 2 + 1, none⟩ = some (.slice a1 y.2.length ad1) ∧ Y.cell? ⟨g', o' + i * 2, none⟩ = some (.string ⟨y.1.toArray⟩) ∧ Y.cell? ⟨g', o' + i * 2 + 1, none⟩ = some (.slice b1 y.2.length bd1) := fun Y hY => by
        have h := hBx.out Y (belT hbD hY)
        rw [hga, hgb] at h
        obtain ⟨⟨-, -, h2, -, -⟩, -, -, k2, -, -⟩ := h
        exact ⟨h2, k2, (bel_cell hY hg1 _).trans (hcs 0 (by decide)), (bel_cell hY hg1 _).trans (hcs 1 (by decide)), (bel_cell hY hg2 _).trans (hds 0 (by decide)), (bel_cell hY hg2 _).trans (hds 1 (by decide))⟩
      have hS0 := hkeep wz.drew (Below.refl _ _)
      have hkeepH := Hid.mk hkeep
      clear hcs hds hr1 hr2 hkeep hga hgb hS1 hS2
      go_wp2_with fail
      go_region_held3 (fun Y => Y.cell? ⟨W.heap.size, 2, none⟩ = some (.slice (some ⟨g, o, none⟩) p.opts.length ac3) ∧ Y.cell? ⟨W.heap.size + 1, 2, none⟩ = some (.slice (some ⟨g', o', none⟩) p.opts.length bc3) ∧ Y.cell? ⟨g, o + i * 2, none⟩ = some (.string ⟨y.1.toArray⟩) ∧ Y.cell? ⟨g, o + i * 2 + 1, none⟩ = some (.slice a1 y.2.length ad1) ∧ Y.cell? ⟨g', o' + i * 2, none⟩ = some (.string ⟨y.1.toArray⟩) ∧ Y.cell? ⟨g', o' + i * 2 + 1, none⟩ = some (.slice b1 y.2.length bd1)) (with_reducible assumption)
        (first | (go_at_call 71; refine hcall.mono ?_; rintro e w3 ⟨rfl, hb3⟩; have hS5 := hkeepH.out w3 hb3))
      have hbE := belT hbD hb3
      clear hcall hS0 hkeepH x0 x1 x2 x3 x4 y0 y1 y2 y3 y4 hS5
      go_wp2
      go_roundw
      case rel => exact ⟨i + 1, by go_num, hlt, hbE⟩
      case measure => simp only [intOf]; omega
    · have hlt' : ¬ (i : Int) < (p.opts.length : Int) := by omega
      have hbA := hb
      go_wp2
      clear hb x0 x1 x2 x3 x4 y0 y1 y2 y3 y4 hlt hlt' hi
      go_loopw [6] (fun iv wr => ∃ i : Nat, iv = .int .i64 (i : Int) ∧ i ≤ p.grps.length ∧ Below X.heap.size X wr) (fun iv _ => p.grps.length - (intOf iv).toNat)
      case atStart => exact ⟨0, rfl, Nat.zero_le _, hbA⟩
      case round =>
        obtain ⟨i, rfl, hi, hb⟩ := hrel
        obtain ⟨wz, hwz⟩ : ∃ wz, wz = wr := ⟨_, rfl⟩
        rw [← hwz] at hb ⊢
        clear hwz
        obtain ⟨⟨x0, x1, x2, x3, x4⟩, y0, y1, y2, y3, y4⟩ := hBx.out wz hb
        by_cases hlt : i < p.grps.length
        · have hlt' : (i : Int) < (p.grps.length : Int) := by omega
          have hi0 : (0 : Int) ≤ (i : Int) := by omega
          obtain ⟨g, o, hga⟩ := hG1.some hlt
          obtain ⟨g', o', hgb⟩ := hG2.some hlt
          have hr1 := row_bel hG1 hb (Nat.le_refl _)
          have hr2 := row_bel hG2 hb (Nat.le_refl _)
          rw [hga] at hr1 x4
          rw [hgb] at hr2 y4
          obtain ⟨cs, -, -, hE1, hcs⟩ := hr1.item hlt
          obtain ⟨ds, -, -, hE2, hds⟩ := hr2.item hlt
          generalize p.grps[i] = y at *
          obtain ⟨rfl, -⟩ := hE1
          obtain ⟨rfl, -⟩ := hE2
          have hyy := bne_self_s y.1
          have e0 : wz.cell? ⟨g, o + i * 2, none⟩ = some (.string ⟨y.1.toArray⟩) := hcs 0 (by decide)
          have e1 : wz.cell? ⟨g, o + i * 2 + 1, none⟩ = some (.int .i64 y.2) := hcs 1 (by decide)
          have f0 : wz.cell? ⟨g', o' + i * 2, none⟩ = some (.string ⟨y.1.toArray⟩) := hds 0 (by decide)
          have f1 : wz.cell? ⟨g', o' + i * 2 + 1, none⟩ = some (.int .i64 y.2) := hds 1 (by decide)
          clear hcs hds hr1 hr2 hga hgb
          go_wp2_with fail
          go_quiet (fail)
          clear e0 e1 f0 f1 x0 x1 x2 x3 x4 y0 y1 y2 y3 y4
          go_wp2
          go_roundw
          case rel => exact ⟨i + 1, by go_num, hlt, below_drewN hb _⟩
          case measure => simp only [intOf]; omega
        · have hlt' : ¬ (i : Int) < (p.grps.length : Int) := by omega
          have hbB := hb
          go_wp2
          clear hb x0 x1 x2 x3 x4 y0 y1 y2 y3 y4 hlt hlt' hi
          go_loopw [7] (fun iv wr => ∃ i : Nat, iv = .int .i64 (i : Int) ∧ i ≤ p.tabs.length ∧ Below X.heap.size X wr) (fun iv _ => p.tabs.length - (intOf iv).toNat)
          case atStart => exact ⟨0, rfl, Nat.zero_le _, hbB⟩
          case round =>
            obtain ⟨i, rfl, hi, hb⟩ := hrel
            obtain ⟨wz, hwz⟩ : ∃ wz, wz = wr := ⟨_, rfl⟩
            rw [← hwz] at hb ⊢
            clear hwz
            obtain ⟨⟨x0, x1, x2, x3, x4⟩, y0, y1, y2, y3, y4⟩ := hBx.out wz hb
            by_cases hlt : i < p.tabs.length
            · have hlt' : (i : Int) < (p.tabs.length : Int) := by omega
              have hi0 : (0 : Int) ≤ (i : Int) := by omega
              obtain ⟨g, o, hga⟩ := hT1.some hlt
              obtain ⟨g', o', hgb⟩ := hT2.some hlt
              have hr1 := row_bel hT1 hb (Nat.le_refl _)
              have hr2 := row_bel hT2 hb (Nat.le_refl _)
              rw [hga] at hr1 x3
              rw [hgb] at hr2 y3
              obtain ⟨cs, -, -, hE1, hcs⟩ := hr1.item hlt
              obtain ⟨ds, -, -, hE2, hds⟩ := hr2.item hlt
              have hzy := zt2.out _ (List.getElem_mem hlt)
              generalize p.tabs[i] = y at *
              obtain ⟨a1, ad1, rfl, hS1⟩ := hE1
              obtain ⟨b1, bd1, rfl, hS2⟩ := hE2
              have hyy := bne_self_s y.1
              have hzy' : (y.2.length : Int) ≤ 9223372036854775807 := by omega
              have e0 : wz.cell? ⟨g, o + i * 2, none⟩ = some (.string ⟨y.1.toArray⟩) := hcs 0 (by decide)
              have e1 : wz.cell? ⟨g, o + i * 2 + 1, none⟩ = some (.slice a1 y.2.length ad1) := hcs 1 (by decide)
              have f0 : wz.cell? ⟨g', o' + i * 2, none⟩ = some (.string ⟨y.1.toArray⟩) := hds 0 (by decide)
              have f1 : wz.cell? ⟨g', o' + i * 2 + 1, none⟩ = some (.slice b1 y.2.length bd1) := hds 1 (by decide)
              clear hcs hds hr1 hr2 hga hgb
              go_wp2_with fail
              go_quiet (fail)
              clear e0 e1 f0 f1 x0 x1 x2 x3 x4 y0 y1 y2 y3 y4
              go_wp2
              go_loopw [10] (fun iv wr => ∃ k : Nat, iv = .int .i64 (k : Int) ∧ k ≤ y.2.length ∧ Below wz.heap.size wz wr) (fun iv _ => y.2.length - (intOf iv).toNat)
              case atStart => exact ⟨0, rfl, Nat.zero_le _, below_drewN (Below.refl _ _) _⟩
              case round =>
                obtain ⟨k, rfl, hk, hbk⟩ := hrel
                obtain ⟨wy, hwy⟩ : ∃ wy, wy = wr := ⟨_, rfl⟩
                rw [← hwy] at hbk ⊢
                clear hwy
                by_cases hlk : k < y.2.length
                · have hlk' : (k : Int) < (y.2.length : Int) := by omega
                  have hk0 : (0 : Int) ≤ (k : Int) := by omega
                  obtain ⟨ga, oa, hga⟩ := hS1.some hlk
                  obtain ⟨gb, ob, hgb⟩ := hS2.some hlk
                  have hr1 := row_bel hS1 hbk (Nat.le_refl _)
                  have hr2 := row_bel hS2 hbk (Nat.le_refl _)
                  rw [hga] at hr1 ⊢
                  rw [hgb] at hr2 ⊢
                  obtain ⟨cs, -, -, hE1, hcs⟩ := hr1.item hlk
                  obtain ⟨ds, -, -, hE2, hds⟩ := hr2.item hlk
                  generalize y.2[k] = z at *
                  obtain ⟨rfl, -, -⟩ := hE1
                  obtain ⟨rfl, -, -⟩ := hE2
                  have e0 : wy.cell? ⟨ga, oa + k * 2, none⟩ = some (.int .i64 z.1) := hcs 0 (by decide)
                  have e1 : wy.cell? ⟨ga, oa + k * 2 + 1, none⟩ = some (.int .i64 z.2) := hcs 1 (by decide)
                  have f0 : wy.cell? ⟨gb, ob + k * 2, none⟩ = some (.int .i64 z.1) := hds 0 (by decide)
                  have f1 : wy.cell? ⟨gb, ob + k * 2 + 1, none⟩ = some (.int .i64 z.2) := hds 1 (by decide)
                  subst hga hgb
                  clear hcs hds hr1 hr2
                  go_wp2_with fail
                  go_quiet (fail)
                  clear e0 e1 f0 f1
                  go_wp2
                  go_roundw
                  case rel => exact ⟨k + 1, by go_num, hlk, below_drewN hbk _⟩
                  case measure => simp only [intOf]; omega
                · have hlk' : ¬ (k : Int) < (y.2.length : Int) := by omega
                  go_wp2
                  go_roundw
                  case rel => exact ⟨i + 1, by go_num, hlt, belT hb hbk⟩
                  case measure => simp only [intOf]; omega
            · have hlt' : ¬ (i : Int) < (p.tabs.length : Int) := by omega
              go_wp2
              go_ret
              exact ⟨rfl, belT hbX.out hb⟩

end Go.Proofs.YthnmjafoplfikaaGreatDoor
