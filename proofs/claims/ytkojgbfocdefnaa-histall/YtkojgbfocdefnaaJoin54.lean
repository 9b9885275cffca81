import Derived.Test.YtkojgbfocdefnaaJoin53
import Derived.Deep.RegionHeld3
import Derived.Test.YtkojgbfocdefnaaHPlay
import Derived.Test.YtkojgbfocdefnaaRfOf
import Derived.Deep.DeepCutAuto
namespace Go.Proofs.Ytkojgbfocdefnaa
open Go.RowKit

theorem hist_bd {W : World} {hb : Nat} {Ls : List Es} {p : Nat} (h : HistAt W hb Ls p) : (∀ L ∈ Ls, L.length ≤ 200) ∧ ∀ L ∈ Ls, Rises L := by
  have hR := fun i hi => histR (i := i) h hi
  obtain ⟨h1, h2, g, cap, vs, h3, h4, h5, h6⟩ := h
  constructor
  · intro L hL
    obtain ⟨i, hi, rfl⟩ := List.mem_iff_getElem.1 hL
    exact (h6.2 i hi).2.2
  · intro L hL
    obtain ⟨i, hi, rfl⟩ := List.mem_iff_getElem.1 hL
    exact hR i hi

set_option maxRecDepth 4000 in
set_option maxHeartbeats 2000000 in
theorem psteps_any (hb rb : Nat) (Ls : List Es) (p : Nat) (ms : Int) (w : World) (h : HistAt w hb Ls p) (hr : RhAt w rb Ls p) : Calls Try.prog 10 #[.agg #[.pointer (some ⟨hb, 0, none⟩), .pointer (some ⟨rb, 0, none⟩)], .int .i64 ms] w fun e w' => e = .returned (.bool true) ∧ Below w.heap.size w w' := by
  have hb0 := (Below.refl w.heap.size w).alloc (Nat.le_refl _) (.cells #[.pointer (some ⟨hb, 0, none⟩), .pointer (some ⟨rb, 0, none⟩)] 27)
  have hrow := heap_alloc_last w (.cells #[.pointer (some ⟨hb, 0, none⟩), .pointer (some ⟨rb, 0, none⟩)] 27)
  have hB1 := hb0.drew
  have hth := pthrough_any hb rb Ls p ms _ (h.later hB1) (hr.later hB1)
  have hS1 : (w.alloc (.cells #[.pointer (some ⟨hb, 0, none⟩), .pointer (some ⟨rb, 0, none⟩)] 27)).drew.cell? ⟨w.heap.size, 0, none⟩ = some (.pointer (some ⟨hb, 0, none⟩)) ∧ (w.alloc (.cells #[.pointer (some ⟨hb, 0, none⟩), .pointer (some ⟨rb, 0, none⟩)] 27)).drew.cell? ⟨w.heap.size, 1, none⟩ = some (.pointer (some ⟨rb, 0, none⟩)) := ⟨cell_of_row _ _ 0 _ _ _ hrow, cell_of_row _ _ 1 _ _ _ hrow⟩
  have hPl : w.heap.size < (w.alloc (.cells #[.pointer (some ⟨hb, 0, none⟩), .pointer (some ⟨rb, 0, none⟩)] 27)).drew.heap.size := (Array.getElem?_eq_some_iff.1 hrow).1
  clear h hr hb0 hrow
  go_enter Try.func10, Try.ntmps10
  go_upto_region 1 with fail
  generalize w.alloc (.cells #[.pointer (some ⟨hb, 0, none⟩), .pointer (some ⟨rb, 0, none⟩)] 27) = X at *
  obtain ⟨P, hP⟩ : ∃ P, P = w.heap.size := ⟨_, rfl⟩
  rw [← hP] at hS1 hPl ⊢
  have hPH : Hid (P = w.heap.size) := hP
  clear hP
  go_region_held3 (fun X => X.cell? ⟨P, 0, none⟩ = some (.pointer (some ⟨hb, 0, none⟩)) ∧ X.cell? ⟨P, 1, none⟩ = some (.pointer (some ⟨rb, 0, none⟩))) (with_reducible assumption)
    (first | (go_at_call 5; refine (stepsF_any hb _).mono ?_; rintro e w5 ⟨rfl, rfl⟩) | (go_at_call 11; refine hth.mono ?_; rintro e w6 ⟨rfl, hb6⟩; have hS6 : w6.cell? ⟨P, 0, none⟩ = some (.pointer (some ⟨hb, 0, none⟩)) ∧ w6.cell? ⟨P, 1, none⟩ = some (.pointer (some ⟨rb, 0, none⟩)) := ⟨(hb6.cell (p := ⟨P, 0, none⟩) hPl).trans hS1.1, (hb6.cell (p := ⟨P, 1, none⟩) hPl).trans hS1.2⟩))
  have hB6 := below_step hB1 hb6
  clear hth hS1 hS6
  go_wp2
  go_ret
  exact ⟨rfl, hB6⟩

set_option maxRecDepth 4000 in
set_option maxHeartbeats 2000000 in
theorem ptouched_any (hb rb : Nat) (Ls : List Es) (p : Nat) (a b : Int) (w : World) (h : HistAt w hb Ls p) (hr : RhAt w rb Ls p) : Calls Try.prog 36 #[.agg #[.pointer (some ⟨hb, 0, none⟩), .pointer (some ⟨rb, 0, none⟩)], .int .i64 a, .int .i64 b] w fun e w' => e = .returned (.bool true) ∧ Below w.heap.size w w' := by
  have hb0 := (Below.refl w.heap.size w).alloc (Nat.le_refl _) (.cells #[.pointer (some ⟨hb, 0, none⟩), .pointer (some ⟨rb, 0, none⟩)] 27)
  have hrow := heap_alloc_last w (.cells #[.pointer (some ⟨hb, 0, none⟩), .pointer (some ⟨rb, 0, none⟩)] 27)
  have hB1 := hb0.drew
  obtain ⟨ks, hks, hK⟩ := touK_any Ls p a b (hist_bd h).1 (hist_bd h).2
  have hth : Hid (∀ W n, Below w.heap.size w W → TouAt W n hb a b → _) := fun W n hW hT => pkeys_of hb rb n Ls p a b ks hks hK W (h.later hW) (hr.later hW) hT
  have hS1 : (w.alloc (.cells #[.pointer (some ⟨hb, 0, none⟩), .pointer (some ⟨rb, 0, none⟩)] 27)).drew.cell? ⟨w.heap.size, 0, none⟩ = some (.pointer (some ⟨hb, 0, none⟩)) ∧ (w.alloc (.cells #[.pointer (some ⟨hb, 0, none⟩), .pointer (some ⟨rb, 0, none⟩)] 27)).drew.cell? ⟨w.heap.size, 1, none⟩ = some (.pointer (some ⟨rb, 0, none⟩)) := ⟨cell_of_row _ _ 0 _ _ _ hrow, cell_of_row _ _ 1 _ _ _ hrow⟩
  have hPl : w.heap.size < (w.alloc (.cells #[.pointer (some ⟨hb, 0, none⟩), .pointer (some ⟨rb, 0, none⟩)] 27)).drew.heap.size := (Array.getElem?_eq_some_iff.1 hrow).1
  clear h hr hb0 hrow hks hK
  go_enter Try.func36, Try.ntmps36
  go_upto_region 1 with fail
  generalize w.alloc (.cells #[.pointer (some ⟨hb, 0, none⟩), .pointer (some ⟨rb, 0, none⟩)] 27) = X at *
  obtain ⟨P, hP⟩ : ∃ P, P = w.heap.size := ⟨_, rfl⟩
  rw [← hP] at hS1 hPl ⊢
  have hPH : Hid (P = w.heap.size) := hP
  clear hP
  have hto := touched_any hb a b X.drew
  go_region_held3 (fun X => X.cell? ⟨P, 0, none⟩ = some (.pointer (some ⟨hb, 0, none⟩)) ∧ X.cell? ⟨P, 1, none⟩ = some (.pointer (some ⟨rb, 0, none⟩))) (with_reducible assumption)
    (first | (go_at_call 6; refine hto.mono ?_; rintro e w5 ⟨rfl, hT5, hb5⟩; have hB5 := below_step hB1 hb5; have hS5 : w5.cell? ⟨P, 0, none⟩ = some (.pointer (some ⟨hb, 0, none⟩)) ∧ w5.cell? ⟨P, 1, none⟩ = some (.pointer (some ⟨rb, 0, none⟩)) := ⟨(hb5.cell (p := ⟨P, 0, none⟩) hPl).trans hS1.1, (hb5.cell (p := ⟨P, 1, none⟩) hPl).trans hS1.2⟩; have hPl5 : P < w5.heap.size := Nat.lt_of_lt_of_le hPl hb5.size; have hth5 := hth.out _ _ hB5 hT5) | (go_at_call 12; refine hth5.mono ?_; rintro e w6 ⟨rfl, hb6⟩; have hS6 : w6.cell? ⟨P, 0, none⟩ = some (.pointer (some ⟨hb, 0, none⟩)) ∧ w6.cell? ⟨P, 1, none⟩ = some (.pointer (some ⟨rb, 0, none⟩)) := ⟨(hb6.cell (p := ⟨P, 0, none⟩) hPl5).trans hS5.1, (hb6.cell (p := ⟨P, 1, none⟩) hPl5).trans hS5.2⟩))
  have hB6 := below_step hB5 hb6
  clear hth hS1 hS6 hS5 hth5
  go_wp2
  go_ret
  exact ⟨rfl, hB6⟩

end Go.Proofs.Ytkojgbfocdefnaa


namespace Go.Proofs.Ytkojgbfocdefnaa
open Go.RowKit

def PS (hb rb k : Nat) : Prop := k = hb ∨ k = rb
/-- What a call of a script leaves of a pair. -/
def plP (hb rb : Nat) (w : World) (e : Ending) (w' : World) : Prop := ∃ Ls p, e = .returned (.bool true) ∧ HistAt w' hb Ls p ∧ RhAt w' rb Ls p ∧ GrS (PS hb rb) w w'
theorem hist_mv {X Y : World} {hb x : Nat} {Ls : List Es} {p : Nat} (h : HistAt X hb Ls p) (hx : Hd X x) (hg : X.grownBy Y (some x)) (hne : hb ≠ x) : HistAt Y hb Ls p :=
  h.grO (S := fun k => k = x) (fun k e => by subst e; exact hx.odd) (.of_grown hg rfl) hne
theorem rh_mv {X Y : World} {hb x : Nat} {Ls : List Es} {p : Nat} (h : RhAt X hb Ls p) (hx : Hd X x) (hg : X.grownBy Y (some x)) (hne : hb ≠ x) : RhAt Y hb Ls p :=
  h.grO (S := fun k => k = x) (fun k e => by subst e; exact hx.odd) (.of_grown hg rfl) hne
theorem map_mv {X Y : World} {mb x : Nat} {L : Es} (h : MapE X mb L) (hx : Hd X x) (hg : X.grownBy Y (some x)) : MapE Y mb L :=
  h.grO (S := fun k => k = x) (fun k e => by subst e; exact hx.odd) (.of_grown hg rfl)
theorem rf_mv {X Y : World} {mb x : Nat} {L : Es} (h : RfAt X mb L) (hx : Hd X x) (hg : X.grownBy Y (some x)) : RfAt Y mb L :=
  h.grO (S := fun k => k = x) (fun k e => by subst e; exact hx.odd) (.of_grown hg rfl)
theorem ps_h {hb rb : Nat} {X Y : World} (hg : X.grownBy Y (some hb)) : GrS (PS hb rb) X Y := .of_grown hg (.inl rfl)
theorem ps_r {hb rb : Nat} {X Y : World} (hg : X.grownBy Y (some rb)) : GrS (PS hb rb) X Y := .of_grown hg (.inr rfl)
theorem ps_b {hb rb : Nat} {X Y : World} (hg : Below X.heap.size X Y) : GrS (PS hb rb) X Y := .of_below hg

/-- The two boxes that a call of plays begins with. -/
def boxW (w : World) (hb rb : Nat) (kd a b : Int) (sc nl : Bool) (lv : Value) : World := (w.alloc (.cells #[.pointer (some ⟨hb, 0, none⟩), .pointer (some ⟨rb, 0, none⟩)] 27)).alloc (.cells #[.int .i64 kd, .int .i64 a, .int .i64 b, .bool sc, .bool nl, lv] 36)
/-- What lies in them. -/
def boxC (P hb rb : Nat) (kd a b : Int) (sc nl : Bool) (lv : Value) (X : World) : Prop := X.cell? ⟨P, 0, none⟩ = some (.pointer (some ⟨hb, 0, none⟩)) ∧ X.cell? ⟨P, 1, none⟩ = some (.pointer (some ⟨rb, 0, none⟩)) ∧ X.cell? ⟨P + 1, 0, none⟩ = some (.int .i64 kd) ∧ X.cell? ⟨P + 1, 1, none⟩ = some (.int .i64 a) ∧ X.cell? ⟨P + 1, 2, none⟩ = some (.int .i64 b) ∧ X.cell? ⟨P + 1, 3, none⟩ = some (.bool sc) ∧ X.cell? ⟨P + 1, 4, none⟩ = some (.bool nl) ∧ X.cell? ⟨P + 1, 5, none⟩ = some lv
theorem box_b (w : World) (hb rb : Nat) (kd a b : Int) (sc nl : Bool) (lv : Value) : Below w.heap.size w (boxW w hb rb kd a b sc nl lv) := ((Below.refl _ _).alloc (Nat.le_refl _) _).alloc (by simp) _
theorem box_c (w : World) (hb rb : Nat) (kd a b : Int) (sc nl : Bool) (lv : Value) (h1 : hb < w.heap.size) (h2 : rb < w.heap.size) : ∀ X, GrS (PS hb rb) (boxW w hb rb kd a b sc nl lv) X → boxC w.heap.size hb rb kd a b sc nl lv X := by
  intro X hX
  have r1 := heap_alloc_last w (.cells #[.pointer (some ⟨hb, 0, none⟩), .pointer (some ⟨rb, 0, none⟩)] 27)
  have r2 := heap_alloc_last (w.alloc (.cells #[.pointer (some ⟨hb, 0, none⟩), .pointer (some ⟨rb, 0, none⟩)] 27)) (.cells #[.int .i64 kd, .int .i64 a, .int .i64 b, .bool sc, .bool nl, lv] 36)
  have s1 : (w.alloc (.cells #[.pointer (some ⟨hb, 0, none⟩), .pointer (some ⟨rb, 0, none⟩)] 27)).heap.size = w.heap.size + 1 := by simp
  have q1 := (Below.heap_alloc (w.alloc (.cells #[.pointer (some ⟨hb, 0, none⟩), .pointer (some ⟨rb, 0, none⟩)] 27)) (.cells #[.int .i64 kd, .int .i64 a, .int .i64 b, .bool sc, .bool nl, lv] 36) w.heap.size (by simp)).trans r1
  rw [s1] at r2
  have t1 := (hX.block w.heap.size (Array.getElem?_eq_some_iff.1 q1).1 (fun e => by rcases e with e | e <;> omega)).trans q1
  have t2 := (hX.block (w.heap.size + 1) (Array.getElem?_eq_some_iff.1 r2).1 (fun e => by rcases e with e | e <;> omega)).trans r2
  exact ⟨cell_of_row _ _ 0 _ _ _ t1, cell_of_row _ _ 1 _ _ _ t1, cell_of_row _ _ 0 _ _ _ t2, cell_of_row _ _ 1 _ _ _ t2, cell_of_row _ _ 2 _ _ _ t2, cell_of_row _ _ 3 _ _ _ t2, cell_of_row _ _ 4 _ _ _ t2, cell_of_row _ _ 5 _ _ _ t2⟩

end Go.Proofs.Ytkojgbfocdefnaa


namespace Go.Proofs.Ytkojgbfocdefnaa
open Go.RowKit

set_option maxRecDepth 4000 in
set_option maxHeartbeats 2000000 in
theorem plays_undo (hb rb : Nat) (Ls : List Es) (p : Nat) (a b : Int) (sc nl : Bool) (lv : Value) (w : World) (h : HistAt w hb Ls p) (hr : RhAt w rb Ls p) : Calls Try.prog 9 #[.agg #[.pointer (some ⟨hb, 0, none⟩), .pointer (some ⟨rb, 0, none⟩)], .agg #[.int .i64 2, .int .i64 a, .int .i64 b, .bool sc, .bool nl, lv]] w (plP hb rb w) := by
  have hne := hist_ref_ne h hr
  have hB0 := box_b w hb rb 2 a b sc nl lv
  have hbx : Hid (∀ X, GrS (PS hb rb) (boxW w hb rb 2 a b sc nl lv) X → boxC w.heap.size hb rb 2 a b sc nl lv X) := box_c w hb rb 2 a b sc nl lv h.lt hr.lt
  have h1 := h.later hB0
  have hr1 := hr.later hB0
  obtain ⟨x1, x2, x3, x4, x5, x6, x7, x8⟩ := hbx.out _ (GrS.refl _ _)
  clear h hr
  cases p with
  | zero =>
    have hu := undo_none hb Ls _ h1
    unfold boxW at *
    go_enter Try.func9, Try.ntmps9
    go_wp2_with (go_at_call 27; fail)
    refine hu.mono ?_
    rintro e w1 ⟨rfl, hb1⟩
    have hB1 := below_step hB0 hb1
    have hru := rundo_none rb Ls _ (hr1.later hb1)
    clear hu x1 x2 x3 x4 x5 x6 x7 x8
    obtain ⟨x1, x2, x3, x4, x5, x6, x7, x8⟩ := hbx.out _ (GrS.of_below hb1)
    go_wp2_with (go_at_call 28; fail)
    refine hru.mono ?_
    rintro e w2 ⟨rfl, hb2⟩
    clear hru
    have hs := psame_nil w2
    go_wp2_with (go_at_call 29; fail)
    refine hs.mono ?_
    rintro e w3 ⟨rfl, hb3⟩
    clear hs
    have hBf := below_step (below_step hB1 hb2) hb3
    have hBg := below_step (below_step hb1 hb2) hb3
    go_wp2
    go_ret
    exact ⟨Ls, 0, rfl, h1.later hBg, hr1.later hBg, ps_b hBf⟩
  | succ p =>
    have hu := undo_some hb Ls p _ h1
    unfold boxW at *
    go_enter Try.func9, Try.ntmps9
    go_wp2_with (go_at_call 27; fail)
    refine hu.mono ?_
    rintro e w1 ⟨mb, rfl, hm1, hl1, hh1, hg1⟩
    have hr2 := rh_mv hr1 h1.hd hg1 (Ne.symm hne)
    have hru := rundo_some rb Ls p _ hr2
    clear hu x1 x2 x3 x4 x5 x6 x7 x8
    obtain ⟨x1, x2, x3, x4, x5, x6, x7, x8⟩ := hbx.out _ (ps_h hg1)
    go_wp2_with (go_at_call 28; fail)
    refine hru.mono ?_
    rintro e w2 ⟨rm, rfl, hrm, -, hrr, hg2⟩
    clear hru
    have hm2 := map_mv hm1 hr2.hd hg2
    have hh2 := hist_mv hh1 hr2.hd hg2 hne
    have hs := psame_any mb rm _ hl1 w2 hm2 hrm
    go_wp2_with (go_at_call 29; fail)
    refine hs.mono ?_
    rintro e w3 ⟨rfl, hb3⟩
    clear hs
    have hGf := (((ps_b hB0).trans (ps_h hg1)).trans (ps_r hg2)).trans (ps_b (hb := hb) (rb := rb) hb3)
    go_wp2
    go_ret
    exact ⟨Ls, p, rfl, hh2.later hb3, hrr.later hb3, hGf⟩

set_option maxRecDepth 4000 in
set_option maxHeartbeats 2000000 in
theorem plays_redo (hb rb : Nat) (Ls : List Es) (p : Nat) (a b : Int) (sc nl : Bool) (lv : Value) (w : World) (h : HistAt w hb Ls p) (hr : RhAt w rb Ls p) : Calls Try.prog 9 #[.agg #[.pointer (some ⟨hb, 0, none⟩), .pointer (some ⟨rb, 0, none⟩)], .agg #[.int .i64 3, .int .i64 a, .int .i64 b, .bool sc, .bool nl, lv]] w (plP hb rb w) := by
  have hne := hist_ref_ne h hr
  have hB0 := box_b w hb rb 3 a b sc nl lv
  have hbx : Hid (∀ X, GrS (PS hb rb) (boxW w hb rb 3 a b sc nl lv) X → boxC w.heap.size hb rb 3 a b sc nl lv X) := box_c w hb rb 3 a b sc nl lv h.lt hr.lt
  have h1 := h.later hB0
  have hr1 := hr.later hB0
  obtain ⟨x1, x2, x3, x4, x5, x6, x7, x8⟩ := hbx.out _ (GrS.refl _ _)
  clear h hr
  have hpl := h1.1
  by_cases hq : p + 1 = Ls.length
  · have hu := redo_none hb Ls p hq _ h1
    unfold boxW at *
    go_enter Try.func9, Try.ntmps9
    go_wp2_with (go_at_call 30; fail)
    refine hu.mono ?_
    rintro e w1 ⟨rfl, hb1⟩
    have hB1 := below_step hB0 hb1
    have hru := rredo_none rb Ls p hq _ (hr1.later hb1)
    clear hu x1 x2 x3 x4 x5 x6 x7 x8
    obtain ⟨x1, x2, x3, x4, x5, x6, x7, x8⟩ := hbx.out _ (GrS.of_below hb1)
    go_wp2_with (go_at_call 31; fail)
    refine hru.mono ?_
    rintro e w2 ⟨rfl, hb2⟩
    clear hru
    have hs := psame_nil w2
    go_wp2_with (go_at_call 29; fail)
    refine hs.mono ?_
    rintro e w3 ⟨rfl, hb3⟩
    clear hs
    have hBf := below_step (below_step hB1 hb2) hb3
    have hBg := below_step (below_step hb1 hb2) hb3
    go_wp2
    go_ret
    exact ⟨Ls, p, rfl, h1.later hBg, hr1.later hBg, ps_b hBf⟩
  · have hq2 : p + 1 < Ls.length := by omega
    have hu := redo_some hb Ls p hq2 _ h1
    unfold boxW at *
    go_enter Try.func9, Try.ntmps9
    go_wp2_with (go_at_call 30; fail)
    refine hu.mono ?_
    rintro e w1 ⟨mb, rfl, hm1, hl1, hh1, hg1⟩
    have hr2 := rh_mv hr1 h1.hd hg1 (Ne.symm hne)
    have hru := rredo_some rb Ls p hq2 _ hr2
    clear hu x1 x2 x3 x4 x5 x6 x7 x8
    obtain ⟨x1, x2, x3, x4, x5, x6, x7, x8⟩ := hbx.out _ (ps_h hg1)
    go_wp2_with (go_at_call 31; fail)
    refine hru.mono ?_
    rintro e w2 ⟨rm, rfl, hrm, -, hrr, hg2⟩
    clear hru
    have hm2 := map_mv hm1 hr2.hd hg2
    have hh2 := hist_mv hh1 hr2.hd hg2 hne
    have hs := psame_any mb rm _ hl1 w2 hm2 hrm
    go_wp2_with (go_at_call 29; fail)
    refine hs.mono ?_
    rintro e w3 ⟨rfl, hb3⟩
    clear hs
    have hGf := (((ps_b hB0).trans (ps_h hg1)).trans (ps_r hg2)).trans (ps_b (hb := hb) (rb := rb) hb3)
    go_wp2
    go_ret
    exact ⟨Ls, p + 1, rfl, hh2.later hb3, hrr.later hb3, hGf⟩

set_option maxRecDepth 4000 in
set_option maxHeartbeats 2000000 in
theorem plays_depth (hb rb : Nat) (Ls : List Es) (p : Nat) (a b : Int) (sc nl : Bool) (lv : Value) (w : World) (h : HistAt w hb Ls p) (hr : RhAt w rb Ls p) : Calls Try.prog 9 #[.agg #[.pointer (some ⟨hb, 0, none⟩), .pointer (some ⟨rb, 0, none⟩)], .agg #[.int .i64 5, .int .i64 a, .int .i64 b, .bool sc, .bool nl, lv]] w (plP hb rb w) := by
  have hne := hist_ref_ne h hr
  have hB0 := box_b w hb rb 5 a b sc nl lv
  have hbx : Hid (∀ X, GrS (PS hb rb) (boxW w hb rb 5 a b sc nl lv) X → boxC w.heap.size hb rb 5 a b sc nl lv X) := box_c w hb rb 5 a b sc nl lv h.lt hr.lt
  have h1 := h.later hB0
  have hr1 := hr.later hB0
  obtain ⟨x1, x2, x3, x4, x5, x6, x7, x8⟩ := hbx.out _ (GrS.refl _ _)
  clear h hr
  obtain ⟨r, hr0⟩ : ∃ r, p + 1 + r = Ls.length := ⟨Ls.length - (p + 1), by have := h1.1; omega⟩
  have hu := depth_any hb Ls p r hr0 _ h1
  have e1 : ((p : Int) == (p : Int)) = true := by simp
  have e2 : ((r : Int) == (r : Int)) = true := by simp
  unfold boxW at *
  go_enter Try.func9, Try.ntmps9
  go_wp2_with (go_at_call 32; fail)
  refine hu.mono ?_
  rintro e w1 ⟨rfl, hb1⟩
  have hB1 := below_step hB0 hb1
  have hru := rdepth_any rb Ls p r hr0 _ (hr1.later hb1)
  clear hu x1 x2 x3 x4 x5 x6 x7 x8
  obtain ⟨x1, x2, x3, x4, x5, x6, x7, x8⟩ := hbx.out _ (GrS.of_below hb1)
  go_wp2_with (go_at_call 33; fail)
  refine hru.mono ?_
  rintro e w2 ⟨rfl, hb2⟩
  clear hru
  have hBf := below_step hB1 hb2
  have hBg := below_step hb1 hb2
  go_wp2
  go_ret
  exact ⟨Ls, p, by simp, h1.later hBg, hr1.later hBg, ps_b hBf⟩

set_option maxRecDepth 4000 in
set_option maxHeartbeats 2000000 in
theorem plays_forget (hb rb : Nat) (Ls : List Es) (p : Nat) (a b : Int) (sc nl : Bool) (lv : Value) (w : World) (h : HistAt w hb Ls p) (hr : RhAt w rb Ls p) : Calls Try.prog 9 #[.agg #[.pointer (some ⟨hb, 0, none⟩), .pointer (some ⟨rb, 0, none⟩)], .agg #[.int .i64 6, .int .i64 a, .int .i64 b, .bool sc, .bool nl, lv]] w (plP hb rb w) := by
  have hne := hist_ref_ne h hr
  have hB0 := box_b w hb rb 6 a b sc nl lv
  have hbx : Hid (∀ X, GrS (PS hb rb) (boxW w hb rb 6 a b sc nl lv) X → boxC w.heap.size hb rb 6 a b sc nl lv X) := box_c w hb rb 6 a b sc nl lv h.lt hr.lt
  have h1 := h.later hB0
  have hr1 := hr.later hB0
  obtain ⟨x1, x2, x3, x4, x5, x6, x7, x8⟩ := hbx.out _ (GrS.refl _ _)
  clear h hr
  by_cases hq : a < 0 ∨ (p : Int) < a
  · have hu := forget_bad hb Ls p a hq _ h1
    unfold boxW at *
    go_enter Try.func9, Try.ntmps9
    go_wp2_with (go_at_call 34; fail)
    refine hu.mono ?_
    rintro e w1 ⟨rfl, hb1⟩
    have hB1 := below_step hB0 hb1
    have hru := rforget_bad rb Ls p a hq _ (hr1.later hb1)
    clear hu x1 x2 x3 x4 x5 x6 x7 x8
    obtain ⟨x1, x2, x3, x4, x5, x6, x7, x8⟩ := hbx.out _ (GrS.of_below hb1)
    go_wp2_with (go_at_call 35; fail)
    refine hru.mono ?_
    rintro e w2 ⟨rfl, hb2⟩
    clear hru
    have hBf := below_step hB1 hb2
    have hBg := below_step hb1 hb2
    go_wp2
    go_ret
    exact ⟨Ls, p, rfl, h1.later hBg, hr1.later hBg, ps_b hBf⟩
  · obtain ⟨n, rfl⟩ : ∃ n : Nat, a = (n : Int) := ⟨a.toNat, by omega⟩
    have hn : n ≤ p := by omega
    have hu := forget_some hb Ls p n hn _ h1
    clear hq
    unfold boxW at *
    go_enter Try.func9, Try.ntmps9
    go_wp2_with (go_at_call 34; fail)
    refine hu.mono ?_
    rintro e w1 ⟨rfl, hh1, hg1⟩
    have hr2 := rh_mv hr1 h1.hd hg1 (Ne.symm hne)
    have hru := rforget_some rb Ls p n hn _ hr2
    clear hu x1 x2 x3 x4 x5 x6 x7 x8
    obtain ⟨x1, x2, x3, x4, x5, x6, x7, x8⟩ := hbx.out _ (ps_h hg1)
    go_wp2_with (go_at_call 35; fail)
    refine hru.mono ?_
    rintro e w2 ⟨rfl, hrr, hg2⟩
    clear hru
    have hh2 := hist_mv hh1 hr2.hd hg2 hne
    have hGf := ((ps_b hB0).trans (ps_h hg1)).trans (ps_r (hb := hb) hg2)
    go_wp2
    go_ret
    exact ⟨_, _, rfl, hh2, hrr, hGf⟩

set_option maxRecDepth 4000 in
set_option maxHeartbeats 2000000 in
theorem plays_steps (hb rb : Nat) (Ls : List Es) (p : Nat) (a b : Int) (sc nl : Bool) (lv : Value) (w : World) (h : HistAt w hb Ls p) (hr : RhAt w rb Ls p) : Calls Try.prog 9 #[.agg #[.pointer (some ⟨hb, 0, none⟩), .pointer (some ⟨rb, 0, none⟩)], .agg #[.int .i64 7, .int .i64 a, .int .i64 b, .bool sc, .bool nl, lv]] w (plP hb rb w) := by
  have hne := hist_ref_ne h hr
  have hB0 := box_b w hb rb 7 a b sc nl lv
  have hbx : Hid (∀ X, GrS (PS hb rb) (boxW w hb rb 7 a b sc nl lv) X → boxC w.heap.size hb rb 7 a b sc nl lv X) := box_c w hb rb 7 a b sc nl lv h.lt hr.lt
  have h1 := h.later hB0
  have hr1 := hr.later hB0
  obtain ⟨x1, x2, x3, x4, x5, x6, x7, x8⟩ := hbx.out _ (GrS.refl _ _)
  clear h hr
  have hu := psteps_any hb rb Ls p a _ h1 hr1
  unfold boxW at *
  go_enter Try.func9, Try.ntmps9
  go_wp2_with (go_at_call 10; fail)
  refine hu.mono ?_
  rintro e w1 ⟨rfl, hb1⟩
  clear hu
  have hBf := below_step hB0 hb1
  go_wp2
  go_ret
  exact ⟨Ls, p, rfl, h1.later hb1, hr1.later hb1, ps_b hBf⟩

set_option maxRecDepth 4000 in
set_option maxHeartbeats 2000000 in
theorem plays_touched (hb rb : Nat) (Ls : List Es) (p : Nat) (a b : Int) (sc nl : Bool) (lv : Value) (w : World) (h : HistAt w hb Ls p) (hr : RhAt w rb Ls p) : Calls Try.prog 9 #[.agg #[.pointer (some ⟨hb, 0, none⟩), .pointer (some ⟨rb, 0, none⟩)], .agg #[.int .i64 8, .int .i64 a, .int .i64 b, .bool sc, .bool nl, lv]] w (plP hb rb w) := by
  have hne := hist_ref_ne h hr
  have hB0 := box_b w hb rb 8 a b sc nl lv
  have hbx : Hid (∀ X, GrS (PS hb rb) (boxW w hb rb 8 a b sc nl lv) X → boxC w.heap.size hb rb 8 a b sc nl lv X) := box_c w hb rb 8 a b sc nl lv h.lt hr.lt
  have h1 := h.later hB0
  have hr1 := hr.later hB0
  obtain ⟨x1, x2, x3, x4, x5, x6, x7, x8⟩ := hbx.out _ (GrS.refl _ _)
  clear h hr
  have hu := ptouched_any hb rb Ls p a b _ h1 hr1
  unfold boxW at *
  go_enter Try.func9, Try.ntmps9
  go_wp2_with (go_at_call 36; fail)
  refine hu.mono ?_
  rintro e w1 ⟨rfl, hb1⟩
  clear hu
  have hBf := below_step hB0 hb1
  go_wp2
  go_ret
  exact ⟨Ls, p, rfl, h1.later hb1, hr1.later hb1, ps_b hBf⟩

set_option maxRecDepth 4000 in
set_option maxHeartbeats 2000000 in
theorem plays_pushNil (hb rb : Nat) (Ls : List Es) (p : Nat) (a b : Int) (sc : Bool) (lv : Value) (w : World) (h : HistAt w hb Ls p) (hr : RhAt w rb Ls p) : Calls Try.prog 9 #[.agg #[.pointer (some ⟨hb, 0, none⟩), .pointer (some ⟨rb, 0, none⟩)], .agg #[.int .i64 1, .int .i64 a, .int .i64 b, .bool sc, .bool true, lv]] w (plP hb rb w) := by
  have hne := hist_ref_ne h hr
  have hB0 := box_b w hb rb 1 a b sc true lv
  have hbx : Hid (∀ X, GrS (PS hb rb) (boxW w hb rb 1 a b sc true lv) X → boxC w.heap.size hb rb 1 a b sc true lv X) := box_c w hb rb 1 a b sc true lv h.lt hr.lt
  have h1 := h.later hB0
  have hr1 := hr.later hB0
  obtain ⟨x1, x2, x3, x4, x5, x6, x7, x8⟩ := hbx.out _ (GrS.refl _ _)
  clear h hr
  by_cases hq : p = 32
  · subst hq
    have hu := push_full0 hb Ls _ h1
    unfold boxW at *
    go_enter Try.func9, Try.ntmps9
    go_wp2_with (go_at_call 23; fail)
    refine hu.mono ?_
    rintro e w1 ⟨rfl, hb1⟩
    have hB1 := below_step hB0 hb1
    have hru := rpush_full rb (.pointer none) Ls _ (hr1.later hb1)
    clear hu x1 x2 x3 x4 x5 x6 x7 x8
    obtain ⟨x1, x2, x3, x4, x5, x6, x7, x8⟩ := hbx.out _ (GrS.of_below hb1)
    go_wp2_with (go_at_call 24; fail)
    refine hru.mono ?_
    rintro e w2 ⟨rfl, hb2⟩
    clear hru
    have hBf := below_step hB1 hb2
    have hBg := below_step hb1 hb2
    go_wp2
    go_ret
    exact ⟨Ls, 32, rfl, h1.later hBg, hr1.later hBg, ps_b hBf⟩
  · have hq2 : p < 32 := by have := h1.1; have := h1.2.1; omega
    have hu := push_nil hb Ls p hq2 _ h1
    unfold boxW at *
    go_enter Try.func9, Try.ntmps9
    go_wp2_with (go_at_call 23; fail)
    refine hu.mono ?_
    rintro e w1 ⟨rfl, hh1, hg1⟩
    have hr2 := rh_mv hr1 h1.hd hg1 (Ne.symm hne)
    have hru := rpush_some rb (.pointer none) Ls p hq2 [] (by simp) _ hr2 (.inr ⟨rfl, rfl⟩)
    clear hu x1 x2 x3 x4 x5 x6 x7 x8
    obtain ⟨x1, x2, x3, x4, x5, x6, x7, x8⟩ := hbx.out _ (ps_h hg1)
    go_wp2_with (go_at_call 24; fail)
    refine hru.mono ?_
    rintro e w2 ⟨rfl, hrr, hg2⟩
    clear hru
    have hh2 := hist_mv hh1 hr2.hd hg2 hne
    have hGf := ((ps_b hB0).trans (ps_h hg1)).trans (ps_r (hb := hb) hg2)
    go_wp2
    go_ret
    exact ⟨_, _, rfl, hh2, hrr, hGf⟩

end Go.Proofs.Ytkojgbfocdefnaa


namespace Go.Proofs.Ytkojgbfocdefnaa
open Go.RowKit

set_option maxRecDepth 4000 in
set_option maxHeartbeats 2000000 in
theorem plays_now (hb rb : Nat) (Ls : List Es) (p : Nat) (a b : Int) (sc nl : Bool) (lv : Value) (w : World) (h : HistAt w hb Ls p) (hr : RhAt w rb Ls p) : Calls Try.prog 9 #[.agg #[.pointer (some ⟨hb, 0, none⟩), .pointer (some ⟨rb, 0, none⟩)], .agg #[.int .i64 4, .int .i64 a, .int .i64 b, .bool sc, .bool nl, lv]] w (plP hb rb w) := by
  have hne := hist_ref_ne h hr
  have hB0 := box_b w hb rb 4 a b sc nl lv
  have hbx : Hid (∀ X, GrS (PS hb rb) (boxW w hb rb 4 a b sc nl lv) X → boxC w.heap.size hb rb 4 a b sc nl lv X) := box_c w hb rb 4 a b sc nl lv h.lt hr.lt
  have h1 := h.later hB0
  have hr1 := hr.later hB0
  obtain ⟨x1, x2, x3, x4, x5, x6, x7, x8⟩ := hbx.out _ (GrS.refl _ _)
  clear h hr
  unfold boxW at *
  obtain ⟨P, hP⟩ : ∃ P, P = w.heap.size := ⟨_, rfl⟩
  rw [← hP] at hbx x1 x2 x3 x4 x5 x6 x7 x8
  go_enter Try.func9, Try.ntmps9
  go_upto_region 27 with fail
  rw [← hP]
  generalize (w.alloc (.cells #[.pointer (some ⟨hb, 0, none⟩), .pointer (some ⟨rb, 0, none⟩)] 27)).alloc (.cells #[.int .i64 4, .int .i64 a, .int .i64 b, .bool sc, .bool nl, lv] 36) = X at *
  have hPH : Hid (P = w.heap.size) := hP
  clear hP
  have hD : Below X.heap.size X X.drew := (Below.refl _ _).drew
  have hSXD : X.drew.cell? ⟨P, 0, none⟩ = some (.pointer (some ⟨hb, 0, none⟩)) ∧ X.drew.cell? ⟨P, 1, none⟩ = some (.pointer (some ⟨rb, 0, none⟩)) ∧ X.drew.cell? ⟨P + 1, 5, none⟩ = some lv := ⟨(hbx.out _ (ps_b hD)).1, (hbx.out _ (ps_b hD)).2.1, (hbx.out _ (ps_b hD)).2.2.2.2.2.2.2⟩
  have hu := now_any hb Ls p _ (h1.later hD)
  clear x1 x2 x3 x4 x5 x6 x7 x8
  go_region_held3 (fun X => X.cell? ⟨P, 0, none⟩ = some (.pointer (some ⟨hb, 0, none⟩)) ∧ X.cell? ⟨P, 1, none⟩ = some (.pointer (some ⟨rb, 0, none⟩)) ∧ X.cell? ⟨P + 1, 5, none⟩ = some lv) (with_reducible assumption)
    (first | (go_at_call 25; refine hu.mono ?_; rintro e w5 ⟨mb, rfl, hm5, hl5, hb5⟩; have hB5 := below_step hD hb5; have hSw5 : w5.cell? ⟨P, 0, none⟩ = some (.pointer (some ⟨hb, 0, none⟩)) ∧ w5.cell? ⟨P, 1, none⟩ = some (.pointer (some ⟨rb, 0, none⟩)) ∧ w5.cell? ⟨P + 1, 5, none⟩ = some lv := ⟨(hbx.out _ (ps_b hB5)).1, (hbx.out _ (ps_b hB5)).2.1, (hbx.out _ (ps_b hB5)).2.2.2.2.2.2.2⟩; have hru := rnow_any rb Ls p _ (hr1.later hB5)) | (go_at_call 26; refine hru.mono ?_; rintro e w6 ⟨rm, rfl, hm6, hl6, hb6⟩; have hB6 := below_step hB5 hb6; have hSw6 : w6.cell? ⟨P, 0, none⟩ = some (.pointer (some ⟨hb, 0, none⟩)) ∧ w6.cell? ⟨P, 1, none⟩ = some (.pointer (some ⟨rb, 0, none⟩)) ∧ w6.cell? ⟨P + 1, 5, none⟩ = some lv := ⟨(hbx.out _ (ps_b hB6)).1, (hbx.out _ (ps_b hB6)).2.1, (hbx.out _ (ps_b hB6)).2.2.2.2.2.2.2⟩; have hs := psame_any mb rm _ hl5 _ (hm5.later hb6) hm6) | (go_at_call 29; refine hs.mono ?_; rintro e w7 ⟨rfl, hb7⟩; have hB7 := below_step hB6 hb7; have hSw7 : w7.cell? ⟨P, 0, none⟩ = some (.pointer (some ⟨hb, 0, none⟩)) ∧ w7.cell? ⟨P, 1, none⟩ = some (.pointer (some ⟨rb, 0, none⟩)) ∧ w7.cell? ⟨P + 1, 5, none⟩ = some lv := ⟨(hbx.out _ (ps_b hB7)).1, (hbx.out _ (ps_b hB7)).2.1, (hbx.out _ (ps_b hB7)).2.2.2.2.2.2.2⟩))
  clear hu hru hs hSXD hSw5 hSw6 hSw7
  go_wp2
  go_ret
  exact ⟨Ls, p, rfl, h1.later hB7, hr1.later hB7, (ps_b hB0).trans (ps_b hB7)⟩

set_option maxRecDepth 4000 in
set_option maxHeartbeats 4000000 in
theorem plays_push (hb rb : Nat) (Ls : List Es) (p : Nat) (a b : Int) (sc : Bool) (lv : Value) (w : World) (h : HistAt w hb Ls p) (hr : RhAt w rb Ls p) (L : Es) (hE : ∀ X, GrS (PS hb rb) w X → EntA X lv L) : Calls Try.prog 9 #[.agg #[.pointer (some ⟨hb, 0, none⟩), .pointer (some ⟨rb, 0, none⟩)], .agg #[.int .i64 1, .int .i64 a, .int .i64 b, .bool sc, .bool false, lv]] w (plP hb rb w) := by
  have hne := hist_ref_ne h hr
  have hB0 := box_b w hb rb 1 a b sc false lv
  have hbx : Hid (∀ X, GrS (PS hb rb) (boxW w hb rb 1 a b sc false lv) X → boxC w.heap.size hb rb 1 a b sc false lv X) := box_c w hb rb 1 a b sc false lv h.lt hr.lt
  have h1 := h.later hB0
  have hr1 := hr.later hB0
  obtain ⟨x1, x2, x3, x4, x5, x6, x7, x8⟩ := hbx.out _ (GrS.refl _ _)
  have hL := mkE_len L
  clear h hr
  by_cases hq : p = 32
  · subst hq
    unfold boxW at *
    obtain ⟨P, hP⟩ : ∃ P, P = w.heap.size := ⟨_, rfl⟩
    rw [← hP] at hbx x1 x2 x3 x4 x5 x6 x7 x8
    go_enter Try.func9, Try.ntmps9
    go_upto_region 6 with fail
    rw [← hP]
    generalize (w.alloc (.cells #[.pointer (some ⟨hb, 0, none⟩), .pointer (some ⟨rb, 0, none⟩)] 27)).alloc (.cells #[.int .i64 1, .int .i64 a, .int .i64 b, .bool sc, .bool false, lv] 36) = X at *
    have hPH : Hid (P = w.heap.size) := hP
    clear hP
    have hD : Below X.heap.size X X.drew := (Below.refl _ _).drew
    have hSXD : X.drew.cell? ⟨P, 0, none⟩ = some (.pointer (some ⟨hb, 0, none⟩)) ∧ X.drew.cell? ⟨P, 1, none⟩ = some (.pointer (some ⟨rb, 0, none⟩)) ∧ X.drew.cell? ⟨P + 1, 5, none⟩ = some lv := ⟨(hbx.out _ (ps_b hD)).1, (hbx.out _ (ps_b hD)).2.1, (hbx.out _ (ps_b hD)).2.2.2.2.2.2.2⟩
    have hEX : Hid (∀ Y, GrS (PS hb rb) X Y → EntA Y lv L) := fun Y hY => hE Y ((ps_b hB0).trans hY)
    have hu := build_any lv L _ (hEX.out _ (ps_b hD))
    clear hE
    clear x1 x2 x3 x4 x5 x6 x7 x8
    go_region_held3 (fun X => X.cell? ⟨P, 0, none⟩ = some (.pointer (some ⟨hb, 0, none⟩)) ∧ X.cell? ⟨P, 1, none⟩ = some (.pointer (some ⟨rb, 0, none⟩)) ∧ X.cell? ⟨P + 1, 5, none⟩ = some lv) (with_reducible assumption)
      (first | (go_at_call 15; refine hu.mono ?_; rintro e w5 ⟨mb, rfl, hm5, hb5⟩; have hB5 := below_step hD hb5; have hSw5 : w5.cell? ⟨P, 0, none⟩ = some (.pointer (some ⟨hb, 0, none⟩)) ∧ w5.cell? ⟨P, 1, none⟩ = some (.pointer (some ⟨rb, 0, none⟩)) ∧ w5.cell? ⟨P + 1, 5, none⟩ = some lv := ⟨(hbx.out _ (ps_b hB5)).1, (hbx.out _ (ps_b hB5)).2.1, (hbx.out _ (ps_b hB5)).2.2.2.2.2.2.2⟩; have hpu := push_full hb mb Ls _ (h1.later hB5)) | (go_at_call 23; refine hpu.mono ?_; rintro e w6 ⟨rfl, hb6⟩; have hG6 : GrS (PS hb rb) X w6 := ps_b (below_step hB5 hb6); have hh6 := h1.later (below_step hB5 hb6); have hr6 := hr1.later (below_step hB5 hb6); have hSw6 : w6.cell? ⟨P, 0, none⟩ = some (.pointer (some ⟨hb, 0, none⟩)) ∧ w6.cell? ⟨P, 1, none⟩ = some (.pointer (some ⟨rb, 0, none⟩)) ∧ w6.cell? ⟨P + 1, 5, none⟩ = some lv := ⟨(hbx.out _ (hG6)).1, (hbx.out _ (hG6)).2.1, (hbx.out _ (hG6)).2.2.2.2.2.2.2⟩))
    clear hu hpu hSw5 hSXD
    have hD6 : Below w6.heap.size w6 w6.drew := (Below.refl _ _).drew
    have hSwD : w6.drew.cell? ⟨P, 0, none⟩ = some (.pointer (some ⟨hb, 0, none⟩)) ∧ w6.drew.cell? ⟨P, 1, none⟩ = some (.pointer (some ⟨rb, 0, none⟩)) ∧ w6.drew.cell? ⟨P + 1, 5, none⟩ = some lv := ⟨(hbx.out _ (hG6.trans (ps_b hD6))).1, (hbx.out _ (hG6.trans (ps_b hD6))).2.1, (hbx.out _ (hG6.trans (ps_b hD6))).2.2.2.2.2.2.2⟩
    have hpt := part_any lv L _ (hEX.out _ (hG6.trans (ps_b hD6)))
    go_wp2_with fail
    go_region_held3 (fun X => X.cell? ⟨P, 0, none⟩ = some (.pointer (some ⟨hb, 0, none⟩)) ∧ X.cell? ⟨P, 1, none⟩ = some (.pointer (some ⟨rb, 0, none⟩)) ∧ X.cell? ⟨P + 1, 5, none⟩ = some lv) (with_reducible assumption)
      (first | (go_at_call 17; refine hpt.mono ?_; rintro e w7 ⟨u, rfl, hu7, hw7⟩; subst hw7; have hof := of_rf u (L.take 200) (by rw [List.length_take]; omega) _ hu7) | (go_at_call 16; refine hof.mono ?_; rintro e w8 ⟨rm, rfl, hrm', hb8'⟩; have hrm : RfAt w8 rm (mkE L) := hrm'; have hb8 := below_step hD6 hb8'; have hG8 : GrS (PS hb rb) X w8 := hG6.trans (ps_b hb8); have hSw8 : w8.cell? ⟨P, 0, none⟩ = some (.pointer (some ⟨hb, 0, none⟩)) ∧ w8.cell? ⟨P, 1, none⟩ = some (.pointer (some ⟨rb, 0, none⟩)) ∧ w8.cell? ⟨P + 1, 5, none⟩ = some lv := ⟨(hbx.out _ (hG8)).1, (hbx.out _ (hG8)).2.1, (hbx.out _ (hG8)).2.2.2.2.2.2.2⟩; have hrp := rpush_full rb (.pointer (some ⟨rm, 0, none⟩)) Ls _ (hr6.later hb8)) | (go_at_call 24; refine hrp.mono ?_; rintro e w9 ⟨rfl, hb9⟩; have hG9 : GrS (PS hb rb) X w9 := hG8.trans (ps_b hb9); have hh9 := hh6.later (below_step hb8 hb9); have hr9 := hr6.later (below_step hb8 hb9); have hSw9 : w9.cell? ⟨P, 0, none⟩ = some (.pointer (some ⟨hb, 0, none⟩)) ∧ w9.cell? ⟨P, 1, none⟩ = some (.pointer (some ⟨rb, 0, none⟩)) ∧ w9.cell? ⟨P + 1, 5, none⟩ = some lv := ⟨(hbx.out _ (hG9)).1, (hbx.out _ (hG9)).2.1, (hbx.out _ (hG9)).2.2.2.2.2.2.2⟩))
    clear hpt hof hrp hSw6 hSwD hSw8 hSw9
    go_wp2
    go_ret
    exact ⟨_, _, rfl, hh9, hr9, (ps_b hB0).trans hG9⟩
  · have hq2 : p < 32 := by have := h1.1; have := h1.2.1; omega
    unfold boxW at *
    obtain ⟨P, hP⟩ : ∃ P, P = w.heap.size := ⟨_, rfl⟩
    rw [← hP] at hbx x1 x2 x3 x4 x5 x6 x7 x8
    go_enter Try.func9, Try.ntmps9
    go_upto_region 6 with fail
    rw [← hP]
    generalize (w.alloc (.cells #[.pointer (some ⟨hb, 0, none⟩), .pointer (some ⟨rb, 0, none⟩)] 27)).alloc (.cells #[.int .i64 1, .int .i64 a, .int .i64 b, .bool sc, .bool false, lv] 36) = X at *
    have hPH : Hid (P = w.heap.size) := hP
    clear hP
    have hD : Below X.heap.size X X.drew := (Below.refl _ _).drew
    have hSXD : X.drew.cell? ⟨P, 0, none⟩ = some (.pointer (some ⟨hb, 0, none⟩)) ∧ X.drew.cell? ⟨P, 1, none⟩ = some (.pointer (some ⟨rb, 0, none⟩)) ∧ X.drew.cell? ⟨P + 1, 5, none⟩ = some lv := ⟨(hbx.out _ (ps_b hD)).1, (hbx.out _ (ps_b hD)).2.1, (hbx.out _ (ps_b hD)).2.2.2.2.2.2.2⟩
    have hEX : Hid (∀ Y, GrS (PS hb rb) X Y → EntA Y lv L) := fun Y hY => hE Y ((ps_b hB0).trans hY)
    have hu := build_any lv L _ (hEX.out _ (ps_b hD))
    clear hE
    clear x1 x2 x3 x4 x5 x6 x7 x8
    go_region_held3 (fun X => X.cell? ⟨P, 0, none⟩ = some (.pointer (some ⟨hb, 0, none⟩)) ∧ X.cell? ⟨P, 1, none⟩ = some (.pointer (some ⟨rb, 0, none⟩)) ∧ X.cell? ⟨P + 1, 5, none⟩ = some lv) (with_reducible assumption)
      (first | (go_at_call 15; refine hu.mono ?_; rintro e w5 ⟨mb, rfl, hm5, hb5⟩; have hB5 := below_step hD hb5; have hSw5 : w5.cell? ⟨P, 0, none⟩ = some (.pointer (some ⟨hb, 0, none⟩)) ∧ w5.cell? ⟨P, 1, none⟩ = some (.pointer (some ⟨rb, 0, none⟩)) ∧ w5.cell? ⟨P + 1, 5, none⟩ = some lv := ⟨(hbx.out _ (ps_b hB5)).1, (hbx.out _ (ps_b hB5)).2.1, (hbx.out _ (ps_b hB5)).2.2.2.2.2.2.2⟩; have hpu := push_some hb mb Ls p hq2 (mkE L) hL _ (h1.later hB5) hm5) | (go_at_call 23; refine hpu.mono ?_; rintro e w6 ⟨rfl, hh6, hg6⟩; have hG6 : GrS (PS hb rb) X w6 := (ps_b hB5).trans (ps_h hg6); have hr6 := rh_mv (hr1.later hB5) (h1.later hB5).hd hg6 (Ne.symm hne); have hSw6 : w6.cell? ⟨P, 0, none⟩ = some (.pointer (some ⟨hb, 0, none⟩)) ∧ w6.cell? ⟨P, 1, none⟩ = some (.pointer (some ⟨rb, 0, none⟩)) ∧ w6.cell? ⟨P + 1, 5, none⟩ = some lv := ⟨(hbx.out _ (hG6)).1, (hbx.out _ (hG6)).2.1, (hbx.out _ (hG6)).2.2.2.2.2.2.2⟩))
    clear hu hpu hSw5 hSXD
    have hD6 : Below w6.heap.size w6 w6.drew := (Below.refl _ _).drew
    have hSwD : w6.drew.cell? ⟨P, 0, none⟩ = some (.pointer (some ⟨hb, 0, none⟩)) ∧ w6.drew.cell? ⟨P, 1, none⟩ = some (.pointer (some ⟨rb, 0, none⟩)) ∧ w6.drew.cell? ⟨P + 1, 5, none⟩ = some lv := ⟨(hbx.out _ (hG6.trans (ps_b hD6))).1, (hbx.out _ (hG6.trans (ps_b hD6))).2.1, (hbx.out _ (hG6.trans (ps_b hD6))).2.2.2.2.2.2.2⟩
    have hpt := part_any lv L _ (hEX.out _ (hG6.trans (ps_b hD6)))
    go_wp2_with fail
    go_region_held3 (fun X => X.cell? ⟨P, 0, none⟩ = some (.pointer (some ⟨hb, 0, none⟩)) ∧ X.cell? ⟨P, 1, none⟩ = some (.pointer (some ⟨rb, 0, none⟩)) ∧ X.cell? ⟨P + 1, 5, none⟩ = some lv) (with_reducible assumption)
      (first | (go_at_call 17; refine hpt.mono ?_; rintro e w7 ⟨u, rfl, hu7, hw7⟩; subst hw7; have hof := of_rf u (L.take 200) (by rw [List.length_take]; omega) _ hu7) | (go_at_call 16; refine hof.mono ?_; rintro e w8 ⟨rm, rfl, hrm', hb8'⟩; have hrm : RfAt w8 rm (mkE L) := hrm'; have hb8 := below_step hD6 hb8'; have hG8 : GrS (PS hb rb) X w8 := hG6.trans (ps_b hb8); have hSw8 : w8.cell? ⟨P, 0, none⟩ = some (.pointer (some ⟨hb, 0, none⟩)) ∧ w8.cell? ⟨P, 1, none⟩ = some (.pointer (some ⟨rb, 0, none⟩)) ∧ w8.cell? ⟨P + 1, 5, none⟩ = some lv := ⟨(hbx.out _ (hG8)).1, (hbx.out _ (hG8)).2.1, (hbx.out _ (hG8)).2.2.2.2.2.2.2⟩; have hrp := rpush_some rb (.pointer (some ⟨rm, 0, none⟩)) Ls p hq2 (mkE L) hL _ (hr6.later hb8) (.inl ⟨rm, rfl, hrm⟩)) | (go_at_call 24; refine hrp.mono ?_; rintro e w9 ⟨rfl, hr9, hg9⟩; have hG9 : GrS (PS hb rb) X w9 := hG8.trans (ps_r hg9); have hh9 := hist_mv (hh6.later hb8) (hr6.later hb8).hd hg9 hne; have hSw9 : w9.cell? ⟨P, 0, none⟩ = some (.pointer (some ⟨hb, 0, none⟩)) ∧ w9.cell? ⟨P, 1, none⟩ = some (.pointer (some ⟨rb, 0, none⟩)) ∧ w9.cell? ⟨P + 1, 5, none⟩ = some lv := ⟨(hbx.out _ (hG9)).1, (hbx.out _ (hG9)).2.1, (hbx.out _ (hG9)).2.2.2.2.2.2.2⟩))
    clear hpt hof hrp hSw6 hSwD hSw8 hSw9
    go_wp2
    go_ret
    exact ⟨_, _, rfl, hh9, hr9, (ps_b hB0).trans hG9⟩

end Go.Proofs.Ytkojgbfocdefnaa


namespace Go.Proofs.Ytkojgbfocdefnaa
open Go.RowKit

set_option maxRecDepth 4000 in
set_option maxHeartbeats 8000000 in
theorem plays_again (hb rb : Nat) (Ls : List Es) (p : Nat) (a b : Int) (sc nl : Bool) (lv : Value) (w : World) (h : HistAt w hb Ls p) (hr : RhAt w rb Ls p) (L : Es) (hE : ∀ X, GrS (PS hb rb) w X → EntA X lv L) : Calls Try.prog 9 #[.agg #[.pointer (some ⟨hb, 0, none⟩), .pointer (some ⟨rb, 0, none⟩)], .agg #[.int .i64 10, .int .i64 a, .int .i64 b, .bool sc, .bool nl, lv]] w (plP hb rb w) := by
  have hne := hist_ref_ne h hr
  have hB0 := box_b w hb rb 10 a b sc nl lv
  have hbx : Hid (∀ X, GrS (PS hb rb) (boxW w hb rb 10 a b sc nl lv) X → boxC w.heap.size hb rb 10 a b sc nl lv X) := box_c w hb rb 10 a b sc nl lv h.lt hr.lt
  have h1 := h.later hB0
  have hr1 := hr.later hB0
  obtain ⟨x1, x2, x3, x4, x5, x6, x7, x8⟩ := hbx.out _ (GrS.refl _ _)
  have hL := mkE_len L
  clear h hr
  unfold boxW at *
  obtain ⟨P, hP⟩ : ∃ P, P = w.heap.size := ⟨_, rfl⟩
  rw [← hP] at hbx x1 x2 x3 x4 x5 x6 x7 x8
  go_enter Try.func9, Try.ntmps9
  go_upto_region 9 with fail
  rw [← hP]
  generalize (w.alloc (.cells #[.pointer (some ⟨hb, 0, none⟩), .pointer (some ⟨rb, 0, none⟩)] 27)).alloc (.cells #[.int .i64 10, .int .i64 a, .int .i64 b, .bool sc, .bool nl, lv] 36) = X at *
  have hPH : Hid (P = w.heap.size) := hP
  clear hP
  have hD : Below X.heap.size X X.drew := (Below.refl _ _).drew
  have hSXD : X.drew.cell? ⟨P, 0, none⟩ = some (.pointer (some ⟨hb, 0, none⟩)) ∧ X.drew.cell? ⟨P, 1, none⟩ = some (.pointer (some ⟨rb, 0, none⟩)) ∧ X.drew.cell? ⟨P + 1, 5, none⟩ = some lv := ⟨(hbx.out _ (ps_b hD)).1, (hbx.out _ (ps_b hD)).2.1, (hbx.out _ (ps_b hD)).2.2.2.2.2.2.2⟩
  have hEX : Hid (∀ Y, GrS (PS hb rb) X Y → EntA Y lv L) := fun Y hY => hE Y ((ps_b hB0).trans hY)
  have hu := build_any lv L _ (hEX.out _ (ps_b hD))
  clear hE
  clear x1 x2 x3 x4 x5 x6 x7 x8
  go_region_held3 (fun X => X.cell? ⟨P, 0, none⟩ = some (.pointer (some ⟨hb, 0, none⟩)) ∧ X.cell? ⟨P, 1, none⟩ = some (.pointer (some ⟨rb, 0, none⟩)) ∧ X.cell? ⟨P + 1, 5, none⟩ = some lv) (with_reducible assumption)
    (first | (go_at_call 15; refine hu.mono ?_; rintro e w5 ⟨mb, rfl, hm5', hb5⟩; have hB5 := below_step hD hb5; have hSw5 : w5.cell? ⟨P, 0, none⟩ = some (.pointer (some ⟨hb, 0, none⟩)) ∧ w5.cell? ⟨P, 1, none⟩ = some (.pointer (some ⟨rb, 0, none⟩)) ∧ w5.cell? ⟨P + 1, 5, none⟩ = some lv := ⟨(hbx.out _ (ps_b hB5)).1, (hbx.out _ (ps_b hB5)).2.1, (hbx.out _ (ps_b hB5)).2.2.2.2.2.2.2⟩; have hpt := part_any lv L _ (hEX.out _ (ps_b hB5))) | (go_at_call 17; refine hpt.mono ?_; rintro e w7 ⟨u, rfl, hu7, hw7⟩; subst hw7; have hof := of_rf u (L.take 200) (by rw [List.length_take]; omega) _ hu7) | (go_at_call 16; refine hof.mono ?_; rintro e w8 ⟨rm, rfl, hrm', hb8⟩; have hB8 := below_step hB5 hb8; have hSw8 : w8.cell? ⟨P, 0, none⟩ = some (.pointer (some ⟨hb, 0, none⟩)) ∧ w8.cell? ⟨P, 1, none⟩ = some (.pointer (some ⟨rb, 0, none⟩)) ∧ w8.cell? ⟨P + 1, 5, none⟩ = some lv := ⟨(hbx.out _ (ps_b hB8)).1, (hbx.out _ (ps_b hB8)).2.1, (hbx.out _ (ps_b hB8)).2.2.2.2.2.2.2⟩))
  have hrm8 : RfAt w8 rm (mkE L) := hrm'
  have hm8 := hm5'.later hb8
  have hh8 := h1.later hB8
  have hr8 := hr1.later hB8
  have hG8' : GrS (PS hb rb) X w8 := ps_b hB8
  clear hu hpt hof hSw5 hSw8 hSXD hrm' hm5' hEX hu7
  generalize mkE L = M at *
  go_wp2_with fail
  go_loopw [9] (fun iv Y => ∃ (i : Nat) (Ls1 : List Es) (p1 : Nat), i ≤ 2 ∧ iv = .int .i64 (i : Int) ∧ HistAt Y hb Ls1 p1 ∧ RhAt Y rb Ls1 p1 ∧ GrS (PS hb rb) X Y ∧ MapE Y mb M ∧ RfAt Y rm M) (fun iv _ => 2 - (intOf iv).toNat)
  case atStart => exact ⟨0, _, _, by omega, rfl, hh8, hr8, hG8', hm8, hrm8⟩
  case round =>
    clear hh8 hr8 hG8' hm8 hrm8 h1 hr1 hB5 hB8 hb5 hb8
    obtain ⟨i, Ls1, p1, hi, rfl, hh0, hr0, hG0, hm5, hrm5⟩ := hrel
    by_cases hlt : i < 2
    · have hlt' : (i : Int) < 2 := by omega
      by_cases hq : p1 = 32
      · subst hq
        obtain ⟨x1, x2, x3, x4, x5, x6, x7, x8⟩ := hbx.out _ (hG0)
        have hu := push_full hb mb Ls1 _ hh0
        go_wp2_with (go_at_call 23; fail)
        refine hu.mono ?_
        rintro e w6 ⟨rfl, hb6⟩
        have hG6 := hG0.trans (ps_b (hb := hb) (rb := rb) hb6)
        have hh6 := hh0.later hb6
        have hr6 := hr0.later hb6
        have hm6 := hm5.later hb6
        have hrm6 := hrm5.later hb6
        clear hu x1 x2 x3 x4 x5 x6 x7 x8
        obtain ⟨x1, x2, x3, x4, x5, x6, x7, x8⟩ := hbx.out _ (hG6)
        have hru := rpush_full rb (.pointer (some ⟨rm, 0, none⟩)) Ls1 _ hr6
        go_wp2_with (go_at_call 24; fail)
        refine hru.mono ?_
        rintro e w7 ⟨rfl, hb7⟩
        have hG7 := hG6.trans (ps_b (hb := hb) (rb := rb) hb7)
        have hh7 := hh6.later hb7
        have hr7 := hr6.later hb7
        have hm7 := hm6.later hb7
        have hrm7 := hrm6.later hb7
        clear hru x1 x2 x3 x4 x5 x6 x7 x8
        go_wp2
        exact ⟨⟨i + 1, _, _, hlt, by go_num, hh7, hr7, hG7, hm7, hrm7⟩, by simp [intOf]; omega⟩
      · have hq2 : p1 < 32 := by have := hh0.1; have := hh0.2.1; omega
        obtain ⟨x1, x2, x3, x4, x5, x6, x7, x8⟩ := hbx.out _ (hG0)
        have hu := push_some hb mb Ls1 p1 hq2 M hL _ hh0 hm5
        go_wp2_with (go_at_call 23; fail)
        refine hu.mono ?_
        rintro e w6 ⟨rfl, hh6, hg6⟩
        have hG6 := hG0.trans (ps_h (rb := rb) hg6)
        have hr6 := rh_mv hr0 hh0.hd hg6 (Ne.symm hne)
        have hm6 := map_mv hm5 hh0.hd hg6
        have hrm6 := rf_mv hrm5 hh0.hd hg6
        clear hu x1 x2 x3 x4 x5 x6 x7 x8
        obtain ⟨x1, x2, x3, x4, x5, x6, x7, x8⟩ := hbx.out _ (hG6)
        have hru := rpush_some rb (.pointer (some ⟨rm, 0, none⟩)) Ls1 p1 hq2 M hL _ hr6 (.inl ⟨rm, rfl, hrm6⟩)
        go_wp2_with (go_at_call 24; fail)
        refine hru.mono ?_
        rintro e w7 ⟨rfl, hr7, hg7⟩
        have hG7 := hG6.trans (ps_r (hb := hb) hg7)
        have hh7 := hist_mv hh6 hr6.hd hg7 hne
        have hm7 := map_mv hm6 hr6.hd hg7
        have hrm7 := rf_mv hrm6 hr6.hd hg7
        clear hru x1 x2 x3 x4 x5 x6 x7 x8
        go_wp2
        exact ⟨⟨i + 1, _, _, hlt, by go_num, hh7, hr7, hG7, hm7, hrm7⟩, by simp [intOf]; omega⟩
    · have hlt' : ¬ (i : Int) < 2 := by omega
      clear hm5 hrm5
      by_cases hq : p1 = 32
      · subst hq
        have hDr : Below wr.heap.size wr wr.drew := (Below.refl _ _).drew
        have hSwR : wr.drew.cell? ⟨P, 0, none⟩ = some (.pointer (some ⟨hb, 0, none⟩)) ∧ wr.drew.cell? ⟨P, 1, none⟩ = some (.pointer (some ⟨rb, 0, none⟩)) ∧ wr.drew.cell? ⟨P + 1, 5, none⟩ = some lv := ⟨(hbx.out _ (hG0.trans (ps_b hDr))).1, (hbx.out _ (hG0.trans (ps_b hDr))).2.1, (hbx.out _ (hG0.trans (ps_b hDr))).2.2.2.2.2.2.2⟩
        have hu := now_any hb Ls1 _ _ (hh0.later hDr)
        go_wp2_with fail
        go_region_held3 (fun X => X.cell? ⟨P, 0, none⟩ = some (.pointer (some ⟨hb, 0, none⟩)) ∧ X.cell? ⟨P, 1, none⟩ = some (.pointer (some ⟨rb, 0, none⟩)) ∧ X.cell? ⟨P + 1, 5, none⟩ = some lv) (with_reducible assumption)
          (first | (go_at_call 25; refine hu.mono ?_; rintro e w5 ⟨mn, rfl, hmn5, hl5, hb5'⟩; have hB5 := below_step hDr hb5'; have hSw5 : w5.cell? ⟨P, 0, none⟩ = some (.pointer (some ⟨hb, 0, none⟩)) ∧ w5.cell? ⟨P, 1, none⟩ = some (.pointer (some ⟨rb, 0, none⟩)) ∧ w5.cell? ⟨P + 1, 5, none⟩ = some lv := ⟨(hbx.out _ (hG0.trans (ps_b hB5))).1, (hbx.out _ (hG0.trans (ps_b hB5))).2.1, (hbx.out _ (hG0.trans (ps_b hB5))).2.2.2.2.2.2.2⟩; have hpu := push_full hb mn Ls1 _ (hh0.later hB5)) | (go_at_call 23; refine hpu.mono ?_; rintro e w6 ⟨rfl, hb6⟩; have hG6 : GrS (PS hb rb) X w6 := hG0.trans (ps_b (below_step hB5 hb6)); have hh6 := hh0.later (below_step hB5 hb6); have hr6 := hr0.later (below_step hB5 hb6); have hSw6 : w6.cell? ⟨P, 0, none⟩ = some (.pointer (some ⟨hb, 0, none⟩)) ∧ w6.cell? ⟨P, 1, none⟩ = some (.pointer (some ⟨rb, 0, none⟩)) ∧ w6.cell? ⟨P + 1, 5, none⟩ = some lv := ⟨(hbx.out _ (hG6)).1, (hbx.out _ (hG6)).2.1, (hbx.out _ (hG6)).2.2.2.2.2.2.2⟩))
        clear hu hpu hSw5 hSwR
        have hD6 : Below w6.heap.size w6 w6.drew := (Below.refl _ _).drew
        have hSwD : w6.drew.cell? ⟨P, 0, none⟩ = some (.pointer (some ⟨hb, 0, none⟩)) ∧ w6.drew.cell? ⟨P, 1, none⟩ = some (.pointer (some ⟨rb, 0, none⟩)) ∧ w6.drew.cell? ⟨P + 1, 5, none⟩ = some lv := ⟨(hbx.out _ (hG6.trans (ps_b hD6))).1, (hbx.out _ (hG6.trans (ps_b hD6))).2.1, (hbx.out _ (hG6.trans (ps_b hD6))).2.2.2.2.2.2.2⟩
        have hpt := rnow_any rb Ls1 _ _ (hr6.later hD6)
        go_wp2_with fail
        go_region_held3 (fun X => X.cell? ⟨P, 0, none⟩ = some (.pointer (some ⟨hb, 0, none⟩)) ∧ X.cell? ⟨P, 1, none⟩ = some (.pointer (some ⟨rb, 0, none⟩)) ∧ X.cell? ⟨P + 1, 5, none⟩ = some lv) (with_reducible assumption)
          (first | (go_at_call 26; refine hpt.mono ?_; rintro e w8 ⟨rn, rfl, hrn, -, hb8'⟩; have hb8 := below_step hD6 hb8'; have hG8 : GrS (PS hb rb) X w8 := hG6.trans (ps_b hb8); have hSw8 : w8.cell? ⟨P, 0, none⟩ = some (.pointer (some ⟨hb, 0, none⟩)) ∧ w8.cell? ⟨P, 1, none⟩ = some (.pointer (some ⟨rb, 0, none⟩)) ∧ w8.cell? ⟨P + 1, 5, none⟩ = some lv := ⟨(hbx.out _ (hG8)).1, (hbx.out _ (hG8)).2.1, (hbx.out _ (hG8)).2.2.2.2.2.2.2⟩; have hrp := rpush_full rb (.pointer (some ⟨rn, 0, none⟩)) Ls1 _ (hr6.later hb8)) | (go_at_call 24; refine hrp.mono ?_; rintro e w9 ⟨rfl, hb9⟩; have hG9 : GrS (PS hb rb) X w9 := hG8.trans (ps_b hb9); have hh9 := hh6.later (below_step hb8 hb9); have hr9 := hr6.later (below_step hb8 hb9); have hSw9 : w9.cell? ⟨P, 0, none⟩ = some (.pointer (some ⟨hb, 0, none⟩)) ∧ w9.cell? ⟨P, 1, none⟩ = some (.pointer (some ⟨rb, 0, none⟩)) ∧ w9.cell? ⟨P + 1, 5, none⟩ = some lv := ⟨(hbx.out _ (hG9)).1, (hbx.out _ (hG9)).2.1, (hbx.out _ (hG9)).2.2.2.2.2.2.2⟩))
        clear hpt hrp hSw6 hSwD hSw8 hSw9
        go_wp2
        go_ret
        exact ⟨_, _, rfl, hh9, hr9, (ps_b hB0).trans hG9⟩
      · have hq2 : p1 < 32 := by have := hh0.1; have := hh0.2.1; omega
        have hDr : Below wr.heap.size wr wr.drew := (Below.refl _ _).drew
        have hSwR : wr.drew.cell? ⟨P, 0, none⟩ = some (.pointer (some ⟨hb, 0, none⟩)) ∧ wr.drew.cell? ⟨P, 1, none⟩ = some (.pointer (some ⟨rb, 0, none⟩)) ∧ wr.drew.cell? ⟨P + 1, 5, none⟩ = some lv := ⟨(hbx.out _ (hG0.trans (ps_b hDr))).1, (hbx.out _ (hG0.trans (ps_b hDr))).2.1, (hbx.out _ (hG0.trans (ps_b hDr))).2.2.2.2.2.2.2⟩
        have hu := now_any hb Ls1 _ _ (hh0.later hDr)
        go_wp2_with fail
        go_region_held3 (fun X => X.cell? ⟨P, 0, none⟩ = some (.pointer (some ⟨hb, 0, none⟩)) ∧ X.cell? ⟨P, 1, none⟩ = some (.pointer (some ⟨rb, 0, none⟩)) ∧ X.cell? ⟨P + 1, 5, none⟩ = some lv) (with_reducible assumption)
          (first | (go_at_call 25; refine hu.mono ?_; rintro e w5 ⟨mn, rfl, hmn5, hl5, hb5'⟩; have hB5 := below_step hDr hb5'; have hSw5 : w5.cell? ⟨P, 0, none⟩ = some (.pointer (some ⟨hb, 0, none⟩)) ∧ w5.cell? ⟨P, 1, none⟩ = some (.pointer (some ⟨rb, 0, none⟩)) ∧ w5.cell? ⟨P + 1, 5, none⟩ = some lv := ⟨(hbx.out _ (hG0.trans (ps_b hB5))).1, (hbx.out _ (hG0.trans (ps_b hB5))).2.1, (hbx.out _ (hG0.trans (ps_b hB5))).2.2.2.2.2.2.2⟩; have hpu := push_some hb mn Ls1 p1 hq2 _ hl5 _ (hh0.later hB5) hmn5) | (go_at_call 23; refine hpu.mono ?_; rintro e w6 ⟨rfl, hh6, hg6⟩; have hG6 : GrS (PS hb rb) X w6 := (hG0.trans (ps_b hB5)).trans (ps_h hg6); have hr6 := rh_mv (hr0.later hB5) (hh0.later hB5).hd hg6 (Ne.symm hne); have hSw6 : w6.cell? ⟨P, 0, none⟩ = some (.pointer (some ⟨hb, 0, none⟩)) ∧ w6.cell? ⟨P, 1, none⟩ = some (.pointer (some ⟨rb, 0, none⟩)) ∧ w6.cell? ⟨P + 1, 5, none⟩ = some lv := ⟨(hbx.out _ (hG6)).1, (hbx.out _ (hG6)).2.1, (hbx.out _ (hG6)).2.2.2.2.2.2.2⟩))
        clear hu hpu hSw5 hSwR
        have hD6 : Below w6.heap.size w6 w6.drew := (Below.refl _ _).drew
        have hSwD : w6.drew.cell? ⟨P, 0, none⟩ = some (.pointer (some ⟨hb, 0, none⟩)) ∧ w6.drew.cell? ⟨P, 1, none⟩ = some (.pointer (some ⟨rb, 0, none⟩)) ∧ w6.drew.cell? ⟨P + 1, 5, none⟩ = some lv := ⟨(hbx.out _ (hG6.trans (ps_b hD6))).1, (hbx.out _ (hG6.trans (ps_b hD6))).2.1, (hbx.out _ (hG6.trans (ps_b hD6))).2.2.2.2.2.2.2⟩
        have hpt := rnow_any rb Ls1 _ _ (hr6.later hD6)
        go_wp2_with fail
        go_region_held3 (fun X => X.cell? ⟨P, 0, none⟩ = some (.pointer (some ⟨hb, 0, none⟩)) ∧ X.cell? ⟨P, 1, none⟩ = some (.pointer (some ⟨rb, 0, none⟩)) ∧ X.cell? ⟨P + 1, 5, none⟩ = some lv) (with_reducible assumption)
          (first | (go_at_call 26; refine hpt.mono ?_; rintro e w8 ⟨rn, rfl, hrn, -, hb8'⟩; have hb8 := below_step hD6 hb8'; have hG8 : GrS (PS hb rb) X w8 := hG6.trans (ps_b hb8); have hSw8 : w8.cell? ⟨P, 0, none⟩ = some (.pointer (some ⟨hb, 0, none⟩)) ∧ w8.cell? ⟨P, 1, none⟩ = some (.pointer (some ⟨rb, 0, none⟩)) ∧ w8.cell? ⟨P + 1, 5, none⟩ = some lv := ⟨(hbx.out _ (hG8)).1, (hbx.out _ (hG8)).2.1, (hbx.out _ (hG8)).2.2.2.2.2.2.2⟩; have hrp := rpush_some rb (.pointer (some ⟨rn, 0, none⟩)) Ls1 p1 hq2 _ hl5 _ (hr6.later hb8) (.inl ⟨rn, rfl, hrn⟩)) | (go_at_call 24; refine hrp.mono ?_; rintro e w9 ⟨rfl, hr9, hg9⟩; have hG9 : GrS (PS hb rb) X w9 := hG8.trans (ps_r hg9); have hh9 := hist_mv (hh6.later hb8) (hr6.later hb8).hd hg9 hne; have hSw9 : w9.cell? ⟨P, 0, none⟩ = some (.pointer (some ⟨hb, 0, none⟩)) ∧ w9.cell? ⟨P, 1, none⟩ = some (.pointer (some ⟨rb, 0, none⟩)) ∧ w9.cell? ⟨P + 1, 5, none⟩ = some lv := ⟨(hbx.out _ (hG9)).1, (hbx.out _ (hG9)).2.1, (hbx.out _ (hG9)).2.2.2.2.2.2.2⟩))
        clear hpt hrp hSw6 hSwD hSw8 hSw9
        go_wp2
        go_ret
        exact ⟨_, _, rfl, hh9, hr9, (ps_b hB0).trans hG9⟩

set_option maxRecDepth 4000 in
set_option maxHeartbeats 2000000 in
theorem plays_other (hb rb : Nat) (Ls : List Es) (p : Nat) (kd : Int) (k1 : (kd == 1) = false) (k2 : (kd == 10) = false) (k3 : (kd == 2) = false) (k4 : (kd == 3) = false) (k5 : (kd == 4) = false) (k6 : (kd == 5) = false) (k7 : (kd == 6) = false) (k8 : (kd == 7) = false) (k9 : (kd == 8) = false) (a b : Int) (sc nl : Bool) (lv : Value) (w : World) (h : HistAt w hb Ls p) (hr : RhAt w rb Ls p) : Calls Try.prog 9 #[.agg #[.pointer (some ⟨hb, 0, none⟩), .pointer (some ⟨rb, 0, none⟩)], .agg #[.int .i64 kd, .int .i64 a, .int .i64 b, .bool sc, .bool nl, lv]] w (plP hb rb w) := by
  have hne := hist_ref_ne h hr
  have hB0 := box_b w hb rb kd a b sc nl lv
  have hbx : Hid (∀ X, GrS (PS hb rb) (boxW w hb rb kd a b sc nl lv) X → boxC w.heap.size hb rb kd a b sc nl lv X) := box_c w hb rb kd a b sc nl lv h.lt hr.lt
  have h1 := h.later hB0
  have hr1 := hr.later hB0
  obtain ⟨x1, x2, x3, x4, x5, x6, x7, x8⟩ := hbx.out _ (GrS.refl _ _)
  clear h hr hne hbx
  unfold boxW at *
  go_enter Try.func9, Try.ntmps9
  go_wp2
  go_ret
  exact ⟨Ls, p, rfl, h1, hr1, ps_b hB0⟩

end Go.Proofs.Ytkojgbfocdefnaa
