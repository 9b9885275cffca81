import Derived.Test.YtmlkceganilboaaDoorTFrom
import Derived.Test.YtmlkceganilboaaDoorTSrchW
import Derived.Test.YtmlkceganilboaaDoorTOne2
import Derived.Deep.RegionHeld3
import Derived.Deep.QuietTactic
import Derived.BigQuiet
namespace Go.Proofs.YtmlkceganilboaaDoor
open Go.RowKit

def withinRow (mb : Nat) (aa : Option Addr) (an ac : Nat) (pa : Option Addr) (pn pc : Nat) (id : Nat) (stop : Int) (n : Nat) (bad : Bool) : Array Value := #[.pointer (some ⟨mb, 0, none⟩), .slice aa an ac, .slice pa pn pc, .int .u32 (id : Int), .int .i64 stop, .int .i64 (n : Int), .bool bad]

/-- What is held while an iterator is gone through with questions at each step. -/
structure WithinAt (W X : World) (T mb : Nat) (t : Tr) (aa : Option Addr) (ac : Nat) (pa : Option Addr) (pc id : Nat) (stop : Int) (n : Nat) (bad : Bool) : Prop where
  row : X.heap[T]? = some (.cells (withinRow mb aa (t.ents 7 0).length ac pa (runL stop ((t.ents 7 0).filter (atLeast id))).length pc id stop n bad) 51 (0, 0))
  map : MapT X mb t
  all : EntsAt X (.slice aa (t.ents 7 0).length ac) (t.ents 7 0)
  part : EntsAt X (.slice pa (runL stop ((t.ents 7 0).filter (atLeast id))).length pc) (runL stop ((t.ents 7 0).filter (atLeast id)))
  low : W.heap.size ≤ T
  mapW : MapT W mb t
  allW : EntsAt W (.slice aa (t.ents 7 0).length ac) (t.ents 7 0)
  partW : EntsAt W (.slice pa (runL stop ((t.ents 7 0).filter (atLeast id))).length pc) (runL stop ((t.ents 7 0).filter (atLeast id)))
  below : Below W.heap.size W X

theorem WithinAt.later {W X X' : World} {T mb : Nat} {t : Tr} {aa : Option Addr} {ac : Nat} {pa : Option Addr} {pc id : Nat} {stop : Int} {n : Nat} {bad : Bool} (h : WithinAt W X T mb t aa ac pa pc id stop n bad) (hb : Below X.heap.size X X') : WithinAt W X' T mb t aa ac pa pc id stop n bad where
  row := (hb.block T (Array.getElem?_eq_some_iff.1 h.row).1).trans h.row
  map := h.map.later hb
  all := h.all.later hb
  part := h.part.later hb
  low := h.low
  mapW := h.mapW
  allW := h.allW
  partW := h.partW
  below := below_step h.below hb

theorem WithinAt.set {W X X' : World} {T mb : Nat} {t : Tr} {aa : Option Addr} {ac : Nat} {pa : Option Addr} {pc id : Nat} {stop : Int} {n n' : Nat} {bad bad' : Bool} (h : WithinAt W X T mb t aa ac pa pc id stop n bad) (hr : X'.heap[T]? = some (.cells (withinRow mb aa (t.ents 7 0).length ac pa (runL stop ((t.ents 7 0).filter (atLeast id))).length pc id stop n' bad') 51 (0, 0))) (hb : Below W.heap.size W X') : WithinAt W X' T mb t aa ac pa pc id stop n' bad' where
  row := hr
  map := h.mapW.later hb
  all := h.allW.later hb
  part := h.partW.later hb
  low := h.low
  mapW := h.mapW
  allW := h.allW
  partW := h.partW
  below := hb

theorem WithinAt.cells {W X : World} {T mb : Nat} {t : Tr} {aa : Option Addr} {ac : Nat} {pa : Option Addr} {pc id : Nat} {stop : Int} {n : Nat} {bad : Bool} (h : WithinAt W X T mb t aa ac pa pc id stop n bad) : X.cell? ⟨T, 0, none⟩ = some (.pointer (some ⟨mb, 0, none⟩)) ∧ X.cell? ⟨T, 1, none⟩ = some (.slice aa (t.ents 7 0).length ac) ∧ X.cell? ⟨T, 2, none⟩ = some (.slice pa (runL stop ((t.ents 7 0).filter (atLeast id))).length pc) ∧ X.cell? ⟨T, 3, none⟩ = some (.int .u32 (id : Int)) ∧ X.cell? ⟨T, 4, none⟩ = some (.int .i64 stop) ∧ X.cell? ⟨T, 5, none⟩ = some (.int .i64 (n : Int)) ∧ X.cell? ⟨T, 6, none⟩ = some (.bool bad) :=
  ⟨cell_of_row _ _ 0 _ _ _ h.row, cell_of_row _ _ 1 _ _ _ h.row, cell_of_row _ _ 2 _ _ _ h.row, cell_of_row _ _ 3 _ _ _ h.row, cell_of_row _ _ 4 _ _ _ h.row, cell_of_row _ _ 5 _ _ _ h.row, cell_of_row _ _ 6 _ _ _ h.row⟩

theorem same_VV {V X : World} (hV : Below V.heap.size V X) (x y x' y' : Int) (o : Bool) (ho : o = true ↔ (x = x' ∧ y = y')) : Calls Tryd.prog 13 #[.agg #[.int .i64 x, .int .i64 y], .agg #[.int .i64 x', .int .i64 y']] X fun e w' => e = .returned (.bool o) ∧ Below V.heap.size V w' := by
  refine (same_any x y x' y' o ho X).mono ?_
  rintro e w' ⟨rfl, hb⟩
  exact ⟨rfl, below_step hV hb⟩
theorem ents_cellsF {X : World} {a : Option Addr} {n c : Nat} {L : List (Nat × (Int × Int))} (h : EntsAt X (.slice a n c) L) (k : Nat) (hk : k < L.length) : ∃ g off, a = some ⟨g, off, none⟩ ∧ X.cell? ⟨g, off + k * 3, none⟩ = some (.int .u32 (L[k].1 : Int)) ∧ X.cell? ⟨g, off + k * 3 + 1, none⟩ = some (.int .i64 L[k].2.1) ∧ X.cell? ⟨g, off + k * 3 + 2, none⟩ = some (.int .i64 L[k].2.2) := by
  obtain ⟨a', c', h1, h2⟩ := h
  obtain ⟨rfl, -, -⟩ := Value.slice.inj h1
  rcases h2 with h2 | ⟨g, off, rfl, -, h3⟩
  · rw [h2] at hk; simp at hk
  · exact ⟨g, off, rfl, h3 k hk⟩

/-- The one step more. -/
def StepP (W : World) (T mb : Nat) (t : Tr) (aa : Option Addr) (ac : Nat) (pa : Option Addr) (pc id : Nat) (stop : Int) (n : Nat) (e : Ending) (w' : World) : Prop := e = .returned (.bool true) ∧ WithinAt W w' T mb t aa ac pa pc id stop (n + 1) false

set_option maxRecDepth 8000 in
set_option maxHeartbeats 2000000 in
theorem step_yes (W w : World) (T mb : Nat) (t : Tr) (aa : Option Addr) (ac : Nat) (pa : Option Addr) (pc id : Nat) (hid : id < 4294967296) (stop : Int) (n : Nat) (hl : (t.ents 7 0).length ≤ 5000) (hn : n < (t.ents 7 0).length) (k : Nat) (hk : k < 4294967296) (x y : Int) (he : (t.ents 7 0)[n] = (k, (x, y))) (h : WithinAt W w T mb t aa ac pa pc id stop n false) :
    Calls Tryd.prog 17 #[.pointer (some ⟨T, 0, none⟩), .int .u32 (k : Int), .agg #[.int .i64 x, .int .i64 y]] w (StepP W T mb t aa ac pa pc id stop n) := by
  have hb1 := (Below.refl w.heap.size w).alloc (Nat.le_refl _) (.cells #[.int .i64 x, .int .i64 y] 32)
  have hv := Box2.new w (.int .i64 x) (.int .i64 y) 32
  have h1 := h.later hb1
  obtain ⟨ga, oa, rfl, a0, a1, a2⟩ := ents_cellsF h1.all n hn
  rw [he] at a0 a1 a2
  simp only at a0 a1 a2
  have hn' : ¬ ((t.ents 7 0).length : Int) ≤ (n : Int) := by omega
  have hnd : decide ((t.ents 7 0).length ≤ n) = false := by simpa using hn
  have hn0 : (0 : Int) ≤ (n : Int) := by omega
  have hn1 : (n : Int) < ((t.ents 7 0).length : Int) := by omega
  have hkk : ((k : Int) != (k : Int)) = false := by simp
  clear he h
  go_enter Tryd.func17, Tryd.ntmps17
  go_wp2_with fail
  obtain ⟨v0, v1, -, -⟩ := hv
  obtain ⟨c0, c1, c2, c3, c4, c5, c6⟩ := h1.cells
  generalize w.alloc (.cells #[.int .i64 x, .int .i64 y] 32) = V at *
  have hmk : ∀ X, Below V.heap.size V X → X.cell? ⟨T, 1, none⟩ = some (.slice (some ⟨ga, oa, none⟩) (t.ents 7 0).length ac) ∧ X.cell? ⟨T, 5, none⟩ = some (.int .i64 (n : Int)) ∧ X.cell? ⟨ga, oa + n * 3, none⟩ = some (.int .u32 (k : Int)) ∧ X.cell? ⟨ga, oa + n * 3 + 1, none⟩ = some (.int .i64 x) ∧ X.cell? ⟨ga, oa + n * 3 + 2, none⟩ = some (.int .i64 y) ∧ X.cell? ⟨w.heap.size, 0, none⟩ = some (.int .i64 x) ∧ X.cell? ⟨w.heap.size, 1, none⟩ = some (.int .i64 y) ∧ Below V.heap.size V X := fun X hb => ⟨(hb.cell (World.block_lt_of_cell? _ _ c1)).trans c1, (hb.cell (World.block_lt_of_cell? _ _ c5)).trans c5, (hb.cell (World.block_lt_of_cell? _ _ a0)).trans a0, (hb.cell (World.block_lt_of_cell? _ _ a1)).trans a1, (hb.cell (World.block_lt_of_cell? _ _ a2)).trans a2, (hb.cell (World.block_lt_of_cell? _ _ v0)).trans v0, (hb.cell (World.block_lt_of_cell? _ _ v1)).trans v1, hb⟩
  have hBd := (Below.refl V.heap.size V).drew
  have hS := hmk _ hBd
  clear v0 v1 a0 a1 a2 c0 c1 c2 c3 c4 c5 c6
  go_region_held3 (fun X => X.cell? ⟨T, 1, none⟩ = some (.slice (some ⟨ga, oa, none⟩) (t.ents 7 0).length ac) ∧ X.cell? ⟨T, 5, none⟩ = some (.int .i64 (n : Int)) ∧ X.cell? ⟨ga, oa + n * 3, none⟩ = some (.int .u32 (k : Int)) ∧ X.cell? ⟨ga, oa + n * 3 + 1, none⟩ = some (.int .i64 x) ∧ X.cell? ⟨ga, oa + n * 3 + 2, none⟩ = some (.int .i64 y) ∧ X.cell? ⟨w.heap.size, 0, none⟩ = some (.int .i64 x) ∧ X.cell? ⟨w.heap.size, 1, none⟩ = some (.int .i64 y) ∧ Below V.heap.size V X) (with_reducible assumption)
    (first | (go_at_call 13; refine (same_VV hBd x y x y true (by simp)).mono ?_; rintro e w5 ⟨rfl, hb5⟩; have hS5 := hmk _ hb5))
  have h5 := h1.later hb5
  clear hS5 hmk hS hBd h1 hb5 hb1
  obtain ⟨c0, c1, c2, c3, c4, c5, c6⟩ := h5.cells
  go_wp2_with (first | (go_at_call 18; refine (mput_any mb k hk (3, 1) t _ h5.map).mono ?_; rintro e w6 ⟨mb6, t6, rfl, -, -, hb6⟩; have h6 := h5.later hb6; have c0 := h6.cells.1; have c5 := h6.cells.2.2.2.2.2.1) | (go_at_call 19; refine (mdrop_any mb k hk t _ h6.map).mono ?_; rintro e w7 ⟨mb7, t7, rfl, -, -, hb7⟩; have h7 := h6.later hb7; have d5 := h7.cells.2.2.2.2.2.1) | fail)
  have hbw : IntKind.i64.wrap ((n : Int) + 1) = (n : Int) + 1 := by rw [IntKind.wrap_i64]; omega
  have hbw2 : wrap64 ((n : Int) + 1) = (n : Int) + 1 := by unfold wrap64; omega
  have hmk : ∀ X, Below w7.heap.size w7 X → X.cell? ⟨T, 0, none⟩ = some (.pointer (some ⟨mb, 0, none⟩)) ∧ X.cell? ⟨T, 2, none⟩ = some (.slice pa (runL stop ((t.ents 7 0).filter (atLeast id))).length pc) ∧ X.cell? ⟨T, 3, none⟩ = some (.int .u32 (id : Int)) ∧ X.cell? ⟨T, 4, none⟩ = some (.int .i64 stop) ∧ X.cell? ⟨T, 5, none⟩ = some (.int .i64 (n : Int)) ∧ Below w7.heap.size w7 X := fun X hb => have h := (h7.later hb).cells; ⟨h.1, h.2.2.1, h.2.2.2.1, h.2.2.2.2.1, h.2.2.2.2.2.1, hb⟩
  have hBd := (Below.refl w7.heap.size w7).drew
  have hS := hmk _ hBd
  have hlp : (runL stop ((t.ents 7 0).filter (atLeast id))).length ≤ 1000000000 := by
    have h1 := List.length_filter_le (atLeast id) (t.ents 7 0)
    unfold runL
    split
    · omega
    · rw [List.length_take]; omega
  clear c0 c1 c2 c3 c4 c5 c6 d5 h5 h6 hb6 hb7
  by_cases h20 : n < 20
  · have h20a : (n : Int) < 20 := by omega
    have h20b : decide (n < 20) = true := by simpa using h20
    go_region_held3 (fun X => X.cell? ⟨T, 0, none⟩ = some (.pointer (some ⟨mb, 0, none⟩)) ∧ X.cell? ⟨T, 2, none⟩ = some (.slice pa (runL stop ((t.ents 7 0).filter (atLeast id))).length pc) ∧ X.cell? ⟨T, 3, none⟩ = some (.int .u32 (id : Int)) ∧ X.cell? ⟨T, 4, none⟩ = some (.int .i64 stop) ∧ X.cell? ⟨T, 5, none⟩ = some (.int .i64 (n : Int)) ∧ Below w7.heap.size w7 X) (with_reducible assumption)
      (first | (go_at_call 15; refine (from_any mb t id hid stop hl _ (h7.map.later hBd)).mono ?_; rintro e w8 ⟨fa, fc, rfl, hE8, hb8⟩; have hB8 := below_step hBd hb8; have hS8 := hmk _ hB8) | (go_at_call 10; refine (same_entries _ _ (runL stop ((t.ents 7 0).filter (atLeast id))) hlp _ hE8 (h7.part.later hB8)).mono ?_; rintro e w9 ⟨rfl, hb9⟩; have hB9 := below_step hB8 hb9; have hS9 := hmk _ hB9))
    have h9 := h7.later hB9
    clear hmk hS hS8 hS9 hBd hE8 hb8 hb9 hB8
    obtain ⟨-, -, -, -, -, c5, c6⟩ := h9.cells
    have f5 := frozen_of_row h9.row 5
    have hr := heap_setCell_same w9 T 5 _ _ (.int .i64 ((n : Int) + 1)) h9.row
    have hBn : Below W.heap.size W (w9.setCell ⟨T, 5, none⟩ (.int .i64 ((n : Int) + 1))) := h9.below.setCell h9.low _
    go_wp2
    go_ret
    exact ⟨rfl, h9.set hr hBn⟩
  · have h20a : ¬ (n : Int) < 20 := by omega
    have h20b : decide (n < 20) = false := by simpa using h20
    obtain ⟨-, -, -, -, -, d5, -⟩ := h7.cells
    go_quiet (fail)
    have h9 := h7.later (below_drewN (Below.refl w7.heap.size w7) nq)
    clear hmk hS hBd
    generalize w7.drewN nq = w9 at *
    obtain ⟨-, -, -, -, -, c5, c6⟩ := h9.cells
    have f5 := frozen_of_row h9.row 5
    have hr := heap_setCell_same w9 T 5 _ _ (.int .i64 ((n : Int) + 1)) h9.row
    have hBn : Below W.heap.size W (w9.setCell ⟨T, 5, none⟩ (.int .i64 ((n : Int) + 1))) := h9.below.setCell h9.low _
    go_wp2
    go_ret
    exact ⟨rfl, h9.set hr hBn⟩

end Go.Proofs.YtmlkceganilboaaDoor
