import Derived.Test.YtkojgbfocdefnaaHFn
namespace Go.Proofs.Ytkojgbfocdefnaa
open Go.RowKit

/-- The present place is another one. -/
theorem hist_move {w : World} {hb : Nat} {Ls : List Es} {p : Nat} (h : HistAt w hb Ls p) (q : Nat) (hq : q < Ls.length) : HistAt (w.setCell ⟨hb, 1, none⟩ (.int .i64 (q : Int))) hb Ls q ∧ w.grownBy (w.setCell ⟨hb, 1, none⟩ (.int .i64 (q : Int))) (some hb) := by
  obtain ⟨hp, hl, g, cap, vs, hH, hcap, hne, hM⟩ := h
  have hgr := grown_set w hb 1 (.int .i64 (q : Int))
  refine ⟨⟨hq, hl, g, cap, vs, ?_, hcap, hne, hM.kept hne hH hgr⟩, hgr⟩
  exact heap_setCell_same w hb 1 _ _ (.int .i64 (q : Int)) hH

theorem HistAt.cells {w : World} {hb : Nat} {Ls : List Es} {p : Nat} (h : HistAt w hb Ls p) : ∃ g cap, w.cell? ⟨hb, 0, none⟩ = some (.slice (some ⟨g, 0, none⟩) Ls.length cap) ∧ w.cell? ⟨hb, 1, none⟩ = some (.int .i64 (p : Int)) ∧ w.frozen? ⟨hb, 0, none⟩ = false ∧ w.frozen? ⟨hb, 1, none⟩ = false := by
  obtain ⟨hp, hl, g, cap, vs, hH, hcap, hne, hM⟩ := h
  exact ⟨g, cap, cell_of_row _ _ 0 _ _ _ hH, cell_of_row _ _ 1 _ _ _ hH, frozen_of_row hH 0, frozen_of_row hH 1⟩
theorem grown_laterB {W X Y : World} {r : Option Nat} (h : W.grownBy X r) (hb : Below X.heap.size X Y) : W.grownBy Y r := ⟨hb.os.trans h.os, hb.tape.trans h.tape, hb.output.trans h.output, Nat.le_trans h.size hb.size, fun k hk hne => (hb.block k (Nat.lt_of_lt_of_le hk h.size)).trans (h.block k hk hne)⟩
theorem grown_of_below {W X : World} {r : Option Nat} (hb : Below W.heap.size W X) : W.grownBy X r := ⟨hb.os, hb.tape, hb.output, hb.size, fun k hk _ => hb.block k hk⟩

set_option maxRecDepth 4000 in
set_option maxHeartbeats 1000000 in
theorem undo_none (hb : Nat) (Ls : List Es) (w : World) (h : HistAt w hb Ls 0) : Calls Try.prog 27 #[.pointer (some ⟨hb, 0, none⟩)] w fun e w' => e = .returned (.tuple #[.pointer none, .int .i64 111]) ∧ Below w.heap.size w w' := by
  have hl := h.1
  have hd := depth_any hb Ls 0 (Ls.length - 1) (by omega) w h
  rw [show (((0 : Nat)) : Int) = 0 from rfl] at hd
  go_enter Try.func27, Try.ntmps27
  go_wp2_with (go_at_call 32; refine hd.mono ?_; rintro e w1 ⟨rfl, hb1⟩)
  go_ret2
  exact ⟨rfl, hb1⟩

set_option maxRecDepth 4000 in
set_option maxHeartbeats 1000000 in
theorem undo_some (hb : Nat) (Ls : List Es) (p : Nat) (w : World) (h : HistAt w hb Ls (p + 1)) : Calls Try.prog 27 #[.pointer (some ⟨hb, 0, none⟩)] w fun e w' => ∃ mb, e = .returned (.tuple #[.pointer (some ⟨mb, 0, none⟩), .int .i64 0]) ∧ MapE w' mb (Ls.getD p []) ∧ (Ls.getD p []).length ≤ 200 ∧ HistAt w' hb Ls p ∧ w.grownBy w' (some hb) := by
  have hl := h.1
  have hl2 := h.2.1
  have hd := depth_any hb Ls (p + 1) (Ls.length - 1 - (p + 1)) (by omega) w h
  generalize (((Ls.length - 1 - (p + 1) : Nat)) : Int) = r at hd
  rw [show (((p + 1 : Nat)) : Int) = (p : Int) + 1 from by omega] at hd
  have hz : ((p : Int) + 1 == 0) = false := by simp; omega
  have hwr : IntKind.i64.wrap ((p : Int) + 1 - 1) = (p : Int) := by rw [IntKind.wrap_i64]; omega
  have hwr2 : IntKind.i64.wrap (p : Int) = (p : Int) := by rw [IntKind.wrap_i64]; omega
  have hwr3 : wrap64 ((p : Int) + 1 - 1) = (p : Int) := by unfold wrap64; omega
  have hwr4 : wrap64 (p : Int) = (p : Int) := by unfold wrap64; omega
  have ha : (p : Int) + 1 - 1 = (p : Int) := by omega
  go_enter Try.func27, Try.ntmps27
  go_wp2_with (go_at_call 32; refine hd.mono ?_; rintro e w1 ⟨rfl, hb1⟩; have h1 := h.later hb1; obtain ⟨g, cap, c0, c1, f0, f1⟩ := h1.cells; rw [show (((p + 1 : Nat)) : Int) = (p : Int) + 1 from by omega] at c1; obtain ⟨h2, hg2⟩ := hist_move h1 p (by omega))
  refine (now_any hb Ls p _ h2).mono ?_
  rintro e w3 ⟨mb, rfl, hm3, hl3, hb3⟩
  go_wp2
  go_ret2
  exact ⟨mb, rfl, hm3, hl3, h2.later hb3, grown_laterB (((grown_of_below hb1).trans hg2)) hb3⟩

set_option maxRecDepth 4000 in
set_option maxHeartbeats 1000000 in
theorem redo_none (hb : Nat) (Ls : List Es) (p : Nat) (hp : p + 1 = Ls.length) (w : World) (h : HistAt w hb Ls p) : Calls Try.prog 30 #[.pointer (some ⟨hb, 0, none⟩)] w fun e w' => e = .returned (.tuple #[.pointer none, .int .i64 112]) ∧ Below w.heap.size w w' := by
  have hd := depth_any hb Ls p 0 (by omega) w h
  rw [show (((0 : Nat)) : Int) = 0 from rfl] at hd
  go_enter Try.func30, Try.ntmps30
  go_wp2_with (go_at_call 32; refine hd.mono ?_; rintro e w1 ⟨rfl, hb1⟩)
  go_ret2
  exact ⟨rfl, hb1⟩

set_option maxRecDepth 4000 in
set_option maxHeartbeats 1000000 in
theorem redo_some (hb : Nat) (Ls : List Es) (p : Nat) (hp : p + 1 < Ls.length) (w : World) (h : HistAt w hb Ls p) : Calls Try.prog 30 #[.pointer (some ⟨hb, 0, none⟩)] w fun e w' => ∃ mb, e = .returned (.tuple #[.pointer (some ⟨mb, 0, none⟩), .int .i64 0]) ∧ MapE w' mb (Ls.getD (p + 1) []) ∧ (Ls.getD (p + 1) []).length ≤ 200 ∧ HistAt w' hb Ls (p + 1) ∧ w.grownBy w' (some hb) := by
  have hl2 := h.2.1
  obtain ⟨r, hr⟩ : ∃ r, p + 1 + (r + 1) = Ls.length := ⟨Ls.length - p - 2, by omega⟩
  have hd := depth_any hb Ls p (r + 1) hr w h
  rw [show (((r + 1 : Nat)) : Int) = (r : Int) + 1 from by omega] at hd
  have hz : ((r : Int) + 1 == 0) = false := by simp; omega
  have hwr : IntKind.i64.wrap ((p : Int) + 1) = (p : Int) + 1 := by rw [IntKind.wrap_i64]; omega
  have hwr3 : wrap64 ((p : Int) + 1) = (p : Int) + 1 := by unfold wrap64; omega
  go_enter Try.func30, Try.ntmps30
  go_wp2_with (go_at_call 32; refine hd.mono ?_; rintro e w1 ⟨rfl, hb1⟩; have h1 := h.later hb1; obtain ⟨g, cap, c0, c1, f0, f1⟩ := h1.cells; obtain ⟨h2, hg2⟩ := hist_move h1 (p + 1) hp; rw [show (((p + 1 : Nat)) : Int) = (p : Int) + 1 from by omega] at h2 hg2)
  refine (now_any hb Ls (p + 1) _ h2).mono ?_
  rintro e w3 ⟨mb, rfl, hm3, hl3, hb3⟩
  go_wp2
  go_ret2
  exact ⟨mb, rfl, hm3, hl3, h2.later hb3, grown_laterB (((grown_of_below hb1).trans hg2)) hb3⟩

end Go.Proofs.Ytkojgbfocdefnaa
