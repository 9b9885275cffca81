import Derived.Test.YthnmjafoplfikaaGreatDoorTurnRmClauses
namespace Go.Proofs.YthnmjafoplfikaaGreatDoor
open Go.RowKit

/-- What the copy of a line is. -/
def RmL (R lo : Nat) (K : Nat → Value) (V : Nat → List Value) (N' : Nat) (x : Ln) (W : World) (e : Ending) (W' : World) : Prop := ∃ g K' V', e = .returned (.agg #[.string ⟨x.name.toArray⟩, .bool x.input, .bool x.must, .int .i64 (x.type), .int .i64 (x.opts), .int .i64 (x.group), .slice (some ⟨g, 0, none⟩) x.cls.length (x.cls.length + 40)]) ∧ RmAt W' R lo K' V' N' ∧ RmStep R K V K' V' W W' ∧ RowR eC W' (SnR W.heap.size R K' W') x.cls (some ⟨g, 0, none⟩)
set_option maxRecDepth 4000 in
set_option maxHeartbeats 4000000 in
theorem line_rm (x : Ln) (R lo N : Nat) (K : Nat → Value) (V : Nat → List Value) (a : Option Addr) (cap : Nat) (W : World) (hx : x.cls.length ≤ 1000000) (hc : cC x.cls ≤ 1000000) (hN : N + cC x.cls ≤ 1000000000) (hR : RmAt W R lo K V N) (hrow : RowR eC W (fun b => b < lo) x.cls a) :
    Calls Tryz.prog 65 #[.pointer (some ⟨R, 0, none⟩), .agg #[.string ⟨x.name.toArray⟩, .bool x.input, .bool x.must, .int .i64 (x.type), .int .i64 (x.opts), .int .i64 (x.group), .slice a x.cls.length cap]] W (RmL R lo K V (N + cC x.cls + 1) x W) := by
  obtain ⟨A, hA⟩ : ∃ A, A = Obj.cells #[.string ⟨x.name.toArray⟩, .bool x.input, .bool x.must, .int .i64 (x.type), .int .i64 (x.opts), .int .i64 (x.group), .slice a x.cls.length cap] 78 := ⟨_, rfl⟩
  obtain ⟨B, hB⟩ : ∃ B, B = Obj.cells #[.string ⟨#[]⟩, .bool false, .bool false, .int .i64 (0), .int .i64 (0), .int .i64 (0), .slice none 0 0] 78 := ⟨_, rfl⟩
  have hb1 := bel_alloc W A
  have hb2 := bel_alloc (W.alloc A) B
  have hs1 : (W.alloc A).heap.size = W.heap.size + 1 := by simp
  have hs2 : ((W.alloc A).alloc B).heap.size = W.heap.size + 1 + 1 := by simp
  obtain ⟨X, hX⟩ : ∃ X, X = (W.alloc A).alloc B := ⟨_, rfl⟩
  have hr0 : X.heap[W.heap.size]? = some A := by rw [hX]; exact bel_cells hb2 (by omega) (heap_alloc_new W A)
  have hr1 : X.heap[W.heap.size + 1]? = some B := by rw [hX, ← hs1]; exact heap_alloc_new (W.alloc A) B
  have hWX : Below W.heap.size W X := by rw [hX]; exact hb1.trans (hb2.mono hb1.size)
  have hXs : X.heap.size = W.heap.size + 1 + 1 := by rw [hX]; exact hs2
  have hRX := hR.new hWX
  have hle : lo ≤ W.heap.size := by have := hR.lt; have := hR.low; omega
  have hex := clauses_rm R lo N K V x.cls a cap X hx hc hN hRX (hrow.fr hWX.size (fun b hb _ => hWX.block b (Nat.lt_of_lt_of_le hb hle)))
  have hsX : RmStep R K V K V W X := (RmStep.refl R K V W).after (r := none) ⟨hWX.os, hWX.tape, hWX.output, hWX.size, fun k hk _ => hWX.block k hk⟩ (fun _ e => by cases e)
  have hc6 : X.cell? ⟨W.heap.size, 6, none⟩ = some (.slice a x.cls.length cap) := by rw [hA] at hr0; exact cell_of_row _ _ 6 _ _ _ hr0
  have hXe : (W.alloc (.cells #[.string ⟨x.name.toArray⟩, .bool x.input, .bool x.must, .int .i64 (x.type), .int .i64 (x.opts), .int .i64 (x.group), .slice a x.cls.length cap] 78)).alloc (.cells #[.string ⟨#[]⟩, .bool false, .bool false, .int .i64 (0), .int .i64 (0), .int .i64 (0), .slice none 0 0] 78) = X := by rw [hX, hA, hB]
  rw [hA] at hr0
  rw [hB] at hr1
  have hRH := Hid.mk hR
  have hXsH := Hid.mk hXs
  have hsXH := Hid.mk hsX
  clear hX hA hB hb1 hb2 hs1 hs2 hR hRX hXs hsX hrow hle
  go_enter Tryz.func65, Tryz.ntmps65
  go_wp2_with (go_at_call 84; fail)
  clear hXe
  refine hex.mono ?_
  rintro e w3 ⟨g, K', V', rfl, hR3, hs3, hF⟩
  have hXs := hXsH.out
  obtain ⟨o0, o1, o2, o3⟩ := rm_box_off (b := W.heap.size) hRH.out hs3 (Nat.le_refl _) (by omega)
  obtain ⟨p0, p1, p2, p3⟩ := rm_box_off (b := W.heap.size + 1) hRH.out hs3 (by omega) (by omega)
  have t0 := (hs3.fm.block _ (by omega) o0 o3).trans hr0
  have t1 := (hs3.fm.block _ (by omega) p0 p3).trans hr1
  have hW3 := hs3.fm.size
  have hS0 : ¬ SnR X.heap.size R K' w3 W.heap.size := fun h => by have := h.1; omega
  have hS1 : ¬ SnR X.heap.size R K' w3 (W.heap.size + 1) := fun h => by have := h.1; omega
  have hFr : Frm (SnR X.heap.size R K' w3) (fun Z => RowR eC Z (SnR X.heap.size R K' w3) x.cls (some ⟨g, 0, none⟩) ∧ w3.heap.size ≤ Z.heap.size) := fun Z Z' h hs hb => ⟨h.1.fr hs hb, Nat.le_trans h.2 hs⟩
  have hZ : RmZ R lo (N + cC x.cls + 1) K V K' V' W (fun Z => RowR eC Z (SnR X.heap.size R K' w3) x.cls (some ⟨g, 0, none⟩) ∧ w3.heap.size ≤ Z.heap.size) w3 := ⟨hR3, hsXH.out.trans hs3, hF, Nat.le_refl _⟩
  have hY0 := hZ.set hFr (b := W.heap.size) (Nat.le_refl _) hS0 ⟨o0, o1, o2⟩ 6 (.slice (some ⟨g, 0, none⟩) x.cls.length (x.cls.length + 40))
  have u0 := heap_setCell_same w3 W.heap.size 6 _ _ (.slice (some ⟨g, 0, none⟩) x.cls.length (x.cls.length + 40)) t0
  have u1 := ((gr_set w3 W.heap.size 6 (.slice (some ⟨g, 0, none⟩) x.cls.length (x.cls.length + 40))).block (W.heap.size + 1) (by omega) (fun e => by have := Option.some.inj e; omega)).trans t1
  have q6 : w3.cell? ⟨W.heap.size, 6, none⟩ = some (.slice a x.cls.length cap) := cell_of_row _ _ 6 _ _ _ t0
  have f6 := frozen_of_row _ _ 6 _ _ t0
  obtain ⟨Y, hY⟩ : ∃ Y, w3.setCell ⟨W.heap.size, 6, none⟩ (.slice (some ⟨g, 0, none⟩) x.cls.length (x.cls.length + 40)) = Y := ⟨_, rfl⟩
  rw [hY] at u0 hY0 u1
  have y0 : Y.cell? ⟨W.heap.size, 0, none⟩ = some (.string ⟨x.name.toArray⟩) := cell_of_row _ _ 0 _ _ _ u0
  have y1 : Y.cell? ⟨W.heap.size, 1, none⟩ = some (.bool x.input) := cell_of_row _ _ 1 _ _ _ u0
  have y2 : Y.cell? ⟨W.heap.size, 2, none⟩ = some (.bool x.must) := cell_of_row _ _ 2 _ _ _ u0
  have y3 : Y.cell? ⟨W.heap.size, 3, none⟩ = some (.int .i64 (x.type)) := cell_of_row _ _ 3 _ _ _ u0
  have y4 : Y.cell? ⟨W.heap.size, 4, none⟩ = some (.int .i64 (x.opts)) := cell_of_row _ _ 4 _ _ _ u0
  have y5 : Y.cell? ⟨W.heap.size, 5, none⟩ = some (.int .i64 (x.group)) := cell_of_row _ _ 5 _ _ _ u0
  have y6 : Y.cell? ⟨W.heap.size, 6, none⟩ = some (.slice (some ⟨g, 0, none⟩) x.cls.length (x.cls.length + 40)) := cell_of_row _ _ 6 _ _ _ u0
  have z0 : Y.cell? ⟨W.heap.size + 1, 0, none⟩ = some (.string ⟨#[]⟩) := cell_of_row _ _ 0 _ _ _ u1
  have z1 : Y.cell? ⟨W.heap.size + 1, 1, none⟩ = some (.bool false) := cell_of_row _ _ 1 _ _ _ u1
  have z2 : Y.cell? ⟨W.heap.size + 1, 2, none⟩ = some (.bool false) := cell_of_row _ _ 2 _ _ _ u1
  have z3 : Y.cell? ⟨W.heap.size + 1, 3, none⟩ = some (.int .i64 (0)) := cell_of_row _ _ 3 _ _ _ u1
  have z4 : Y.cell? ⟨W.heap.size + 1, 4, none⟩ = some (.int .i64 (0)) := cell_of_row _ _ 4 _ _ _ u1
  have z5 : Y.cell? ⟨W.heap.size + 1, 5, none⟩ = some (.int .i64 (0)) := cell_of_row _ _ 5 _ _ _ u1
  have z6 : Y.cell? ⟨W.heap.size + 1, 6, none⟩ = some (.slice none 0 0) := cell_of_row _ _ 6 _ _ _ u1
  have k0 := frozen_of_row _ _ 0 _ _ u1
  have k1 := frozen_of_row _ _ 1 _ _ u1
  have k2 := frozen_of_row _ _ 2 _ _ u1
  have k3 := frozen_of_row _ _ 3 _ _ u1
  have k4 := frozen_of_row _ _ 4 _ _ u1
  have k5 := frozen_of_row _ _ 5 _ _ u1
  have k6 := frozen_of_row _ _ 6 _ _ u1
  have hp : (W.heap.size + 1) ≠ R ∧ (∀ j, j < 21 → (K' j).ownBlock ≠ some (W.heap.size + 1)) ∧ ∀ j, j < 21 → ∀ v ∈ V' j, v.ownBlock ≠ some (W.heap.size + 1) := ⟨p0, p1, p2⟩
  have hZ5 := Hid.mk (((((((hY0.set hFr (b := W.heap.size + 1) (by omega) hS1 hp 0 (.string ⟨x.name.toArray⟩)).set hFr (b := W.heap.size + 1) (by omega) hS1 hp 1 (.bool x.input)).set hFr (b := W.heap.size + 1) (by omega) hS1 hp 2 (.bool x.must)).set hFr (b := W.heap.size + 1) (by omega) hS1 hp 3 (.int .i64 (x.type))).set hFr (b := W.heap.size + 1) (by omega) hS1 hp 4 (.int .i64 (x.opts))).set hFr (b := W.heap.size + 1) (by omega) hS1 hp 5 (.int .i64 (x.group))).set hFr (b := W.heap.size + 1) (by omega) hS1 hp 6 (.slice (some ⟨g, 0, none⟩) x.cls.length (x.cls.length + 40)))
  have v1 := heap_setCell_same Y (W.heap.size + 1) 0 _ _ (.string ⟨x.name.toArray⟩) u1
  have v2 := heap_setCell_same _ (W.heap.size + 1) 1 _ _ (.bool x.input) v1
  have v3 := heap_setCell_same _ (W.heap.size + 1) 2 _ _ (.bool x.must) v2
  have v4 := heap_setCell_same _ (W.heap.size + 1) 3 _ _ (.int .i64 (x.type)) v3
  have v5 := heap_setCell_same _ (W.heap.size + 1) 4 _ _ (.int .i64 (x.opts)) v4
  have v6 := heap_setCell_same _ (W.heap.size + 1) 5 _ _ (.int .i64 (x.group)) v5
  have v7 := heap_setCell_same _ (W.heap.size + 1) 6 _ _ (.slice (some ⟨g, 0, none⟩) x.cls.length (x.cls.length + 40)) v6
  have v9 := Hid.mk v7
  have hne : W.heap.size + 1 ≠ W.heap.size := by omega
  clear v1 v2 v3 v4 v5 v6 v7 u0 u1 t0 t1 hr0 hr1 hZ hY0 hFr hS0 hS1 hp o0 o1 o2 o3 p0 p1 p2 p3 hF hR3 hex hWX hXs hW3
  go_wp2
  have d9 := v9.out
  have hZ := hZ5.out
  clear v9 hZ5
  generalize (((((((Y.setCell ⟨W.heap.size + 1, 0, none⟩ (.string ⟨x.name.toArray⟩)).setCell ⟨W.heap.size + 1, 1, none⟩ (.bool x.input)).setCell ⟨W.heap.size + 1, 2, none⟩ (.bool x.must)).setCell ⟨W.heap.size + 1, 3, none⟩ (.int .i64 (x.type))).setCell ⟨W.heap.size + 1, 4, none⟩ (.int .i64 (x.opts))).setCell ⟨W.heap.size + 1, 5, none⟩ (.int .i64 (x.group))).setCell ⟨W.heap.size + 1, 6, none⟩ (.slice (some ⟨g, 0, none⟩) x.cls.length (x.cls.length + 40))) = Z at *
  have d0 : Z.cell? ⟨W.heap.size + 1, 0, none⟩ = some (.string ⟨x.name.toArray⟩) := cell_of_row _ _ 0 _ _ _ d9
  have d1 : Z.cell? ⟨W.heap.size + 1, 1, none⟩ = some (.bool x.input) := cell_of_row _ _ 1 _ _ _ d9
  have d2 : Z.cell? ⟨W.heap.size + 1, 2, none⟩ = some (.bool x.must) := cell_of_row _ _ 2 _ _ _ d9
  have d3 : Z.cell? ⟨W.heap.size + 1, 3, none⟩ = some (.int .i64 (x.type)) := cell_of_row _ _ 3 _ _ _ d9
  have d4 : Z.cell? ⟨W.heap.size + 1, 4, none⟩ = some (.int .i64 (x.opts)) := cell_of_row _ _ 4 _ _ _ d9
  have d5 : Z.cell? ⟨W.heap.size + 1, 5, none⟩ = some (.int .i64 (x.group)) := cell_of_row _ _ 5 _ _ _ d9
  have d6 : Z.cell? ⟨W.heap.size + 1, 6, none⟩ = some (.slice (some ⟨g, 0, none⟩) x.cls.length (x.cls.length + 40)) := cell_of_row _ _ 6 _ _ _ d9
  refine bodyPost_ret (v := .agg #[.string ⟨x.name.toArray⟩, .bool x.input, .bool x.must, .int .i64 (x.type), .int .i64 (x.opts), .int .i64 (x.group), .slice (some ⟨g, 0, none⟩) x.cls.length (x.cls.length + 40)]) ?_ rfl ⟨g, K', V', rfl, hZ.at_, hZ.st, hZ.c.1.mo (fun b _ hb => ⟨by have := hb.1; have := hXsH.out; omega, Nat.lt_of_lt_of_le hb.2.1 hZ.c.2, hb.2.2⟩)⟩
  simp [results, Tryz.results65, go_sem, d0, d1, d2, d3, d4, d5, d6]

end Go.Proofs.YthnmjafoplfikaaGreatDoor
