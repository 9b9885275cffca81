import Derived.Test.YthnmjafoplfikaaGreatDoorTurnRmW
namespace Go.Proofs.YthnmjafoplfikaaGreatDoor
open Go.RowKit

/-- How many lists of expressions a copy makes. -/
def cNf : Fo → Nat
  | .nil => 0
  | .cons _ _ _ _ args rest => 1 + cNf args + cNf rest
def cL (xs : List Ex) : Nat := (xs.map fun x => 1 + cNf x.args).sum
theorem cL_snoc (xs : List Ex) (x : Ex) : cL (xs ++ [x]) = cL xs + (1 + cNf x.args) := by simp [cL]
theorem cL_toL : ∀ f : Fo, cL (toL f) = cNf f
  | .nil => rfl
  | .cons a b c d x r => by
    have := cL_toL r
    unfold cL at this
    show (1 + cNf x) + ((toL r).map fun x => 1 + cNf x.args).sum = 1 + cNf x + cNf r
    rw [this]
theorem cL_len : ∀ xs : List Ex, xs.length ≤ cL xs
  | [] => Nat.le_refl _
  | x :: xs => by
    have := cL_len xs
    unfold cL at *
    simp
    omega
theorem cL_mem : ∀ (xs : List Ex) (x : Ex), x ∈ xs → cNf x.args + 1 ≤ cL xs
  | y :: xs, x, h => by
    rcases List.mem_cons.1 h with rfl | h
    · unfold cL; simp; omega
    · have := cL_mem xs x h
      unfold cL at *
      simp
      omega
theorem cL_take (xs : List Ex) (k : Nat) : cL (xs.take k) ≤ cL xs := by
  conv => rhs; rw [← List.take_append_drop k xs]
  unfold cL
  rw [List.map_append, List.sum_append]
  omega
/-- What the copy of an expression is. -/
def RmX (R lo : Nat) (K : Nat → Value) (V : Nat → List Value) (N' : Nat) (x : Ex) (W : World) (e : Ending) (W' : World) : Prop := ∃ g K' V', e = .returned (.agg #[.int .i64 x.op, .int .i64 x.num, .int .i64 x.den, .int .i64 x.mode, .slice (some ⟨g, 0, none⟩) x.args.len (x.args.len + 8)]) ∧ RmAt W' R lo K' V' N' ∧ RmStep R K V K' V' W W' ∧ FoAt W' (SnR W.heap.size R K' W') x.args (some ⟨g, 0, none⟩)
/-- A block that was made ahead of a step of the room is none of its. -/
theorem rm_box_off {W X W3 : World} {R lo N : Nat} {K K' : Nat → Value} {V V' : Nat → List Value} {b : Nat} (hR : RmAt W R lo K V N) (hs : RmStep R K V K' V' X W3) (h1 : W.heap.size ≤ b) (h2 : b < X.heap.size) : b ≠ R ∧ (∀ j, j < 21 → (K' j).ownBlock ≠ some b) ∧ (∀ j, j < 21 → ∀ v ∈ V' j, v.ownBlock ≠ some b) ∧ ∀ j, j < 21 → (K j).ownBlock ≠ some b := by
  have hK : ∀ j, j < 21 → (K j).ownBlock ≠ some b := fun j hj e => by have := ((hR.own j hj).lt b e).2; omega
  refine ⟨by have := hR.lt; omega, fun j hj e => ?_, fun j hj v hv e => ?_, hK⟩
  · rcases hs.ks j hj with e' | ⟨g, e', hg⟩
    · exact hK j hj (e'.symm.trans e)
    · rw [e'] at e
      have := Option.some.inj e
      omega
  · rcases hs.vs j hj v hv with e' | ⟨g, e', hg⟩
    · have := (hR.mks j hj v e').lt e
      omega
    · rw [e'] at e
      have := Option.some.inj e
      omega
theorem rm_set {W : World} {R lo N : Nat} {K : Nat → Value} {V : Nat → List Value} {b : Nat} (hR : RmAt W R lo K V N) (h : b ≠ R ∧ (∀ j, j < 21 → (K j).ownBlock ≠ some b) ∧ ∀ j, j < 21 → ∀ v ∈ V j, v.ownBlock ≠ some b) (i : Nat) (u : Value) : RmAt (W.setCell ⟨b, i, none⟩ u) R lo K V N :=
  hR.other (gr_set W b i u) (fun e => h.1 (Option.some.inj e)) (fun j hj g e e' => by rw [Option.some.inj e] at h; exact h.2.1 j hj e') (fun j hj v hv g e e' => by rw [Option.some.inj e] at h; exact h.2.2 j hj v hv e')
/-- A room with what was copied (C, of blocks of S), while boxes are filled. -/
structure RmZ (R lo N : Nat) (K : Nat → Value) (V : Nat → List Value) (K' : Nat → Value) (V' : Nat → List Value) (W : World) (C : World → Prop) (Z : World) : Prop where
  at_ : RmAt Z R lo K' V' N
  st : RmStep R K V K' V' W Z
  c : C Z
def Frm (S : Nat → Prop) (C : World → Prop) : Prop := ∀ Z Z' : World, C Z → Z.heap.size ≤ Z'.heap.size → (∀ b, S b → b < Z.heap.size → Z'.heap[b]? = Z.heap[b]?) → C Z'
theorem RmZ.set {R lo N : Nat} {K : Nat → Value} {V : Nat → List Value} {K' : Nat → Value} {V' : Nat → List Value} {W : World} {S : Nat → Prop} {C : World → Prop} {Z : World} (h : RmZ R lo N K V K' V' W C Z) (hC : Frm S C) {b : Nat} (hb : W.heap.size ≤ b) (hS : ¬ S b) (hO : b ≠ R ∧ (∀ j, j < 21 → (K' j).ownBlock ≠ some b) ∧ ∀ j, j < 21 → ∀ v ∈ V' j, v.ownBlock ≠ some b) (i : Nat) (u : Value) : RmZ R lo N K V K' V' W C (Z.setCell ⟨b, i, none⟩ u) :=
  ⟨rm_set h.at_ hO i u, h.st.after (gr_set Z b i u) (fun k e => by rw [← Option.some.inj e]; exact hb), hC _ _ h.c (gr_set Z b i u).size (fun k hk hlt => (gr_set Z b i u).block k hlt (fun e => hS (by rw [← Option.some.inj e]; exact hk)))⟩
theorem bel_cells {W W' : World} {n : Nat} (h : Below n W W') {b : Nat} (hb : b < n) {o : Obj} (hr : W.heap[b]? = some o) : W'.heap[b]? = some o := (h.block b hb).trans hr

set_option maxRecDepth 4000 in
set_option maxHeartbeats 4000000 in
theorem expr_of (R lo N N' : Nat) (K : Nat → Value) (V : Nat → List Value) (x : Ex) (a : Option Addr) (cap : Nat) (W : World) (hR : RmAt W R lo K V N)
    (hEx : ∀ X, RmAt X R lo K V N → Below W.heap.size W X → Calls Tryz.prog 85 #[.pointer (some ⟨R, 0, none⟩), .slice a (toL x.args).length cap] X (RmC eE R lo K V N' 8 (toL x.args) X)) :
    Calls Tryz.prog 66 #[.pointer (some ⟨R, 0, none⟩), .agg #[.int .i64 x.op, .int .i64 x.num, .int .i64 x.den, .int .i64 x.mode, .slice a x.args.len cap]] W (RmX R lo K V N' x W) := by
  obtain ⟨A, hA⟩ : ∃ A, A = Obj.cells #[.int .i64 x.op, .int .i64 x.num, .int .i64 x.den, .int .i64 x.mode, .slice a x.args.len cap] 73 := ⟨_, rfl⟩
  obtain ⟨B, hB⟩ : ∃ B, B = Obj.cells #[.int .i64 0, .int .i64 0, .int .i64 0, .int .i64 0, .slice none 0 0] 73 := ⟨_, rfl⟩
  have hb1 := bel_alloc W A
  have hb2 := bel_alloc (W.alloc A) B
  have hs1 : (W.alloc A).heap.size = W.heap.size + 1 := by simp
  have hs2 : ((W.alloc A).alloc B).heap.size = W.heap.size + 1 + 1 := by simp
  obtain ⟨X, hX⟩ : ∃ X, X = (W.alloc A).alloc B := ⟨_, rfl⟩
  have hr0 : X.heap[W.heap.size]? = some A := by rw [hX]; exact bel_cells hb2 (by omega) (heap_alloc_new W A)
  have hr1 : X.heap[W.heap.size + 1]? = some B := by rw [hX, ← hs1]; exact heap_alloc_new (W.alloc A) B
  have hWX : Below W.heap.size W X := by rw [hX]; exact hb1.trans (hb2.mono hb1.size)
  have hXs : X.heap.size = W.heap.size + 1 + 1 := by rw [hX]; exact hs2
  have hRX := hR.new hWX
  have hex := hEx X hRX hWX
  have hsX : RmStep R K V K V W X := (RmStep.refl R K V W).after (r := none) ⟨hWX.os, hWX.tape, hWX.output, hWX.size, fun k hk _ => hWX.block k hk⟩ (fun _ e => by cases e)
  have hc4 : X.cell? ⟨W.heap.size, 4, none⟩ = some (.slice a x.args.len cap) := by rw [hA] at hr0; exact cell_of_row _ _ 4 _ _ _ hr0
  rw [toL_len] at hex
  have hXe : (W.alloc (.cells #[.int .i64 x.op, .int .i64 x.num, .int .i64 x.den, .int .i64 x.mode, .slice a x.args.len cap] 73)).alloc (.cells #[.int .i64 0, .int .i64 0, .int .i64 0, .int .i64 0, .slice none 0 0] 73) = X := by rw [hX, hA, hB]
  rw [hA] at hr0
  rw [hB] at hr1
  have hRH := Hid.mk hR
  have hXsH := Hid.mk hXs
  have hsXH := Hid.mk hsX
  clear hEx hX hA hB hb1 hb2 hs1 hs2 hR hRX hXs hsX
  go_enter Tryz.func66, Tryz.ntmps66
  go_wp2_with (go_at_call 85; fail)
  clear hXe
  refine hex.mono ?_
  rintro e w3 ⟨g, K', V', rfl, hR3, hs3, hrow⟩
  rw [toL_len]
  have hF := fo_of_row hrow
  rw [ofL_toL] at hF
  have hXs := hXsH.out
  obtain ⟨o0, o1, o2, o3⟩ := rm_box_off (b := W.heap.size) hRH.out hs3 (Nat.le_refl _) (by omega)
  obtain ⟨p0, p1, p2, p3⟩ := rm_box_off (b := W.heap.size + 1) hRH.out hs3 (by omega) (by omega)
  have t0 := (hs3.fm.block _ (by omega) o0 o3).trans hr0
  have t1 := (hs3.fm.block _ (by omega) p0 p3).trans hr1
  have hW3 := hs3.fm.size
  have hS0 : ¬ SnR X.heap.size R K' w3 W.heap.size := fun h => by have := h.1; omega
  have hS1 : ¬ SnR X.heap.size R K' w3 (W.heap.size + 1) := fun h => by have := h.1; omega
  have hFr : Frm (SnR X.heap.size R K' w3) (fun Z => FoAt Z (SnR X.heap.size R K' w3) x.args (some ⟨g, 0, none⟩) ∧ w3.heap.size ≤ Z.heap.size) := fun Z Z' h hs hb => ⟨FoAt.fr hs hb _ _ h.1, Nat.le_trans h.2 hs⟩
  have hZ : RmZ R lo N' K V K' V' W (fun Z => FoAt Z (SnR X.heap.size R K' w3) x.args (some ⟨g, 0, none⟩) ∧ w3.heap.size ≤ Z.heap.size) w3 := ⟨hR3, hsXH.out.trans hs3, hF, Nat.le_refl _⟩
  have hY0 := hZ.set hFr (b := W.heap.size) (Nat.le_refl _) hS0 ⟨o0, o1, o2⟩ 4 (.slice (some ⟨g, 0, none⟩) x.args.len (x.args.len + 8))
  have u0 := heap_setCell_same w3 W.heap.size 4 _ _ (.slice (some ⟨g, 0, none⟩) x.args.len (x.args.len + 8)) t0
  have u1 := ((gr_set w3 W.heap.size 4 (.slice (some ⟨g, 0, none⟩) x.args.len (x.args.len + 8))).block (W.heap.size + 1) (by omega) (fun e => by have := Option.some.inj e; omega)).trans t1
  have q4 : w3.cell? ⟨W.heap.size, 4, none⟩ = some (.slice a x.args.len cap) := cell_of_row _ _ 4 _ _ _ t0
  have f4 := frozen_of_row _ _ 4 _ _ t0
  obtain ⟨Y, hY⟩ : ∃ Y, w3.setCell ⟨W.heap.size, 4, none⟩ (.slice (some ⟨g, 0, none⟩) x.args.len (x.args.len + 8)) = Y := ⟨_, rfl⟩
  rw [hY] at u0 hY0 u1
  have y0 : Y.cell? ⟨W.heap.size, 0, none⟩ = some (.int .i64 x.op) := cell_of_row _ _ 0 _ _ _ u0
  have y1 : Y.cell? ⟨W.heap.size, 1, none⟩ = some (.int .i64 x.num) := cell_of_row _ _ 1 _ _ _ u0
  have y2 : Y.cell? ⟨W.heap.size, 2, none⟩ = some (.int .i64 x.den) := cell_of_row _ _ 2 _ _ _ u0
  have y3 : Y.cell? ⟨W.heap.size, 3, none⟩ = some (.int .i64 x.mode) := cell_of_row _ _ 3 _ _ _ u0
  have y4 : Y.cell? ⟨W.heap.size, 4, none⟩ = some (.slice (some ⟨g, 0, none⟩) x.args.len (x.args.len + 8)) := cell_of_row _ _ 4 _ _ _ u0
  have z0 : Y.cell? ⟨W.heap.size + 1, 0, none⟩ = some (.int .i64 0) := cell_of_row _ _ 0 _ _ _ u1
  have z1 : Y.cell? ⟨W.heap.size + 1, 1, none⟩ = some (.int .i64 0) := cell_of_row _ _ 1 _ _ _ u1
  have z2 : Y.cell? ⟨W.heap.size + 1, 2, none⟩ = some (.int .i64 0) := cell_of_row _ _ 2 _ _ _ u1
  have z3 : Y.cell? ⟨W.heap.size + 1, 3, none⟩ = some (.int .i64 0) := cell_of_row _ _ 3 _ _ _ u1
  have z4 : Y.cell? ⟨W.heap.size + 1, 4, none⟩ = some (.slice none 0 0) := cell_of_row _ _ 4 _ _ _ u1
  have k0 := frozen_of_row _ _ 0 _ _ u1
  have k1 := frozen_of_row _ _ 1 _ _ u1
  have k2 := frozen_of_row _ _ 2 _ _ u1
  have k3 := frozen_of_row _ _ 3 _ _ u1
  have k4 := frozen_of_row _ _ 4 _ _ u1
  have hp : (W.heap.size + 1) ≠ R ∧ (∀ j, j < 21 → (K' j).ownBlock ≠ some (W.heap.size + 1)) ∧ ∀ j, j < 21 → ∀ v ∈ V' j, v.ownBlock ≠ some (W.heap.size + 1) := ⟨p0, p1, p2⟩
  have hZ5 := Hid.mk (((((hY0.set hFr (b := W.heap.size + 1) (by omega) hS1 hp 0 (.int .i64 x.op)).set hFr (b := W.heap.size + 1) (by omega) hS1 hp 1 (.int .i64 x.num)).set hFr (b := W.heap.size + 1) (by omega) hS1 hp 2 (.int .i64 x.den)).set hFr (b := W.heap.size + 1) (by omega) hS1 hp 3 (.int .i64 x.mode)).set hFr (b := W.heap.size + 1) (by omega) hS1 hp 4 (.slice (some ⟨g, 0, none⟩) x.args.len (x.args.len + 8)))
  have v1 := heap_setCell_same Y (W.heap.size + 1) 0 _ _ (.int .i64 x.op) u1
  have v2 := heap_setCell_same _ (W.heap.size + 1) 1 _ _ (.int .i64 x.num) v1
  have v3 := heap_setCell_same _ (W.heap.size + 1) 2 _ _ (.int .i64 x.den) v2
  have v4 := heap_setCell_same _ (W.heap.size + 1) 3 _ _ (.int .i64 x.mode) v3
  have v5 := Hid.mk (heap_setCell_same _ (W.heap.size + 1) 4 _ _ (.slice (some ⟨g, 0, none⟩) x.args.len (x.args.len + 8)) v4)
  have hne : W.heap.size + 1 ≠ W.heap.size := by omega
  clear v1 v2 v3 v4 u0 u1 t0 t1 hr0 hr1 hZ hY0 hFr hS0 hS1 hp o0 o1 o2 o3 p0 p1 p2 p3 hrow hF hR3 hex hWX hXs hW3
  go_wp2
  have d5 := v5.out
  have hZ := hZ5.out
  clear v5 hZ5
  generalize ((((Y.setCell ⟨W.heap.size + 1, 0, none⟩ (.int .i64 x.op)).setCell ⟨W.heap.size + 1, 1, none⟩ (.int .i64 x.num)).setCell ⟨W.heap.size + 1, 2, none⟩ (.int .i64 x.den)).setCell ⟨W.heap.size + 1, 3, none⟩ (.int .i64 x.mode)).setCell ⟨W.heap.size + 1, 4, none⟩ (.slice (some ⟨g, 0, none⟩) x.args.len (x.args.len + 8)) = Z at *
  have d0 : Z.cell? ⟨W.heap.size + 1, 0, none⟩ = some (.int .i64 x.op) := cell_of_row _ _ 0 _ _ _ d5
  have d1 : Z.cell? ⟨W.heap.size + 1, 1, none⟩ = some (.int .i64 x.num) := cell_of_row _ _ 1 _ _ _ d5
  have d2 : Z.cell? ⟨W.heap.size + 1, 2, none⟩ = some (.int .i64 x.den) := cell_of_row _ _ 2 _ _ _ d5
  have d3 : Z.cell? ⟨W.heap.size + 1, 3, none⟩ = some (.int .i64 x.mode) := cell_of_row _ _ 3 _ _ _ d5
  have d4 : Z.cell? ⟨W.heap.size + 1, 4, none⟩ = some (.slice (some ⟨g, 0, none⟩) x.args.len (x.args.len + 8)) := cell_of_row _ _ 4 _ _ _ d5
  refine bodyPost_ret (v := .agg #[.int .i64 x.op, .int .i64 x.num, .int .i64 x.den, .int .i64 x.mode, .slice (some ⟨g, 0, none⟩) x.args.len (x.args.len + 8)]) ?_ rfl ⟨g, K', V', rfl, hZ.at_, hZ.st, FoAt.mo (fun b _ hb => ⟨by have := hb.1; have := hXsH.out; omega, Nat.lt_of_lt_of_le hb.2.1 hZ.c.2, hb.2.2⟩) _ _ hZ.c.1⟩
  simp [results, Tryz.results66, go_sem, d0, d1, d2, d3, d4]

end Go.Proofs.YthnmjafoplfikaaGreatDoor
