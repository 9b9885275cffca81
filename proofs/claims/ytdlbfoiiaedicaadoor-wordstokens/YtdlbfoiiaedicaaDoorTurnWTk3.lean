import Derived.Test.YtdlbfoiiaedicaaDoorTurnWTk1
namespace Go.Proofs.YtdlbfoiiaedicaaDoor.Q
open Go.RowKit Go.Shelf
attribute [local go_sem] Oper.semAt_some

def J2 (w0 W0 : World) (mb : Nat) (pre : List Itm) (X : World) : Prop :=
  Below w0.heap.size w0 X ∧ W0.heap.size ≤ X.heap.size ∧ (∀ k, k < W0.heap.size → k ≠ mb → X.heap[k]? = W0.heap[k]?) ∧
  (∃ v, X.heap[mb]? = some (.cells #[v] 22 (0, 0)) ∧ X.ownsRow (W0.heap.size + 3) 35 5 v pre.length (tokLs pre))
theorem J2_step {w0 W0 : World} {mb : Nat} (hw : w0.heap.size ≤ W0.heap.size) {pre : List Itm} {X Y : World} (h : J2 w0 W0 mb pre X) (hs : StepB W0.heap.size X Y) : J2 w0 W0 mb pre Y := by
  obtain ⟨h1, h2, h3, ⟨v, h5, ho⟩⟩ := h
  refine ⟨(hs.mono hw).below h1 h1.size, Nat.le_trans h2 (size_stepB hs), fun k hk he => ?_, ⟨v, block_stepB h5 hs, own_stepB ho hs⟩⟩
  rw [← h3 k hk he]
  obtain ⟨row, hg, hr⟩ := hs
  refine hg.block k (by omega) (fun e => ?_)
  have := (hr k e.symm).1
  omega
theorem J2_set {w0 W0 : World} {mb : Nat} (hw : w0.heap.size ≤ W0.heap.size) (hm : mb < W0.heap.size) {pre : List Itm} {X : World} (h : J2 w0 W0 mb pre X) (u : Value) : J2 w0 W0 mb pre (X.setCell ⟨W0.heap.size + 1, 0, none⟩ u) := by
  obtain ⟨h1, h2, h3, ⟨v, h5, ho⟩⟩ := h
  have oth : ∀ k, k < W0.heap.size → (X.setCell ⟨W0.heap.size + 1, 0, none⟩ u).heap[k]? = X.heap[k]? := fun k hk => Below.heap_setCell _ _ _ k (by simp; omega)
  exact ⟨h1.setCell (by show w0.heap.size ≤ W0.heap.size + 1; omega) u, by rw [World.size_setCell]; exact h2, fun k hk he => (oth k hk).trans (h3 k hk he), ⟨v, (oth _ hm).trans h5, own_set ho _ _ _ (by omega)⟩⟩
theorem J2_put {w0 W0 : World} {mb : Nat} (hm0 : w0.heap.size ≤ mb) (hm : mb < W0.heap.size) {pre : List Itm} {x : Itm} {X w3 : World} {v v3 : Value} {o o' : Obj} (h1 : Below w0.heap.size w0 X) (h2 : W0.heap.size + 3 ≤ X.heap.size) (h3 : ∀ k, k < W0.heap.size → k ≠ mb → X.heap[k]? = W0.heap[k]?)
    (h5 : X.heap[mb]? = some (.cells #[v] 22 (0, 0))) (ho : X.ownsRow (W0.heap.size + 3) 35 5 v pre.length (tokLs pre))
    (hown : w3.ownsRow (W0.heap.size + 3) 35 5 v3 (pre.length + 1) (tokLs pre ++ tokL x)) (hg : ((X.alloc o).alloc o').grownBy w3 v.ownBlock) :
    KeepsOthers X (w3.setCell ⟨mb, 0, none⟩ v3) ∧ (∀ k, W0.heap.size ≤ k → k < W0.heap.size + 3 → (w3.setCell ⟨mb, 0, none⟩ v3).heap[k]? = X.heap[k]?) ∧ J2 w0 W0 mb (pre ++ [x]) (w3.setCell ⟨mb, 0, none⟩ v3) ∧ w3.cell? ⟨mb, 0, none⟩ = some v ∧ w3.frozen? ⟨mb, 0, none⟩ = false ∧ (w3.setCell ⟨mb, 0, none⟩ v3).cell? ⟨mb, 0, none⟩ = some v3 := by
  have hob : ∀ j, v.ownBlock = some j → W0.heap.size + 3 ≤ j := fun j hj => (ho.lt j hj).1
  have blk : ∀ k, k < W0.heap.size + 3 → w3.heap[k]? = X.heap[k]? := fun k hk => by
    rw [hg.block k (by simp; omega) (fun e => by have := hob k e.symm; omega)]
    exact (Below.heap_alloc _ _ _ (by simp; omega)).trans (Below.heap_alloc _ _ _ (by omega))
  have hs3 : X.heap.size < w3.heap.size := by have := hg.size; simp at this; omega
  have ol : ∀ k, k ≠ mb → (w3.setCell ⟨mb, 0, none⟩ v3).heap[k]? = w3.heap[k]? := fun k hk => Below.heap_setCell _ _ _ k (by simpa using hk)
  have b5 := (blk mb (by omega)).trans h5
  refine ⟨?_, fun k hk hk3 => ?_, ⟨?_, ?_, fun k hk he => ?_, ⟨v3, ?_, ?_⟩⟩, cell_of_row _ _ 0 _ _ _ b5, Go.frozen_of_row _ _ 0 _ _ b5, World.cell?_setCell_same _ _ _ (cell_of_row _ _ 0 _ _ _ b5)⟩
  · exact (((KeepsOthers.alloc X o).trans (KeepsOthers.alloc _ o')).trans (KeepsOthers.of_grownBy hg (fun j o2 hj ho2 => own_cells ((ho.alloc o).alloc o') j o2 hj ho2))).trans (KeepsOthers.setCell _ _ _)
  · rw [ol k (by omega), blk k hk3]
  · exact (((h1.alloc h1.size o).alloc (by have := h1.size; simp; omega) o').grown hg (by have := h1.size; simp; omega) (fun j hj => by have := hob j hj; omega)).setCell hm0 v3
  · rw [World.size_setCell]; omega
  · rw [ol k he, blk k (by omega)]; exact h3 k hk he
  · have := Go.heap_setCell_same w3 mb 0 _ _ v3 b5
    simpa using this
  · rw [tokLs_snoc, List.length_append]
    exact own_set hown _ _ _ (by omega)

theorem ent2 (gs : Array Value) (W : World) : Sem.run Tryd.prog (callFunc 14 gs) W = .ok (.enter 14 gs) W := by simp [go_sem]

set_option maxRecDepth 8000 in
set_option maxHeartbeats 4000000 in
theorem gone2_any (w0 W0 : World) (mb : Nat) (hm0 : w0.heap.size ≤ mb) (hm : mb < W0.heap.size) (pre : List Itm) (hpl : pre.length < 3) (X : World) (x : Itm) (h : J2 w0 W0 mb pre X) (hX3 : W0.heap.size + 3 ≤ X.heap.size) :
    Calls Tryd.prog 14 #[.int .i64 (pre.length : Int), .agg #[.int .i64 (x.1.1 : Int), .int .i64 (x.2.1 : Int), .string ⟨x.1.2.1.toArray⟩, .int .i64 (x.1.2.2.1 : Int), .int .i64 (x.1.2.2.2 : Int)], .pointer (some ⟨mb, 0, none⟩)] X fun e X' => e = .returned (.bool true) ∧ KeepsOthers X X' ∧ (∀ k, W0.heap.size ≤ k → k < W0.heap.size + 3 → X'.heap[k]? = X.heap[k]?) ∧ J2 w0 W0 mb (pre ++ [x]) X' := by
  obtain ⟨i0, hi, hz0, hz1, hz2⟩ := info_parts infoT
  obtain ⟨h1, h2, h3, ⟨v, h5, ho⟩⟩ := h
  obtain ⟨lp, lm, lc, rfl⟩ := own_slice ho
  have cl : (X.alloc (.cells #[.int .i64 (x.1.1 : Int), .int .i64 (x.2.1 : Int), .string ⟨x.1.2.1.toArray⟩, .int .i64 (x.1.2.2.1 : Int), .int .i64 (x.1.2.2.2 : Int)] 35)).cell? ⟨mb, 0, none⟩ = some (.slice lp lm lc) := cell_of_row _ _ 0 _ _ _ ((Below.heap_alloc _ _ _ (by omega)).trans h5)
  have hfin := fun (v3 : Value) (w3 : World) (o o' : Obj) hown hg => J2_put (x := x) (v3 := v3) (w3 := w3) (o := o) (o' := o') hm0 hm h1 hX3 h3 h5 ho hown hg
  have hlt : (pre.length : Int) + 1 < 4 := by omega
  clear h1 h2 h3 h5
  go_enter Tryd.func14, Tryd.ntmps14
  go_wp2_with (first | (at_builtin; refine wpList_append_own _ rfl _ _ 22 rfl (W0.heap.size + 3) 35 i0 _ 5 48 Tryd.underlying22 hi hz0 hz1 hz2 rfl (by decide) _ pre.length (tokLs pre) rfl ((ho.alloc _).alloc _) ⟨X.heap.size + 1, 0, none⟩ 1 1 (tokL x) rfl rfl (new5' _ _ (by simp) x _) (tok_one x) (by unfold maxLen; omega) (by omega) (by simp; omega) ?_; intro v3 w3 hown3 hgrow3 _; obtain ⟨g3, cap3, rfl⟩ := own_lit hown3 (by omega); obtain ⟨f1, f2, f3, a1, a2, a3⟩ := hfin _ _ _ _ hown3 hgrow3; clear hfin hown3 hgrow3 ho))
  go_ret
  exact ⟨rfl, f1, f2, f3⟩

theorem takes2 (w0 W0 : World) (hw : w0.heap.size ≤ W0.heap.size) (hC : Cls w0) (hE : ErrR w0) (hM : Mon w0) (hS : Sgn w0) (mb : Nat) (hm0 : w0.heap.size ≤ mb) (hm : mb < W0.heap.size) (l : List UInt8) (hL : (foundL l).length ≤ 3) :
    TakesK 14 #[.pointer (some ⟨mb, 0, none⟩)] W0.heap.size (foundL l) (J2 w0 W0 mb) (fun _ _ => False) := by
  refine ⟨fun pre X h => ?_, ent2, fun pre X h => h.2.1, fun pre X Y h hs => J2_step hw h hs, fun pre X Y h hs => h, fun pre X v h => J2_set hw hm h v, fun pre X x h h3 hp hx hall => ?_⟩
  · have hb := h.1
    exact ⟨hC.later hb, hE.later hb, hM.later hb, hS.later hb⟩
  · have := hp.length_le
    rw [List.length_append, List.length_singleton] at this
    refine (gone2_any w0 W0 mb hm0 hm pre (by omega) X x h h3).mono ?_
    rintro e X' ⟨rfl, a, b, c⟩
    exact ⟨true, rfl, a, b, fun _ => c, fun e => (by cases e)⟩

def x2 : List Itm := [((1, [120], 0, 0), 0, 0), ((3, [], 2, 0), 2, 0), ((8, [], 0, 0), 3, 0)]
theorem word_x : wordS [120, 32, 50] 0 = .ok ((1, [120], 0, 0), 1) := by
  unfold wordS
  rw [if_pos (by decide)]
  rfl
theorem word_2 : wordS [120, 32, 50] 2 = .ok ((3, [], 2, 0), 3) := by
  unfold wordS
  rw [if_neg (by decide), if_pos (by decide)]
  unfold dateS
  rw [if_neg (by intro h; exact absurd h.1 (by decide))]
  rfl
theorem found_x2 : foundL [120, 32, 50] = x2 := by
  unfold foundL
  rw [if_neg (by decide)]
  show foundP _ 4 (nx [120, 32, 50] 0) false = _
  rw [show nx [120, 32, 50] 0 = 0 from by decide]
  unfold foundP
  rw [if_pos (by decide), word_x]
  show _ :: foundP _ 3 (nx [120, 32, 50] 1) true = _
  rw [show nx [120, 32, 50] 1 = 2 from by decide]
  unfold foundP
  rw [if_pos (by decide), word_2]
  show _ :: _ :: foundP _ 2 (nx [120, 32, 50] 3) true = _
  rw [show nx [120, 32, 50] 3 = 3 from by decide]
  unfold foundP
  rw [if_neg (by decide), if_pos rfl, if_pos (by decide)]
  rfl

end Go.Proofs.YtdlbfoiiaedicaaDoor.Q
