import Derived.Test.YtdlbfoiiaedicaaDoorTurnWTk1
namespace Go.Proofs.YtdlbfoiiaedicaaDoor.Q
open Go.RowKit Go.Shelf
attribute [local go_sem] Oper.semAt_some

/-- Where the collector of the statement keeps what is its own. -/
structure At1 (w0 W0 : World) (eb lb kb sb : Nat) : Prop where
  e0 : w0.heap.size ≤ eb
  l0 : w0.heap.size ≤ lb
  el : eb ≠ lb
  ek : eb ≠ kb
  es : eb ≠ sb
  lk : lb ≠ kb
  ls : lb ≠ sb
  e1 : eb < W0.heap.size
  l1 : lb < W0.heap.size
  k1 : kb < W0.heap.size
  s1 : sb < W0.heap.size
def j1 (w0 W0 : World) (eb lb kb sb stop : Nat) (b : Bool) (pre : List Itm) (X : World) : Prop :=
  Below w0.heap.size w0 X ∧ W0.heap.size ≤ X.heap.size ∧ (∀ k, k < W0.heap.size → k ≠ eb → k ≠ lb → X.heap[k]? = W0.heap[k]?) ∧ X.heap[eb]? = some (.cells #[.bool b] 4 (0, 0)) ∧
  (∃ v, X.heap[lb]? = some (.cells #[v] 22 (0, 0)) ∧ X.ownsRow (W0.heap.size + 3) 35 5 v pre.length (tokLs pre)) ∧
  X.heap[kb]? = some (.cells #[.bool true] 4 (0, 0)) ∧ X.heap[sb]? = some (.cells #[.int .i64 (stop : Int)] 3 (0, 0))
def J1 (w0 W0 : World) (eb lb kb sb stop : Nat) (pre : List Itm) (X : World) : Prop := j1 w0 W0 eb lb kb sb stop false pre X ∧ (stop = 0 ∨ pre.length < stop)
def X1 (w0 W0 : World) (eb lb kb sb stop : Nat) (pre : List Itm) (X : World) : Prop := j1 w0 W0 eb lb kb sb stop true pre X ∧ 0 < stop ∧ pre.length = stop
theorem j1_step {w0 W0 : World} {eb lb kb sb stop : Nat} (hw : w0.heap.size ≤ W0.heap.size) {b : Bool} {pre : List Itm} {X Y : World} (h : j1 w0 W0 eb lb kb sb stop b pre X) (hs : StepB W0.heap.size X Y) : j1 w0 W0 eb lb kb sb stop b pre Y := by
  obtain ⟨h1, h2, h3, h4, ⟨v, h5, ho⟩, h6, h7⟩ := h
  refine ⟨(hs.mono hw).below h1 h1.size, Nat.le_trans h2 (size_stepB hs), fun k hk he hl => ?_, block_stepB h4 hs, ⟨v, block_stepB h5 hs, own_stepB ho hs⟩, block_stepB h6 hs, block_stepB h7 hs⟩
  rw [← h3 k hk he hl]
  obtain ⟨row, hg, hr⟩ := hs
  refine hg.block k (by omega) (fun e => ?_)
  have := (hr k e.symm).1
  omega
theorem j1_set {w0 W0 : World} {eb lb kb sb stop : Nat} (hw : w0.heap.size ≤ W0.heap.size) (hA : At1 w0 W0 eb lb kb sb) {b : Bool} {pre : List Itm} {X : World} (h : j1 w0 W0 eb lb kb sb stop b pre X) (u : Value) : j1 w0 W0 eb lb kb sb stop b pre (X.setCell ⟨W0.heap.size + 1, 0, none⟩ u) := by
  obtain ⟨h1, h2, h3, h4, ⟨v, h5, ho⟩, h6, h7⟩ := h
  have oth : ∀ k, k < W0.heap.size → (X.setCell ⟨W0.heap.size + 1, 0, none⟩ u).heap[k]? = X.heap[k]? := fun k hk => Below.heap_setCell _ _ _ k (by simp; omega)
  exact ⟨h1.setCell (by show w0.heap.size ≤ W0.heap.size + 1; omega) u, by rw [World.size_setCell]; exact h2, fun k hk he hl => (oth k hk).trans (h3 k hk he hl), (oth _ hA.e1).trans h4, ⟨v, (oth _ hA.l1).trans h5, own_set ho _ _ _ (by omega)⟩, (oth _ hA.k1).trans h6, (oth _ hA.s1).trans h7⟩

/-- What the collector leaves: the word is kept, and whether it ended is said. -/
theorem j1_put {w0 W0 : World} {eb lb kb sb stop : Nat} (hw : w0.heap.size ≤ W0.heap.size) (hA : At1 w0 W0 eb lb kb sb) {b : Bool} {pre : List Itm} {x : Itm} {X w3 : World} {v v3 : Value} {o o' : Obj} {b' : Bool} (h1 : Below w0.heap.size w0 X) (h2 : W0.heap.size + 3 ≤ X.heap.size) (h3 : ∀ k, k < W0.heap.size → k ≠ eb → k ≠ lb → X.heap[k]? = W0.heap[k]?) (h4 : X.heap[eb]? = some (.cells #[.bool b] 4 (0, 0)))
    (h5 : X.heap[lb]? = some (.cells #[v] 22 (0, 0))) (ho : X.ownsRow (W0.heap.size + 3) 35 5 v pre.length (tokLs pre)) (h6 : X.heap[kb]? = some (.cells #[.bool true] 4 (0, 0))) (h7 : X.heap[sb]? = some (.cells #[.int .i64 (stop : Int)] 3 (0, 0)))
    (hown : w3.ownsRow (W0.heap.size + 3) 35 5 v3 (pre.length + 1) (tokLs pre ++ tokL x)) (hg : ((X.alloc o).alloc o').grownBy w3 v.ownBlock) :
    KeepsOthers X ((w3.setCell ⟨lb, 0, none⟩ v3).setCell ⟨eb, 0, none⟩ (.bool b')) ∧ (∀ k, W0.heap.size ≤ k → k < W0.heap.size + 3 → ((w3.setCell ⟨lb, 0, none⟩ v3).setCell ⟨eb, 0, none⟩ (.bool b')).heap[k]? = X.heap[k]?) ∧ j1 w0 W0 eb lb kb sb stop b' (pre ++ [x]) ((w3.setCell ⟨lb, 0, none⟩ v3).setCell ⟨eb, 0, none⟩ (.bool b')) := by
  have hob : ∀ j, v.ownBlock = some j → W0.heap.size + 3 ≤ j := fun j hj => (ho.lt j hj).1
  have blk : ∀ k, k < W0.heap.size + 3 → w3.heap[k]? = X.heap[k]? := fun k hk => by
    rw [hg.block k (by simp; omega) (fun e => by have := hob k e.symm; omega)]
    exact (Below.heap_alloc _ _ _ (by simp; omega)).trans (Below.heap_alloc _ _ _ (by omega))
  have hs3 : X.heap.size < w3.heap.size := by have := hg.size; simp at this; omega
  have ol : ∀ k, k ≠ lb → (w3.setCell ⟨lb, 0, none⟩ v3).heap[k]? = w3.heap[k]? := fun k hk => Below.heap_setCell _ _ _ k (by simpa using hk)
  have oe : ∀ k, k ≠ eb → ((w3.setCell ⟨lb, 0, none⟩ v3).setCell ⟨eb, 0, none⟩ (.bool b')).heap[k]? = (w3.setCell ⟨lb, 0, none⟩ v3).heap[k]? := fun k hk => Below.heap_setCell _ _ _ k (by simpa using hk)
  have hE1 := hA.e1
  have hL1 := hA.l1
  have hK1 := hA.k1
  have hS1 := hA.s1
  refine ⟨?_, fun k hk hk3 => ?_, ?_, ?_, fun k hk he hl => ?_, ?_, ⟨v3, ?_, ?_⟩, ?_, ?_⟩
  · exact (((KeepsOthers.alloc X o).trans (KeepsOthers.alloc _ o')).trans (KeepsOthers.of_grownBy hg (fun j o2 hj ho2 => own_cells ((ho.alloc o).alloc o') j o2 hj ho2))).trans ((KeepsOthers.setCell _ _ _).trans (KeepsOthers.setCell _ _ _))
  · rw [oe k (by omega), ol k (by omega), blk k hk3]
  · exact ((((h1.alloc h1.size o).alloc (by have := h1.size; simp; omega) o').grown hg (by have := h1.size; simp; omega) (fun j hj => by have := hob j hj; omega)).setCell hA.l0 v3).setCell hA.e0 _
  · rw [World.size_setCell, World.size_setCell]; omega
  · rw [oe k he, ol k hl, blk k (by omega)]; exact h3 k hk he hl
  · have := Go.heap_setCell_same (w3.setCell ⟨lb, 0, none⟩ v3) eb 0 _ _ (.bool b') (((ol _ hA.el).trans (blk _ (by omega))).trans h4)
    simpa using this
  · rw [oe _ hA.el.symm]
    have := Go.heap_setCell_same w3 lb 0 _ _ v3 ((blk _ (by omega)).trans h5)
    simpa using this
  · rw [tokLs_snoc, List.length_append]
    exact own_set (own_set hown _ _ _ (by omega)) _ _ _ (by omega)
  · rw [oe _ hA.ek.symm, ol _ hA.lk.symm, blk _ (by omega)]; exact h6
  · rw [oe _ hA.es.symm, ol _ hA.ls.symm, blk _ (by omega)]; exact h7

theorem ent1 (gs : Array Value) (W : World) : Sem.run Tryd.prog (callFunc 13 gs) W = .ok (.enter 13 gs) W := by simp [go_sem]

set_option maxRecDepth 8000 in
set_option maxHeartbeats 4000000 in
theorem gone1_any (w0 W0 : World) (hw : w0.heap.size ≤ W0.heap.size) (eb lb kb sb stop : Nat) (hA : At1 w0 W0 eb lb kb sb) (hst : stop ≤ 16002) (pre : List Itm) (hpl : pre.length ≤ 16001) (X : World) (x : Itm) (h : J1 w0 W0 eb lb kb sb stop pre X) (hX3 : W0.heap.size + 3 ≤ X.heap.size) :
    Calls Tryd.prog 13 #[.int .i64 (pre.length : Int), .agg #[.int .i64 (x.1.1 : Int), .int .i64 (x.2.1 : Int), .string ⟨x.1.2.1.toArray⟩, .int .i64 (x.1.2.2.1 : Int), .int .i64 (x.1.2.2.2 : Int)], .pointer (some ⟨eb, 0, none⟩), .pointer (some ⟨lb, 0, none⟩), .pointer (some ⟨kb, 0, none⟩), .pointer (some ⟨sb, 0, none⟩)] X fun e X' => ∃ o : Bool, e = .returned (.bool o) ∧ KeepsOthers X X' ∧ (∀ k, W0.heap.size ≤ k → k < W0.heap.size + 3 → X'.heap[k]? = X.heap[k]?) ∧ (o = true → J1 w0 W0 eb lb kb sb stop (pre ++ [x]) X') ∧ (o = false → X1 w0 W0 eb lb kb sb stop (pre ++ [x]) X') := by
  obtain ⟨i0, hi, hz0, hz1, hz2⟩ := info_parts infoT
  obtain ⟨⟨h1, h2, h3, h4, ⟨v, h5, ho⟩, h6, h7⟩, hns⟩ := h
  obtain ⟨lp, lm, lc, rfl⟩ := own_slice ho
  obtain rfl : lm = pre.length := by
    obtain ⟨-, ⟨e, h0⟩ | ⟨g, cap, cur, e, -⟩⟩ := ho
    · injection e with e1 e2 e3; omega
    · injection e with e1 e2 e3
  have hE1 := hA.e1
  have hL1 := hA.l1
  have hK1 := hA.k1
  have hS1 := hA.s1
  have old : ∀ k, k < W0.heap.size → (X.alloc (.cells #[.int .i64 (x.1.1 : Int), .int .i64 (x.2.1 : Int), .string ⟨x.1.2.1.toArray⟩, .int .i64 (x.1.2.2.1 : Int), .int .i64 (x.1.2.2.2 : Int)] 35)).heap[k]? = X.heap[k]? := fun k hk => Below.heap_alloc _ _ _ (by omega)
  have ce := cell_of_row _ _ 0 _ _ _ ((old eb hE1).trans h4)
  have cl := cell_of_row _ _ 0 _ _ _ ((old lb hL1).trans h5)
  have hfin := fun (v3 : Value) (w3 : World) (b' : Bool) (o o' : Obj) hown hg => j1_put (x := x) (b' := b') (v3 := v3) (w3 := w3) (o := o) (o' := o') hw hA h1 hX3 h3 h4 h5 ho h6 h7 hown hg
  have aft : ∀ (v3 : Value) (w3 : World) (o o' : Obj), ((X.alloc o).alloc o').grownBy w3 (Value.slice lp pre.length lc).ownBlock → w3.cell? ⟨lb, 0, none⟩ = some (.slice lp pre.length lc) ∧ w3.frozen? ⟨lb, 0, none⟩ = false ∧ (w3.setCell ⟨lb, 0, none⟩ v3).cell? ⟨lb, 0, none⟩ = some v3 ∧ (w3.setCell ⟨lb, 0, none⟩ v3).cell? ⟨sb, 0, none⟩ = some (.int .i64 (stop : Int)) ∧ (w3.setCell ⟨lb, 0, none⟩ v3).cell? ⟨eb, 0, none⟩ = some (.bool false) ∧ (w3.setCell ⟨lb, 0, none⟩ v3).frozen? ⟨eb, 0, none⟩ = false ∧ (∀ b' : Bool, ((w3.setCell ⟨lb, 0, none⟩ v3).setCell ⟨eb, 0, none⟩ (.bool b')).cell? ⟨eb, 0, none⟩ = some (.bool b')) := fun v3 w3 o o' hg => by
    have blk : ∀ k, k < W0.heap.size → w3.heap[k]? = X.heap[k]? := fun k hk => by
      rw [hg.block k (by simp; omega) (fun e => by have := (ho.lt k e.symm).1; omega)]
      exact (Below.heap_alloc _ _ _ (by simp; omega)).trans (Below.heap_alloc _ _ _ (by omega))
    have ol : ∀ k, k ≠ lb → (w3.setCell ⟨lb, 0, none⟩ v3).heap[k]? = w3.heap[k]? := fun k hk => Below.heap_setCell _ _ _ k (by simpa using hk)
    have b5 := (blk lb hL1).trans h5
    have be := ((ol eb hA.el).trans (blk eb hE1)).trans h4
    have bs := ((ol sb hA.ls.symm).trans (blk sb hS1)).trans h7
    exact ⟨cell_of_row _ _ 0 _ _ _ b5, Go.frozen_of_row _ _ 0 _ _ b5, World.cell?_setCell_same _ _ _ (cell_of_row _ _ 0 _ _ _ b5), cell_of_row _ _ 0 _ _ _ bs, cell_of_row _ _ 0 _ _ _ be, Go.frozen_of_row _ _ 0 _ _ be, fun b' => World.cell?_setCell_same _ _ _ (cell_of_row _ _ 0 _ _ _ be)⟩
  have hgt : ¬ (65536 : Int) < (pre.length : Int) + 1 := by omega
  by_cases hend : pre.length + 1 = stop
  · have heq : ((pre.length : Int) + 1 == (stop : Int)) = true := by simp; omega
    have hend' : Hid (pre.length + 1 = stop) := hend
    clear hend hns
    clear h1 h2 h3 h4 h5 h6 h7 old
    go_enter Tryd.func13, Tryd.ntmps13
    go_wp2_with (first | (at_builtin; refine wpList_append_own _ rfl _ _ 22 rfl (W0.heap.size + 3) 35 i0 _ 5 48 Tryd.underlying22 hi hz0 hz1 hz2 rfl (by decide) _ pre.length (tokLs pre) rfl ((ho.alloc _).alloc _) ⟨X.heap.size + 1, 0, none⟩ 1 1 (tokL x) rfl rfl (new5' _ _ (by simp) x _) (tok_one x) (by unfold maxLen; omega) (by omega) (by simp; omega) ?_; intro v3 w3 hown3 hgrow3 _; obtain ⟨g3, cap3, rfl⟩ := own_lit hown3 (by omega); obtain ⟨a1, a2, a3, a4, a5, a6, a7⟩ := aft (.slice (some ⟨g3, 0, none⟩) (pre.length + 1) cap3) w3 _ _ hgrow3; have a7t := a7 true; have hf3 := hfin _ _ true _ _ hown3 hgrow3; clear a7 aft hfin hown3 hgrow3 ho))
    go_ret
    exact .inl ⟨rfl, hf3.1, hf3.2.1, hf3.2.2, by have := hend'.out; omega, by have := hend'.out; simp; omega⟩
  · have heq : ((pre.length : Int) + 1 == (stop : Int)) = false := by simp; omega
    have hns2 : Hid (stop = 0 ∨ pre.length + 1 < stop) := by unfold Hid; omega
    clear hend
    clear h1 h2 h3 h4 h5 h6 h7 old hns
    go_enter Tryd.func13, Tryd.ntmps13
    go_wp2_with (first | (at_builtin; refine wpList_append_own _ rfl _ _ 22 rfl (W0.heap.size + 3) 35 i0 _ 5 48 Tryd.underlying22 hi hz0 hz1 hz2 rfl (by decide) _ pre.length (tokLs pre) rfl ((ho.alloc _).alloc _) ⟨X.heap.size + 1, 0, none⟩ 1 1 (tokL x) rfl rfl (new5' _ _ (by simp) x _) (tok_one x) (by unfold maxLen; omega) (by omega) (by simp; omega) ?_; intro v3 w3 hown3 hgrow3 _; obtain ⟨g3, cap3, rfl⟩ := own_lit hown3 (by omega); obtain ⟨a1, a2, a3, a4, a5, a6, a7⟩ := aft (.slice (some ⟨g3, 0, none⟩) (pre.length + 1) cap3) w3 _ _ hgrow3; have a7t := a7 false; have hf3 := hfin _ _ false _ _ hown3 hgrow3; clear a7 aft hfin hown3 hgrow3 ho))
    go_ret
    exact .inr ⟨rfl, hf3.1, hf3.2.1, hf3.2.2, by have := hns2.out; simp; omega⟩

theorem takes1 (w0 W0 : World) (hw : w0.heap.size ≤ W0.heap.size) (hC : Cls w0) (hE : ErrR w0) (hM : Mon w0) (hS : Sgn w0) (eb lb kb sb stop : Nat) (hA : At1 w0 W0 eb lb kb sb) (hst : stop ≤ 16002) (l : List UInt8) :
    TakesK 13 #[.pointer (some ⟨eb, 0, none⟩), .pointer (some ⟨lb, 0, none⟩), .pointer (some ⟨kb, 0, none⟩), .pointer (some ⟨sb, 0, none⟩)] W0.heap.size (foundL l) (J1 w0 W0 eb lb kb sb stop) (X1 w0 W0 eb lb kb sb stop) := by
  refine ⟨fun pre X h => ?_, ent1, fun pre X h => h.1.2.1, fun pre X Y h hs => ⟨j1_step hw h.1 hs, h.2⟩, fun pre X Y h hs => ⟨j1_step hw h.1 hs, h.2⟩, fun pre X v h => ⟨j1_set hw hA h.1 v, h.2⟩, fun pre X x h h3 hp hx hall => ?_⟩
  · have hb := h.1.1
    exact ⟨hC.later hb, hE.later hb, hM.later hb, hS.later hb⟩
  · have hl := foundL_len l
    have := hp.length_le
    rw [List.length_append, List.length_singleton] at this
    exact gone1_any w0 W0 hw eb lb kb sb stop hA hst pre (by omega) X x h h3

end Go.Proofs.YtdlbfoiiaedicaaDoor.Q
