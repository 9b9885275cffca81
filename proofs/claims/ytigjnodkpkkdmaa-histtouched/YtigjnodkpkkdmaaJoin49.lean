import Derived.Test.YtigjnodkpkkdmaaJoin48
import Derived.Maps.AppendAt
namespace Go.Proofs.Ytigjnodkpkkdmaa
open Go.RowKit Go.Shelf

theorem infoU : (Try.prog.info? 41).map (fun i => (i.zero, i.size, i.bytes)) = some (some (.int .u32 0), 1, 4) := by kernel_rfl
def keysV (ks : List Nat) : List Value := ks.map fun (k : Nat) => Value.int .u32 (k : Int)
theorem keysV_snoc (ks : List Nat) (k : Nat) : keysV (ks ++ [k]) = keysV ks ++ [.int .u32 (k : Int)] := by simp [keysV]
/-- The four cells of keyList's closure, and the keys up to here. -/
def KAt (X : World) (n : Nat) (done : List Nat) : Prop := X.heap[n]? = some (.cells #[.int .i64 0] 3 (0, 0)) ∧ (∃ uv, X.heap[n + 1]? = some (.cells #[uv] 33 (0, 0)) ∧ X.ownsRow (n + 4) 41 1 uv done.length (keysV done)) ∧ X.heap[n + 2]? = some (.cells #[.bool false] 4 (0, 0)) ∧ X.heap[n + 3]? = some (.cells #[.bool true] 4 (0, 0))
def offK (n k : Nat) (X : World) : Prop := k ≠ n ∧ k ≠ n + 1 ∧ k ≠ n + 2 ∧ k ≠ n + 3 ∧ ∀ uv : Value, X.cell? ⟨n + 1, 0, none⟩ = some uv → uv.ownBlock ≠ some k
def klV (n : Nat) : Value := .func (.func 32) #[] #[.pointer (some ⟨n + 2, 0, none⟩), .pointer (some ⟨n + 3, 0, none⟩), .pointer (some ⟨n + 1, 0, none⟩), .pointer (some ⟨n, 0, none⟩)]

set_option maxRecDepth 4000 in
set_option maxHeartbeats 2000000 in
theorem keyList1_any (n : Nat) (done : List Nat) (hd : done.length < 3999) (k : Nat) (w : World) (h : KAt w n done) :
    Calls Try.prog 32 #[.int .u32 (k : Int), .pointer (some ⟨n + 2, 0, none⟩), .pointer (some ⟨n + 3, 0, none⟩), .pointer (some ⟨n + 1, 0, none⟩), .pointer (some ⟨n, 0, none⟩)] w fun e w' => e = .returned (.bool true) ∧ KAt w' n (done ++ [k]) ∧ Below n w w' ∧ KeepsOthers w w' ∧ (∀ j, offK n j w → j < w.heap.size → w'.heap[j]? = w.heap[j]? ∧ offK n j w') := by
  obtain ⟨h0, ⟨uv, h1, hown⟩, h2, h3⟩ := h
  obtain ⟨ea, el, ec, rfl⟩ := own_slice hown
  have l3 : n + 3 < w.heap.size := (Array.getElem?_eq_some_iff.1 h3).1
  have hb1 := (Below.refl w.heap.size w).alloc (Nat.le_refl _) (.cells #[.int .u32 (k : Int)] 41)
  have c00 : w.cell? ⟨n + 1, 0, none⟩ = some (.slice ea el ec) := cell_of_row _ _ 0 _ _ _ h1
  have c2 : w.cell? ⟨n + 2, 0, none⟩ = some (.bool false) := cell_of_row _ _ 0 _ _ _ h2
  have hownA := own_laterB hown hb1
  have r0 := (hb1.block n (by omega)).trans h0
  have r1 := (hb1.block (n + 1) (by omega)).trans h1
  have r2 := (hb1.block (n + 2) (by omega)).trans h2
  have r3 := (hb1.block (n + 3) (by omega)).trans h3
  have hlo : ∀ j, (Value.slice ea el ec).ownBlock = some j → n + 4 ≤ j := fun j e => (hown.lt j e).1
  obtain ⟨i0, hi, hz0, hz1, hz2⟩ := info_parts infoU
  have hnm : ((done.length : Int) + 1 == 0) = false := by rw [beq_eq_false_iff_ne]; omega
  have hn4 : ¬ (4000 : Int) ≤ (done.length : Int) + 1 := by omega
  have tok1 : True := trivial
  go_enter Try.func32, Try.ntmps32
  go_wp2_with (at_builtin; have _u := tok1; clear tok1; refine wpList_append_own_at (P := Try.prog) _ rfl _ _ 33 rfl (n + 4) 41 i0 _ 1 4 Try.underlying33 hi hz0 hz1 hz2 rfl (by decide) _ done.length (keysV done) rfl hownA ⟨w.heap.size, 0, none⟩ 1 1 [.int .u32 (k : Int)] rfl rfl (cell_one_new _ _ _) (fun u hu => by rw [List.mem_singleton.1 hu]; rfl) (by unfold maxLen; omega) (by omega) (by have := hb1.size; omega) ?_; intro v2 w2 hown2 hgrow2 _hnil hloc; obtain ⟨g2, cap2, rfl⟩ := own_some hown2 (by omega); have b0 := (hgrow2.block n (by have := hb1.size; omega) (fun e => by have := hlo _ e.symm; omega)).trans r0; have b1 := (hgrow2.block (n + 1) (by have := hb1.size; omega) (fun e => by have := hlo _ e.symm; omega)).trans r1; have b2 := (hgrow2.block (n + 2) (by have := hb1.size; omega) (fun e => by have := hlo _ e.symm; omega)).trans r2; have b3 := (hgrow2.block (n + 3) (by have := hb1.size; omega) (fun e => by have := hlo _ e.symm; omega)).trans r3; have f1 := frozen_of_row b1 0; have d1 : w2.cell? ⟨n + 1, 0, none⟩ = some (.slice ea el ec) := cell_of_row _ _ 0 _ _ _ b1; have e1 := heap_setCell_same w2 (n + 1) 0 _ _ (.slice (some ⟨g2, 0, none⟩) (done.length + 1) cap2) b1; have q1 := grown_set w2 (n + 1) 0 (.slice (some ⟨g2, 0, none⟩) (done.length + 1) cap2); obtain ⟨Y1, E1⟩ : ∃ Z, w2.setCell ⟨n + 1, 0, none⟩ (.slice (some ⟨g2, 0, none⟩) (done.length + 1) cap2) = Z := ⟨_, rfl⟩; rw [E1] at e1 q1; have s0 := (q1.block n (Array.getElem?_eq_some_iff.1 b0).1 (by simp)).trans b0; have s2 := (q1.block (n + 2) (Array.getElem?_eq_some_iff.1 b2).1 (by simp)).trans b2; have s3 := (q1.block (n + 3) (Array.getElem?_eq_some_iff.1 b3).1 (by simp)).trans b3; have y0 : Y1.cell? ⟨n, 0, none⟩ = some (.int .i64 0) := cell_of_row _ _ 0 _ _ _ s0; have y1 : Y1.cell? ⟨n + 1, 0, none⟩ = some (.slice (some ⟨g2, 0, none⟩) (done.length + 1) cap2) := cell_of_row _ _ 0 _ _ _ e1; have y2 : Y1.cell? ⟨n + 2, 0, none⟩ = some (.bool false) := cell_of_row _ _ 0 _ _ _ s2; have y2f := frozen_of_row s2 0; have e2 := heap_setCell_same Y1 (n + 2) 0 _ _ (.bool false) s2; have q2 := grown_set Y1 (n + 2) 0 (.bool false); obtain ⟨Y2, E2⟩ : ∃ Z, Y1.setCell ⟨n + 2, 0, none⟩ (.bool false) = Z := ⟨_, rfl⟩; rw [E2] at e2 q2; have x2 : Y2.cell? ⟨n + 2, 0, none⟩ = some (.bool false) := cell_of_row _ _ 0 _ _ _ e2)
  go_ret
  have hg2l := (hown2.lt g2 rfl).1
  have t0 := (q2.block n (Array.getElem?_eq_some_iff.1 s0).1 (by simp)).trans s0
  have t1 := (q2.block (n + 1) (Array.getElem?_eq_some_iff.1 e1).1 (by simp)).trans e1
  have t3 := (q2.block (n + 3) (Array.getElem?_eq_some_iff.1 s3).1 (by simp)).trans s3
  have hownY := (hown2.kept q1 (.inr (fun e => by have := Option.some.inj e; simp at this; omega))).kept q2 (.inr (fun e => by have := Option.some.inj e; simp at this; omega))
  have hB2 : Below n w w2 := (hb1.mono (show n ≤ w.heap.size by omega)).grown hgrow2 (by have := hb1.size; omega) (fun k hk => by have := hlo k hk; omega)
  have hB3 := hB2.grown q1 (Nat.le_trans (show n ≤ w.heap.size by omega) hB2.size) (fun k hk => by cases hk; omega)
  have hB4 := hB3.grown q2 (Nat.le_trans (show n ≤ w.heap.size by omega) hB3.size) (fun k hk => by cases hk; omega)
  have hK := (((KeepsOthers.alloc w (.cells #[.int .u32 (k : Int)] 41)).trans (KeepsOthers.of_grownBy hgrow2 (fun j o hj ho => own_cells hownA j o hj ho))).trans (KeepsOthers.of_grownBy q1 (fun j o hj ho => by cases hj; rw [b1] at ho; cases ho; rfl))).trans (KeepsOthers.of_grownBy q2 (fun j o hj ho => by cases hj; rw [s2] at ho; cases ho; rfl))
  refine ⟨rfl, ⟨t0, ⟨_, t1, by rw [List.length_append, keysV_snoc]; exact hownY⟩, e2, t3⟩, hB4, hK, ?_⟩
  rintro j ⟨j0, j1, j2, j3, j4⟩ hj
  have j5 := j4 _ c00
  have z1 := hb1.size
  have z2 := hgrow2.size
  have z3 := q1.size
  refine ⟨(q2.block j (by omega) (fun e => j2 (Option.some.inj e))).trans ((q1.block j (by omega) (fun e => j1 (Option.some.inj e))).trans ((hgrow2.block j (by omega) (fun e => j5 e.symm)).trans (hb1.block j hj))), j0, j1, j2, j3, fun uv huv => ?_⟩
  have hu2 : Y2.cell? ⟨n + 1, 0, none⟩ = some (.slice (some ⟨g2, 0, none⟩) (done.length + 1) cap2) := cell_of_row _ _ 0 _ _ _ t1
  rw [hu2] at huv
  rw [← Option.some.inj huv]
  intro e
  rcases hloc with hl | hl
  · exact j5 (hl ▸ e)
  · rw [hl] at e
    have := Option.some.inj e
    omega

end Go.Proofs.Ytigjnodkpkkdmaa


namespace Go.Proofs.Ytigjnodkpkkdmaa
open Go.RowKit Go.Shelf

set_option maxRecDepth 4000 in
set_option maxHeartbeats 2000000 in
theorem keyList1_full (n : Nat) (done : List Nat) (hd : 3999 ≤ done.length) (hd2 : done.length < 4000) (k : Nat) (w : World) (h : KAt w n done) :
    Calls Try.prog 32 #[.int .u32 (k : Int), .pointer (some ⟨n + 2, 0, none⟩), .pointer (some ⟨n + 3, 0, none⟩), .pointer (some ⟨n + 1, 0, none⟩), .pointer (some ⟨n, 0, none⟩)] w fun e w' => e = .returned (.bool false) ∧ (∃ uv, w'.heap[n + 1]? = some (.cells #[uv] 33 (0, 0))) ∧ Below n w w' ∧ KeepsOthers w w' ∧ (∀ j, offK n j w → j < w.heap.size → w'.heap[j]? = w.heap[j]? ∧ offK n j w') := by
  obtain ⟨h0, ⟨uv, h1, hown⟩, h2, h3⟩ := h
  obtain ⟨ea, el, ec, rfl⟩ := own_slice hown
  have l3 : n + 3 < w.heap.size := (Array.getElem?_eq_some_iff.1 h3).1
  have hb1 := (Below.refl w.heap.size w).alloc (Nat.le_refl _) (.cells #[.int .u32 (k : Int)] 41)
  have c00 : w.cell? ⟨n + 1, 0, none⟩ = some (.slice ea el ec) := cell_of_row _ _ 0 _ _ _ h1
  have c2 : w.cell? ⟨n + 2, 0, none⟩ = some (.bool false) := cell_of_row _ _ 0 _ _ _ h2
  have hownA := own_laterB hown hb1
  have r0 := (hb1.block n (by omega)).trans h0
  have r1 := (hb1.block (n + 1) (by omega)).trans h1
  have r2 := (hb1.block (n + 2) (by omega)).trans h2
  have r3 := (hb1.block (n + 3) (by omega)).trans h3
  have hlo : ∀ j, (Value.slice ea el ec).ownBlock = some j → n + 4 ≤ j := fun j e => (hown.lt j e).1
  obtain ⟨i0, hi, hz0, hz1, hz2⟩ := info_parts infoU
  have hnm : ((done.length : Int) + 1 == 0) = false := by rw [beq_eq_false_iff_ne]; omega
  have hn4 : (4000 : Int) ≤ (done.length : Int) + 1 := by omega
  have tok1 : True := trivial
  go_enter Try.func32, Try.ntmps32
  go_wp2_with (at_builtin; have _u := tok1; clear tok1; refine wpList_append_own_at (P := Try.prog) _ rfl _ _ 33 rfl (n + 4) 41 i0 _ 1 4 Try.underlying33 hi hz0 hz1 hz2 rfl (by decide) _ done.length (keysV done) rfl hownA ⟨w.heap.size, 0, none⟩ 1 1 [.int .u32 (k : Int)] rfl rfl (cell_one_new _ _ _) (fun u hu => by rw [List.mem_singleton.1 hu]; rfl) (by unfold maxLen; omega) (by omega) (by have := hb1.size; omega) ?_; intro v2 w2 hown2 hgrow2 _hnil hloc; obtain ⟨g2, cap2, rfl⟩ := own_some hown2 (by omega); have b0 := (hgrow2.block n (by have := hb1.size; omega) (fun e => by have := hlo _ e.symm; omega)).trans r0; have b1 := (hgrow2.block (n + 1) (by have := hb1.size; omega) (fun e => by have := hlo _ e.symm; omega)).trans r1; have b2 := (hgrow2.block (n + 2) (by have := hb1.size; omega) (fun e => by have := hlo _ e.symm; omega)).trans r2; have b3 := (hgrow2.block (n + 3) (by have := hb1.size; omega) (fun e => by have := hlo _ e.symm; omega)).trans r3; have f1 := frozen_of_row b1 0; have d1 : w2.cell? ⟨n + 1, 0, none⟩ = some (.slice ea el ec) := cell_of_row _ _ 0 _ _ _ b1; have e1 := heap_setCell_same w2 (n + 1) 0 _ _ (.slice (some ⟨g2, 0, none⟩) (done.length + 1) cap2) b1; have q1 := grown_set w2 (n + 1) 0 (.slice (some ⟨g2, 0, none⟩) (done.length + 1) cap2); obtain ⟨Y1, E1⟩ : ∃ Z, w2.setCell ⟨n + 1, 0, none⟩ (.slice (some ⟨g2, 0, none⟩) (done.length + 1) cap2) = Z := ⟨_, rfl⟩; rw [E1] at e1 q1; have s0 := (q1.block n (Array.getElem?_eq_some_iff.1 b0).1 (by simp)).trans b0; have s2 := (q1.block (n + 2) (Array.getElem?_eq_some_iff.1 b2).1 (by simp)).trans b2; have s3 := (q1.block (n + 3) (Array.getElem?_eq_some_iff.1 b3).1 (by simp)).trans b3; have y0 : Y1.cell? ⟨n, 0, none⟩ = some (.int .i64 0) := cell_of_row _ _ 0 _ _ _ s0; have y1 : Y1.cell? ⟨n + 1, 0, none⟩ = some (.slice (some ⟨g2, 0, none⟩) (done.length + 1) cap2) := cell_of_row _ _ 0 _ _ _ e1; have y2 : Y1.cell? ⟨n + 2, 0, none⟩ = some (.bool false) := cell_of_row _ _ 0 _ _ _ s2; have y2f := frozen_of_row s2 0; have e2 := heap_setCell_same Y1 (n + 2) 0 _ _ (.bool true) s2; have q2 := grown_set Y1 (n + 2) 0 (.bool true); obtain ⟨Y2, E2⟩ : ∃ Z, Y1.setCell ⟨n + 2, 0, none⟩ (.bool true) = Z := ⟨_, rfl⟩; rw [E2] at e2 q2; have x2 : Y2.cell? ⟨n + 2, 0, none⟩ = some (.bool true) := cell_of_row _ _ 0 _ _ _ e2)
  go_ret
  have hg2l := (hown2.lt g2 rfl).1
  have t0 := (q2.block n (Array.getElem?_eq_some_iff.1 s0).1 (by simp)).trans s0
  have t1 := (q2.block (n + 1) (Array.getElem?_eq_some_iff.1 e1).1 (by simp)).trans e1
  have t3 := (q2.block (n + 3) (Array.getElem?_eq_some_iff.1 s3).1 (by simp)).trans s3
  have hownY := (hown2.kept q1 (.inr (fun e => by have := Option.some.inj e; simp at this; omega))).kept q2 (.inr (fun e => by have := Option.some.inj e; simp at this; omega))
  have hB2 : Below n w w2 := (hb1.mono (show n ≤ w.heap.size by omega)).grown hgrow2 (by have := hb1.size; omega) (fun k hk => by have := hlo k hk; omega)
  have hB3 := hB2.grown q1 (Nat.le_trans (show n ≤ w.heap.size by omega) hB2.size) (fun k hk => by cases hk; omega)
  have hB4 := hB3.grown q2 (Nat.le_trans (show n ≤ w.heap.size by omega) hB3.size) (fun k hk => by cases hk; omega)
  have hK := (((KeepsOthers.alloc w (.cells #[.int .u32 (k : Int)] 41)).trans (KeepsOthers.of_grownBy hgrow2 (fun j o hj ho => own_cells hownA j o hj ho))).trans (KeepsOthers.of_grownBy q1 (fun j o hj ho => by cases hj; rw [b1] at ho; cases ho; rfl))).trans (KeepsOthers.of_grownBy q2 (fun j o hj ho => by cases hj; rw [s2] at ho; cases ho; rfl))
  refine ⟨rfl, ⟨_, t1⟩, hB4, hK, ?_⟩
  rintro j ⟨j0, j1, j2, j3, j4⟩ hj
  have j5 := j4 _ c00
  have z1 := hb1.size
  have z2 := hgrow2.size
  have z3 := q1.size
  refine ⟨(q2.block j (by omega) (fun e => j2 (Option.some.inj e))).trans ((q1.block j (by omega) (fun e => j1 (Option.some.inj e))).trans ((hgrow2.block j (by omega) (fun e => j5 e.symm)).trans (hb1.block j hj))), j0, j1, j2, j3, fun uv huv => ?_⟩
  have hu2 : Y2.cell? ⟨n + 1, 0, none⟩ = some (.slice (some ⟨g2, 0, none⟩) (done.length + 1) cap2) := cell_of_row _ _ 0 _ _ _ t1
  rw [hu2] at huv
  rw [← Option.some.inj huv]
  intro e
  rcases hloc with hl | hl
  · exact j5 (hl ▸ e)
  · rw [hl] at e
    have := Option.some.inj e
    omega

end Go.Proofs.Ytigjnodkpkkdmaa
