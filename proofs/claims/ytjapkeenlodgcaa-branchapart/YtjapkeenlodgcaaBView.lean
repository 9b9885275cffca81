import Derived.Test.YtjapkeenlodgcaaBClone
import Derived.Test.YtjapkeenlodgcaaBLaw
namespace Go.Proofs.Ytjapkeenlodgcaa
open Go.RowKit

set_option maxRecDepth 4000 in
set_option maxHeartbeats 1000000 in
theorem base_some (lo bb : Nat) (Bs : List Br) (cur : ByteArray) (b : Br) (hb : b ∈ Bs) (w : World) (h : BookAt w lo bb Bs cur) : Calls Try.prog 27 #[.pointer (some ⟨bb, 0, none⟩), .string b.nm] w fun e w' => ∃ m, e = .returned (.tuple #[.pointer (some ⟨m, 0, none⟩), .bool true]) ∧ MapE w' m b.bs ∧ w' = w := by
  obtain ⟨mb, D, c0, c1, -, h2, h3, -⟩ := h.cells
  obtain ⟨⟨g, x1, x2⟩, x3, x4⟩ := h.br hb
  have hr := look_yes h2 h3 hb x4
  have x0 := cell_of_row _ _ 1 _ _ _ x1
  simp at x0
  clear h h2 h3
  go_enter Try.func27, Try.ntmps27
  go_wp2
  go_ret2
  exact ⟨g, rfl, x2, rfl⟩

theorem EntsT.mv {lo : Nat} {W W' : World} {v : Value} {L : Es} (h : EntsT W v L) (hm : Mv lo W W') : EntsT W' v L := by
  have hs : W.heap.size ≤ W'.heap.size := by
    obtain ⟨r, -, -, h4⟩ := hm
    exact h4.size
  exact h.keep hs (fun g _ hg => (hm.row hg (by decide) (by decide)).trans hg.symm)

/-- Lists of entries, one behind the other, in a row of their own. -/
def StepsT (W : World) (v : Value) (S : List Es) : Prop := (S = [] → ∃ a cap, v = .slice a 0 cap) ∧ (S ≠ [] → ∃ g cap cs, v = .slice (some ⟨g, 0, none⟩) S.length cap ∧ W.heap[g]? = some (.cells cs 22 (0, 0)) ∧ ∀ i (h : i < S.length), ∃ u, W.cell? ⟨g, i, none⟩ = some u ∧ EntsT W u S[i])
theorem StepsT.keep {W W' : World} {v : Value} {S : List Es} (h : StepsT W v S) (hs : W.heap.size ≤ W'.heap.size) (hk : ∀ (g : Nat) (cs : Array Value) (t : TypeId), t = 57 ∨ t = 22 → W.heap[g]? = some (.cells cs t (0, 0)) → W'.heap[g]? = W.heap[g]?) : StepsT W' v S := by
  refine ⟨h.1, fun hS => ?_⟩
  obtain ⟨g, cap, cs, rfl, hh, hc⟩ := h.2 hS
  have he := hk g cs _ (.inr rfl) hh
  refine ⟨g, cap, cs, rfl, he.trans hh, fun i hi => ?_⟩
  obtain ⟨u, h1, h2⟩ := hc i hi
  exact ⟨u, (by simp only [World.cell?, he] : W'.cell? ⟨g, i, none⟩ = W.cell? ⟨g, i, none⟩).trans h1, h2.keep hs (fun g cs hg => hk g cs _ (.inl rfl) hg)⟩
theorem StepsT.later {W W' : World} {v : Value} {S : List Es} (h : StepsT W v S) (hb : Below W.heap.size W W') : StepsT W' v S := h.keep hb.size (fun g _ _ _ hg => hb.block g (Array.getElem?_eq_some_iff.1 hg).1)
theorem StepsT.mv {lo : Nat} {W W' : World} {v : Value} {S : List Es} (h : StepsT W v S) (hm : Mv lo W W') : StepsT W' v S := by
  have hs : W.heap.size ≤ W'.heap.size := by
    obtain ⟨r, -, -, h4⟩ := hm
    exact h4.size
  refine h.keep hs (fun g _ t ht hg => (hm.row hg ?_ ?_).trans hg.symm)
  · rcases ht with rfl | rfl <;> decide
  · rcases ht with rfl | rfl <;> decide
theorem StepsT.len {W : World} {v : Value} {S : List Es} (h : StepsT W v S) : ∃ a cap, v = .slice a S.length cap := by
  by_cases hS : S = []
  · obtain ⟨a, cap, e⟩ := h.1 hS
    exact ⟨a, cap, by rw [e, hS]; rfl⟩
  · obtain ⟨g, cap, cs, e, -⟩ := h.2 hS
    exact ⟨_, _, e⟩

/-- What a branch shows. -/
structure Vw where
  now : Es
  base : Es
  undo : Nat
  redo : Nat
  steps : List Es
def VwOk (V : Vw) : Prop := V.now.length ≤ 9223372036854775806 ∧ V.base.length ≤ 9223372036854775806 ∧ V.steps.length ≤ 1000 ∧ ∀ s ∈ V.steps, s.length ≤ 9223372036854775806
def VwAt (W : World) (va vb vs : Value) (V : Vw) : Prop := EntsT W va V.now ∧ EntsT W vb V.base ∧ StepsT W vs V.steps
def vwV (va vb vs : Value) (V : Vw) : Value := .agg #[.bool true, va, vb, .int .i64 (V.undo : Int), .int .i64 (V.redo : Int), vs]
theorem VwAt.later {W W' : World} {va vb vs : Value} {V : Vw} (h : VwAt W va vb vs V) (hb : Below W.heap.size W W') : VwAt W' va vb vs V := ⟨h.1.later hb, h.2.1.later hb, h.2.2.later hb⟩
theorem VwAt.mv {lo : Nat} {W W' : World} {va vb vs : Value} {V : Vw} (h : VwAt W va vb vs V) (hm : Mv lo W W') : VwAt W' va vb vs V := ⟨h.1.mv hm, h.2.1.mv hm, h.2.2.mv hm⟩

def viewRow (va vb vs : Value) (V : Vw) : Array Value := #[.bool true, va, vb, .int .i64 (V.undo : Int), .int .i64 (V.redo : Int), vs]
set_option maxRecDepth 8000 in
set_option maxHeartbeats 4000000 in
theorem sameView_any (va vb vs ua ub us : Value) (V : Vw) (hV : VwOk V) (w : World) (h : VwAt w va vb vs V) (k : VwAt w ua ub us V) : Calls Try.prog 12 #[vwV va vb vs V, vwV ua ub us V] w fun e w' => e = .returned (.bool true) ∧ Below w.heap.size w w' := by
  obtain ⟨a1, a2, e1⟩ := h.1.1.len
  obtain ⟨b1, b2, e2⟩ := h.2.1.1.len
  obtain ⟨s1, s2, e3⟩ := h.2.2.len
  obtain ⟨c1, c2, e4⟩ := k.1.1.len
  obtain ⟨d1, d2, e5⟩ := k.2.1.1.len
  obtain ⟨t1, t2, e6⟩ := k.2.2.len
  unfold vwV
  obtain ⟨hV1, hV2, hV3, hV4⟩ := hV
  have hN := fun W hW => same_ents va ua V.now hV1 W (h.later hW).1.1 (k.later hW).1.1
  have hBs := fun W hW => same_ents vb ub V.base hV2 W (h.later hW).2.1.1 (k.later hW).2.1.1
  have hSt : ∀ W, Below w.heap.size w W → StepsT W vs V.steps ∧ StepsT W us V.steps := fun W hW => ⟨(h.later hW).2.2, (k.later hW).2.2⟩
  rw [e1, e4] at hN
  rw [e2, e5] at hBs
  rw [e3, e6] at hSt
  rw [e1, e2, e3, e4, e5, e6]
  clear h k e1 e2 e3 e4 e5 e6
  obtain ⟨X, hX⟩ : ∃ X, w.alloc (.cells #[.bool true, .slice a1 V.now.length a2, .slice b1 V.base.length b2, .int .i64 (V.undo : Int), .int .i64 (V.redo : Int), .slice s1 V.steps.length s2] 30) = X := ⟨_, rfl⟩
  obtain ⟨Y, hY⟩ : ∃ Y, X.alloc (.cells #[.bool true, .slice c1 V.now.length c2, .slice d1 V.base.length d2, .int .i64 (V.undo : Int), .int .i64 (V.redo : Int), .slice t1 V.steps.length t2] 30) = Y := ⟨_, rfl⟩
  have hbX : Below w.heap.size w X := by rw [← hX]; exact (Below.refl _ _).alloc (Nat.le_refl _) _
  have hbXY : Below X.heap.size X Y := by rw [← hY]; exact (Below.refl _ _).alloc (Nat.le_refl _) _
  have hbY := below_step hbX hbXY
  have hXs : X.heap.size = w.heap.size + 1 := by rw [← hX]; simp
  have hr1 := heap_alloc_last w (.cells #[.bool true, .slice a1 V.now.length a2, .slice b1 V.base.length b2, .int .i64 (V.undo : Int), .int .i64 (V.redo : Int), .slice s1 V.steps.length s2] 30)
  rw [hX] at hr1
  have hr1Y := (hbXY.block w.heap.size (by omega)).trans hr1
  have hr2Y := heap_alloc_last X (.cells #[.bool true, .slice c1 V.now.length c2, .slice d1 V.base.length d2, .int .i64 (V.undo : Int), .int .i64 (V.redo : Int), .slice t1 V.steps.length t2] 30)
  rw [hY, hXs] at hr2Y
  have hS1 : w.heap.size < Y.heap.size := (Array.getElem?_eq_some_iff.1 hr1Y).1
  have hS2 : w.heap.size + 1 < Y.heap.size := (Array.getElem?_eq_some_iff.1 hr2Y).1
  have p0 := cell_of_row _ _ 0 _ _ _ hr1Y
  have p1 := cell_of_row _ _ 1 _ _ _ hr1Y
  have p2 := cell_of_row _ _ 2 _ _ _ hr1Y
  have p3 := cell_of_row _ _ 3 _ _ _ hr1Y
  have p4 := cell_of_row _ _ 4 _ _ _ hr1Y
  have p5 := cell_of_row _ _ 5 _ _ _ hr1Y
  have q0 := cell_of_row _ _ 0 _ _ _ hr2Y
  have q1 := cell_of_row _ _ 1 _ _ _ hr2Y
  have q2 := cell_of_row _ _ 2 _ _ _ hr2Y
  have q3 := cell_of_row _ _ 3 _ _ _ hr2Y
  have q4 := cell_of_row _ _ 4 _ _ _ hr2Y
  have q5 := cell_of_row _ _ 5 _ _ _ hr2Y
  simp at p0 p1 p2 p3 p4 p5 q0 q1 q2 q3 q4 q5
  go_enter Try.func12, Try.ntmps12
  go_wp2_with (go_at_call 18; fail)
  refine (hN Y hbY).mono ?_
  rintro e w5 ⟨rfl, hb5⟩
  have p2' := (hb5.cell (p := ⟨w.heap.size, 2, none⟩) hS1).trans p2
  have q2' := (hb5.cell (p := ⟨w.heap.size + 1, 2, none⟩) hS2).trans q2
  have hB5 := below_step hbY hb5
  go_wp2_with (go_at_call 18; fail)
  refine (hBs w5 hB5).mono ?_
  rintro e w6 ⟨rfl, hb6⟩
  have hY6 := below_step hb5 hb6
  clear p0 p1 p2 p3 p4 q0 q1 q2 q3 q4 p2' q2' hN hBs hX hY hr1 hr1Y hr2Y
  go_wp2
  go_loopw [5] (fun i wr => ∃ j : Nat, j ≤ V.steps.length ∧ i = .int .i64 j ∧ Below Y.heap.size Y wr) (fun i _ => V.steps.length - (intOf i).toNat)
  case atStart => exact ⟨0, by omega, rfl, hY6⟩
  case round =>
    obtain ⟨j, hj, rfl, hB⟩ := hrel
    have p5' := (hB.cell (p := ⟨w.heap.size, 5, none⟩) hS1).trans p5
    have q5' := (hB.cell (p := ⟨w.heap.size + 1, 5, none⟩) hS2).trans q5
    have hBw := below_step hbY hB
    by_cases hlt : j < V.steps.length
    · have hlt' : (j : Int) < V.steps.length := by omega
      have hj0 : (0 : Int) ≤ (j : Int) := by omega
      have hne : V.steps ≠ [] := fun e => by rw [e] at hlt; simp at hlt
      obtain ⟨⟨-, hs1⟩, ⟨-, hs2⟩⟩ := hSt wr hBw
      obtain ⟨g1, cp1, cs1, f1, hh1, hc1⟩ := hs1 hne
      obtain ⟨g2, cp2, cs2, f2, hh2, hc2⟩ := hs2 hne
      simp at f1 f2
      obtain ⟨rfl, rfl⟩ := f1
      obtain ⟨rfl, rfl⟩ := f2
      obtain ⟨u1, y1, z1⟩ := hc1 j hlt
      obtain ⟨u2, y2, z2⟩ := hc2 j hlt
      have hg1 : g1 < wr.heap.size := (Array.getElem?_eq_some_iff.1 hh1).1
      have hg2 : g2 < wr.heap.size := (Array.getElem?_eq_some_iff.1 hh2).1
      have hlen := hV4 _ (List.getElem_mem hlt)
      generalize V.steps[j] = L at *
      obtain ⟨m1, n1, rfl⟩ := z1.1.len
      obtain ⟨m2, n2, rfl⟩ := z2.1.len
      have B0 : Below wr.heap.size wr wr.drew := (Below.refl _ _).drew
      have hSS : ∀ Z, Below wr.heap.size wr Z → Z.cell? ⟨w.heap.size, 5, none⟩ = some (.slice (some ⟨g1, 0, none⟩) V.steps.length s2) ∧ Z.cell? ⟨w.heap.size + 1, 5, none⟩ = some (.slice (some ⟨g2, 0, none⟩) V.steps.length t2) ∧ Z.cell? ⟨g1, j, none⟩ = some (.slice m1 L.length n1) ∧ Z.cell? ⟨g2, j, none⟩ = some (.slice m2 L.length n2) := fun Z hZ => ⟨(hZ.cell (p := ⟨w.heap.size, 5, none⟩) (Nat.lt_of_lt_of_le hS1 hB.size)).trans p5', (hZ.cell (p := ⟨w.heap.size + 1, 5, none⟩) (Nat.lt_of_lt_of_le hS2 hB.size)).trans q5', (hZ.cell (p := ⟨g1, j, none⟩) hg1).trans y1, (hZ.cell (p := ⟨g2, j, none⟩) hg2).trans y2⟩
      have hS1' := hSS _ B0
      have hse := same_ents _ _ L hlen wr.drew (z1.later B0).1 (z2.later B0).1
      clear hc1 hc2 hs1 hs2 hSt y1 y2 z1 z2 hV4
      go_wp2
      go_region_held3 (fun Z => Z.cell? ⟨w.heap.size, 5, none⟩ = some (.slice (some ⟨g1, 0, none⟩) V.steps.length s2) ∧ Z.cell? ⟨w.heap.size + 1, 5, none⟩ = some (.slice (some ⟨g2, 0, none⟩) V.steps.length t2) ∧ Z.cell? ⟨g1, j, none⟩ = some (.slice m1 L.length n1) ∧ Z.cell? ⟨g2, j, none⟩ = some (.slice m2 L.length n2)) (with_reducible assumption)
        (first | (go_at_call 18; refine hse.mono ?_; rintro e u5 ⟨rfl, hc5⟩; have hS5 := hSS _ (below_step B0 hc5)))
      have hB5' := below_step (below_step hB B0) hc5
      go_wp2
      go_roundw
      case rel => exact ⟨j + 1, by omega, by go_num, hB5'⟩
      case measure => simp [intOf]; omega
    · have hlt' : ¬ (j : Int) < V.steps.length := by omega
      go_wp2
      go_ret
      exact ⟨rfl, hBw⟩

end Go.Proofs.Ytjapkeenlodgcaa
