import Derived.Test.YtblfdjdhikfjhaaGreatJoin29
import Derived.Test.YtblfdjdhikfjhaaGreatJoin34
import Derived.Test.YtblfdjdhikfjhaaGreatJoin18
namespace Go.Proofs.YtblfdjdhikfjhaaGreat.BZ
open Go.RowKit

set_option maxRecDepth 8000 in
set_option maxHeartbeats 4000000 in
theorem same_view_x (va vb vs ua ub us : Value) (V U : Vw) (hV : VwOk V) (hU : VwOk U) (w : World) (h : VwAt w va vb vs V) (k : VwAt w ua ub us U) : Calls Tryz.prog 27 #[vwV va vb vs V, vwV ua ub us U] w fun e w' => IffB e (V = U) ∧ Below w.heap.size w w' := by
  obtain ⟨a1, a2, e1⟩ := h.1.1.len
  obtain ⟨b1, b2, e2⟩ := h.2.1.1.len
  obtain ⟨s1, s2, e3⟩ := h.2.2.len
  obtain ⟨c1, c2, e4⟩ := k.1.1.len
  obtain ⟨d1, d2, e5⟩ := k.2.1.1.len
  obtain ⟨t1, t2, e6⟩ := k.2.2.len
  unfold vwV
  obtain ⟨hV1, hV2, hV3, hV4⟩ := hV
  obtain ⟨hU1, hU2, hU3, hU4⟩ := hU
  have hN := fun W hW => same_ents_x va ua V.now U.now hV1 hU1 W (h.later hW).1.1 (k.later hW).1.1
  have hBs := fun W hW => same_ents_x vb ub V.base U.base hV2 hU2 W (h.later hW).2.1.1 (k.later hW).2.1.1
  have hSt : ∀ W, Below w.heap.size w W → StepsT W vs V.steps ∧ StepsT W us U.steps := fun W hW => ⟨(h.later hW).2.2, (k.later hW).2.2⟩
  rw [e1, e4] at hN
  rw [e2, e5] at hBs
  rw [e3, e6] at hSt
  rw [e1, e2, e3, e4, e5, e6]
  clear h k e1 e2 e3 e4 e5 e6
  obtain ⟨vu, hvu⟩ : ∃ n, Hid (V.undo = n) := ⟨_, rfl⟩
  obtain ⟨vr, hvr⟩ : ∃ n, Hid (V.redo = n) := ⟨_, rfl⟩
  obtain ⟨vl, hvl⟩ : ∃ n, Hid (V.steps.length = n) := ⟨_, rfl⟩
  obtain ⟨uu, huu⟩ : ∃ n, Hid (U.undo = n) := ⟨_, rfl⟩
  obtain ⟨ur, hur⟩ : ∃ n, Hid (U.redo = n) := ⟨_, rfl⟩
  obtain ⟨ul, hul⟩ : ∃ n, Hid (U.steps.length = n) := ⟨_, rfl⟩
  rw [hvl.out, hul.out] at hSt
  rw [hvu.out, hvr.out, hvl.out, huu.out, hur.out, hul.out]
  obtain ⟨X, hX⟩ : ∃ X, w.alloc (.cells #[.bool true, .slice a1 V.now.length a2, .slice b1 V.base.length b2, .int .i64 (vu : Int), .int .i64 (vr : Int), .slice s1 vl s2] 66) = X := ⟨_, rfl⟩
  obtain ⟨Y, hY⟩ : ∃ Y, X.alloc (.cells #[.bool true, .slice c1 U.now.length c2, .slice d1 U.base.length d2, .int .i64 (uu : Int), .int .i64 (ur : Int), .slice t1 ul t2] 66) = Y := ⟨_, rfl⟩
  have hbX : Below w.heap.size w X := by rw [← hX]; exact (Below.refl _ _).alloc (Nat.le_refl _) _
  have hbXY : Below X.heap.size X Y := by rw [← hY]; exact (Below.refl _ _).alloc (Nat.le_refl _) _
  have hbY := below_step hbX hbXY
  have hXs : X.heap.size = w.heap.size + 1 := by rw [← hX]; simp
  have hr1 := heap_alloc_last w (.cells #[.bool true, .slice a1 V.now.length a2, .slice b1 V.base.length b2, .int .i64 (vu : Int), .int .i64 (vr : Int), .slice s1 vl s2] 66)
  rw [hX] at hr1
  have hr1Y := (hbXY.block w.heap.size (by omega)).trans hr1
  have hr2Y := heap_alloc_last X (.cells #[.bool true, .slice c1 U.now.length c2, .slice d1 U.base.length d2, .int .i64 (uu : Int), .int .i64 (ur : Int), .slice t1 ul t2] 66)
  rw [hY, hXs] at hr2Y
  have hS1 : w.heap.size < Y.heap.size := (Array.getElem?_eq_some_iff.1 hr1Y).1
  have hS2 : w.heap.size + 1 < Y.heap.size := (Array.getElem?_eq_some_iff.1 hr2Y).1
  have p0 := cell_of_row _ _ 0 _ _ _ hr1Y
  have p1 := cell_of_row _ _ 1 _ _ _ hr1Y
  have p2 := cell_of_row _ _ 2 _ _ _ hr1Y
  have p3 := cell_of_row _ _ 3 _ _ _ hr1Y
  have p4 := cell_of_row _ _ 4 _ _ _ hr1Y
  have p5 := cell_of_row _ _ 5 _ _ _ hr1Y
  have q0 := cell_of_row _ _ 0 _ _ _ hr2Y
  have q1 := cell_of_row _ _ 1 _ _ _ hr2Y
  have q2 := cell_of_row _ _ 2 _ _ _ hr2Y
  have q3 := cell_of_row _ _ 3 _ _ _ hr2Y
  have q4 := cell_of_row _ _ 4 _ _ _ hr2Y
  have q5 := cell_of_row _ _ 5 _ _ _ hr2Y
  simp at p0 p1 p2 p3 p4 p5 q0 q1 q2 q3 q4 q5
  have hun : Hid (vu ≠ uu → ¬ V = U) := fun e h => e (by rw [← hvu.out, ← huu.out, h])
  have hre : Hid (vr ≠ ur → ¬ V = U) := fun e h => e (by rw [← hvr.out, ← hur.out, h])
  have hst : Hid (vl ≠ ul → ¬ V = U) := fun e h => e (by rw [← hvl.out, ← hul.out, h])
  have hno : Hid (¬ V.now = U.now → ¬ V = U) := fun e h => e (by rw [h])
  have hba : Hid (¬ V.base = U.base → ¬ V = U) := fun e h => e (by rw [h])
  have hall : Hid (vu = uu → vr = ur → V.now = U.now → V.base = U.base → V.steps = U.steps → V = U) := fun h1 h2 h3 h4 h5 => vw_ext h3 h4 (by rw [hvu.out, huu.out, h1]) (by rw [hvr.out, hur.out, h2]) h5
  clear hvu hvr huu hur
  by_cases hu : vu = uu
  case neg =>
    have hf : Hid (¬ V = U) := hun.out hu
    have huN : ((vu : Int) != (uu : Int)) = true := by rw [bne_iff_ne]; omega
    have huM : (vu != uu) = true := by rw [bne_iff_ne]; exact hu
    clear hr1 hr1Y hr2Y hu hN hBs hSt hun hre hst hno hba hall
    go_enter Tryz.func27, Tryz.ntmps27
    go_wp2
    go_ret
    exact ⟨IffB.no hf.out, hbY⟩
  subst hu
  by_cases hr : vr = ur
  case neg =>
    have hf : Hid (¬ V = U) := hre.out hr
    have huN : ((vr : Int) != (ur : Int)) = true := by rw [bne_iff_ne]; omega
    have huM : (vr != ur) = true := by rw [bne_iff_ne]; exact hr
    clear hr1 hr1Y hr2Y hr hN hBs hSt hun hre hst hno hba hall
    go_enter Tryz.func27, Tryz.ntmps27
    go_wp2
    go_ret
    exact ⟨IffB.no hf.out, hbY⟩
  subst hr
  by_cases hl : vl = ul
  case neg =>
    have hf : Hid (¬ V = U) := hst.out hl
    have huN : ((vl : Int) != (ul : Int)) = true := by rw [bne_iff_ne]; omega
    have huM : (vl != ul) = true := by rw [bne_iff_ne]; exact hl
    clear hr1 hr1Y hr2Y hl hN hBs hSt hun hre hst hno hba hall
    go_enter Tryz.func27, Tryz.ntmps27
    go_wp2
    go_ret
    exact ⟨IffB.no hf.out, hbY⟩
  subst hl
  have hall2 : Hid (V.now = U.now → V.base = U.base → V.steps = U.steps → V = U) := fun h3 h4 h5 => hall.out rfl rfl h3 h4 h5
  have hT0 : Hid (V.steps.take 0 = U.steps.take 0) := by show V.steps.take 0 = U.steps.take 0; simp
  clear hall hun hre hst hr1 hr1Y hr2Y
  go_enter Tryz.func27, Tryz.ntmps27
  go_wp2_with (go_at_call 56; fail)
  refine (hN Y hbY).mono ?_
  rintro e w5 ⟨⟨o, rfl, ho⟩, hb5⟩
  have p2' := (hb5.cell (p := ⟨w.heap.size, 2, none⟩) hS1).trans p2
  have q2' := (hb5.cell (p := ⟨w.heap.size + 1, 2, none⟩) hS2).trans q2
  have hB5 := below_step hbY hb5
  cases o with
  | false =>
    have hf : Hid (¬ V = U) := hno.out fun h => by have := ho.2 h; cases this
    clear ho hN hBs
    go_wp2
    go_ret
    exact ⟨IffB.no hf.out, hB5⟩
  | true =>
  have hnow : Hid (V.now = U.now) := ho.1 rfl
  clear ho
  go_wp2_with (go_at_call 56; fail)
  refine (hBs w5 hB5).mono ?_
  rintro e w6 ⟨⟨o, rfl, ho⟩, hb6⟩
  have hY6 := below_step hb5 hb6
  have hB6 := below_step hB5 hb6
  cases o with
  | false =>
    have hf : Hid (¬ V = U) := hba.out fun h => by have := ho.2 h; cases this
    clear ho hN hBs
    go_wp2
    go_ret
    exact ⟨IffB.no hf.out, hB6⟩
  | true =>
  have hbase : Hid (V.base = U.base) := ho.1 rfl
  clear ho p0 p1 p2 p3 p4 q0 q1 q2 q3 q4 p2' q2' hN hBs hno hba
  go_wp2
  go_loopw [5] (fun i wr => ∃ j : Nat, j ≤ vl ∧ i = .int .i64 j ∧ Hid (V.steps.take j = U.steps.take j) ∧ Below Y.heap.size Y wr) (fun i _ => vl - (intOf i).toNat)
  case atStart => exact ⟨0, by omega, rfl, hT0, hY6⟩
  case round =>
    obtain ⟨j, hj, rfl, hT, hB⟩ := hrel
    have p5' := (hB.cell (p := ⟨w.heap.size, 5, none⟩) hS1).trans p5
    have q5' := (hB.cell (p := ⟨w.heap.size + 1, 5, none⟩) hS2).trans q5
    have hBw := below_step hbY hB
    by_cases hlt : j < vl
    · have hltV : j < V.steps.length := by rw [hvl.out]; exact hlt
      have hltU : j < U.steps.length := by rw [hul.out]; exact hlt
      have hlt' : (j : Int) < vl := by omega
      have hj0 : (0 : Int) ≤ (j : Int) := by omega
      have hne : V.steps ≠ [] := fun e => by rw [e] at hltV; simp at hltV
      have hneU : U.steps ≠ [] := fun e => by rw [e] at hltU; simp at hltU
      obtain ⟨⟨-, hs1⟩, ⟨-, hs2⟩⟩ := hSt wr hBw
      obtain ⟨g1, cp1, cs1, f1, hh1, hc1⟩ := hs1 hne
      obtain ⟨g2, cp2, cs2, f2, hh2, hc2⟩ := hs2 hneU
      simp at f1 f2
      obtain ⟨rfl, -, rfl⟩ := f1
      obtain ⟨rfl, -, rfl⟩ := f2
      obtain ⟨u1, y1, z1⟩ := hc1 j hltV
      obtain ⟨u2, y2, z2⟩ := hc2 j hltU
      have hg1 : g1 < wr.heap.size := (Array.getElem?_eq_some_iff.1 hh1).1
      have hg2 : g2 < wr.heap.size := (Array.getElem?_eq_some_iff.1 hh2).1
      have hlen := hV4 _ (List.getElem_mem hltV)
      have hlen2 := hU4 _ (List.getElem_mem hltU)
      have hS : Hid (V.steps[j] = U.steps[j] → V.steps.take (j + 1) = U.steps.take (j + 1)) := fun e => by rw [List.take_succ_eq_append_getElem hltV, List.take_succ_eq_append_getElem hltU, hT.out, e]
      have hN : Hid (¬ V.steps[j] = U.steps[j] → ¬ V = U) := fun e h => e (by subst h; rfl)
      generalize V.steps[j] = L at *
      generalize U.steps[j] = L2 at *
      obtain ⟨m1, n1, rfl⟩ := z1.1.len
      obtain ⟨m2, n2, rfl⟩ := z2.1.len
      have B0 : Below wr.heap.size wr wr.drew := (Below.refl _ _).drew
      have hSS : ∀ Z, Below wr.heap.size wr Z → Z.cell? ⟨w.heap.size, 5, none⟩ = some (.slice (some ⟨g1, 0, none⟩) vl s2) ∧ Z.cell? ⟨w.heap.size + 1, 5, none⟩ = some (.slice (some ⟨g2, 0, none⟩) vl t2) ∧ Z.cell? ⟨g1, j, none⟩ = some (.slice m1 L.length n1) ∧ Z.cell? ⟨g2, j, none⟩ = some (.slice m2 L2.length n2) := fun Z hZ => ⟨(hZ.cell (p := ⟨w.heap.size, 5, none⟩) (Nat.lt_of_lt_of_le hS1 hB.size)).trans p5', (hZ.cell (p := ⟨w.heap.size + 1, 5, none⟩) (Nat.lt_of_lt_of_le hS2 hB.size)).trans q5', (hZ.cell (p := ⟨g1, j, none⟩) hg1).trans y1, (hZ.cell (p := ⟨g2, j, none⟩) hg2).trans y2⟩
      have hS1' := hSS _ B0
      have hse := same_ents_x _ _ L L2 hlen hlen2 wr.drew (z1.later B0).1 (z2.later B0).1
      clear hc1 hc2 hs1 hs2 hSt y1 y2 z1 z2 hV4 hU4 hne hneU
      go_wp2
      go_region_held3 (fun Z => Z.cell? ⟨w.heap.size, 5, none⟩ = some (.slice (some ⟨g1, 0, none⟩) vl s2) ∧ Z.cell? ⟨w.heap.size + 1, 5, none⟩ = some (.slice (some ⟨g2, 0, none⟩) vl t2) ∧ Z.cell? ⟨g1, j, none⟩ = some (.slice m1 L.length n1) ∧ Z.cell? ⟨g2, j, none⟩ = some (.slice m2 L2.length n2)) (with_reducible assumption)
        (first | (go_at_call 56; refine hse.mono ?_; rintro e u5 ⟨⟨o, rfl, ho⟩, hc5⟩; have hS5 := hSS _ (below_step B0 hc5)))
      have hB5' := below_step (below_step hB B0) hc5
      cases o with
      | true =>
        have hT2 : Hid (V.steps.take (j + 1) = U.steps.take (j + 1)) := hS.out (ho.1 rfl)
        clear ho hS hN
        go_wp2
        go_roundw
        case rel => exact ⟨j + 1, by omega, by go_num, hT2, hB5'⟩
        case measure => simp [intOf]; omega
      | false =>
        have hf : Hid (¬ V = U) := hN.out fun h => by have := ho.2 h; cases this
        have hB7 := below_step hbY hB5'
        clear ho hS hN
        go_wp2
        go_ret
        exact ⟨IffB.no hf.out, hB7⟩
    · have hlt' : ¬ (j : Int) < vl := by omega
      have hAB : Hid (V = U) := by
        refine hall2.out hnow.out hbase.out ?_
        have h := hT.out
        rw [List.take_of_length_le (by rw [hvl.out]; omega), List.take_of_length_le (by rw [hul.out]; omega)] at h
        exact h
      clear hT
      go_wp2
      go_ret
      exact ⟨IffB.yes hAB.out, hBw⟩

end Go.Proofs.YtblfdjdhikfjhaaGreat.BZ


namespace Go.Proofs.YtblfdjdhikfjhaaGreat
open Go.RowKit

theorem turn_here {Bs : List Br} {c : Br} (hc : c ∈ Bs) (Ls : List Es) (p : Nat) : ∃ c1 ∈ turn Bs c.hb Ls p, c1.nm = c.nm ∧ c1.Ls = Ls ∧ c1.p = p := by
  have := turn_mem (hb := c.hb) (Ls := Ls) (p := p) hc
  rw [if_pos rfl] at this
  exact ⟨_, this, rfl, rfl, rfl⟩
theorem getD_snoc (Ls : List Es) (p : Nat) (hp : p < Ls.length) (L : Es) : (Ls.take (p + 1) ++ [L]).getD p [] = Ls.getD p [] ∧ (Ls.take (p + 1) ++ [L]).getD (p + 1) [] = L ∧ (Ls.take (p + 1) ++ [L]).length = p + 2 := by
  have hl : (Ls.take (p + 1)).length = p + 1 := by rw [List.length_take]; omega
  refine ⟨?_, ?_, by simp [hl]⟩
  · rw [List.getD_eq_getElem?_getD, List.getD_eq_getElem?_getD, List.getElem?_append_left (by omega), List.getElem?_take_of_lt (by omega)]
  · rw [List.getD_eq_getElem?_getD, List.getElem?_append_right (by omega), hl]
    simp

/-- A book whose current branch has these versions. -/
def Cur (W : World) (lo bb : Nat) (cur : ByteArray) (Ls : List Es) (p : Nat) : Prop := ∃ Bs c, BookAt W lo bb Bs cur ∧ c ∈ Bs ∧ c.nm = cur ∧ c.Ls = Ls ∧ c.p = p
theorem Cur.later {W W' : World} {lo bb : Nat} {cur : ByteArray} {Ls : List Es} {p : Nat} (h : Cur W lo bb cur Ls p) (hb : Below W.heap.size W W') : Cur W' lo bb cur Ls p := by
  obtain ⟨Bs, c, h1, h2⟩ := h
  exact ⟨Bs, c, h1.later hb, h2⟩
theorem Cur.inputs {w : World} {lo bb : Nat} {cur : ByteArray} {Ls : List Es} {p : Nat} (h : Cur w lo bb cur Ls p) : Calls Tryz.prog 22 #[.pointer (some ⟨bb, 0, none⟩)] w fun e w' => ∃ mb, e = .returned (.pointer (some ⟨mb, 0, none⟩)) ∧ MapE w' mb (Ls.getD p []) ∧ Below w.heap.size w w' := by
  obtain ⟨Bs, c, h1, h2, rfl, rfl, rfl⟩ := h
  exact inputs_any lo bb Bs c h2 w h1
theorem Cur.hist {w : World} {lo bb : Nat} {cur : ByteArray} {Ls : List Es} {p : Nat} (h : Cur w lo bb cur Ls p) : p < Ls.length ∧ Ls.length ≤ 33 := by
  obtain ⟨Bs, c, h1, h2, rfl, rfl, rfl⟩ := h
  exact ⟨(h1.br h2).2.1.1, (h1.br h2).2.1.2.1⟩
theorem Cur.depth {w : World} {lo bb : Nat} {cur : ByteArray} {Ls : List Es} {p : Nat} (r : Nat) (hr : p + 1 + r = Ls.length) (h : Cur w lo bb cur Ls p) : Calls Tryz.prog 55 #[.pointer (some ⟨bb, 0, none⟩)] w fun e w' => e = .returned (.tuple #[.int .i64 (p : Int), .int .i64 (r : Int)]) ∧ Below w.heap.size w w' := by
  obtain ⟨Bs, c, h1, h2, rfl, rfl, rfl⟩ := h
  exact bdepth_any lo bb Bs c h2 r hr w h1
theorem Cur.full {w : World} {lo bb : Nat} {cur : ByteArray} {Ls : List Es} (mb : Nat) (h : Cur w lo bb cur Ls 32) : Calls Tryz.prog 17 #[.pointer (some ⟨bb, 0, none⟩), .pointer (some ⟨mb, 0, none⟩)] w fun e w' => e = .returned (.int .i64 110) ∧ Below w.heap.size w w' := by
  obtain ⟨Bs, c, h1, h2, rfl, rfl, h5⟩ := h
  exact change_full lo bb Bs c h2 h5 mb w h1
theorem Cur.change {w : World} {lo bb : Nat} {cur : ByteArray} {Ls : List Es} {p : Nat} (hp : p < 32) (mb : Nat) (L : Es) (hm : MapE w mb L) (h : Cur w lo bb cur Ls p) : Calls Tryz.prog 17 #[.pointer (some ⟨bb, 0, none⟩), .pointer (some ⟨mb, 0, none⟩)] w fun e w' => e = .returned (.int .i64 0) ∧ Cur w' lo bb cur (Ls.take (p + 1) ++ [L]) (p + 1) ∧ Mv lo w w' := by
  obtain ⟨Bs, c, h1, h2, rfl, rfl, rfl⟩ := h
  refine (change_some lo bb Bs c h2 hp mb L w h1 hm).mono ?_
  rintro e w' ⟨rfl, hB, hM⟩
  obtain ⟨c1, k1, k2, k3, k4⟩ := turn_here h2 (c.Ls.take (c.p + 1) ++ [L]) (c.p + 1)
  exact ⟨rfl, ⟨_, c1, hB, k1, k2, k3, k4⟩, hM⟩
theorem Cur.undo {w : World} {lo bb : Nat} {cur : ByteArray} {Ls : List Es} {p : Nat} (h : Cur w lo bb cur Ls (p + 1)) : Calls Tryz.prog 30 #[.pointer (some ⟨bb, 0, none⟩)] w fun e w' => e = .returned (.int .i64 0) ∧ Cur w' lo bb cur Ls p ∧ Mv lo w w' := by
  obtain ⟨Bs, c, h1, h2, rfl, rfl, h5⟩ := h
  refine (bundo_some lo bb Bs c h2 p h5 w h1).mono ?_
  rintro e w' ⟨rfl, hB, hM⟩
  obtain ⟨c1, k1, k2, k3, k4⟩ := turn_here h2 c.Ls p
  exact ⟨rfl, ⟨_, c1, hB, k1, k2, k3, k4⟩, hM⟩
theorem Cur.redo {w : World} {lo bb : Nat} {cur : ByteArray} {Ls : List Es} {p : Nat} (hp : p + 1 < Ls.length) (h : Cur w lo bb cur Ls p) : Calls Tryz.prog 31 #[.pointer (some ⟨bb, 0, none⟩)] w fun e w' => e = .returned (.int .i64 0) ∧ Cur w' lo bb cur Ls (p + 1) ∧ Mv lo w w' := by
  obtain ⟨Bs, c, h1, h2, rfl, rfl, rfl⟩ := h
  refine (bredo_some lo bb Bs c h2 hp w h1).mono ?_
  rintro e w' ⟨rfl, hB, hM⟩
  obtain ⟨c1, k1, k2, k3, k4⟩ := turn_here h2 c.Ls (c.p + 1)
  exact ⟨rfl, ⟨_, c1, hB, k1, k2, k3, k4⟩, hM⟩

theorem take_le {L : Es} (h : L.length ≤ 4294967296) (k : Nat) : (L.take k).length ≤ 9223372036854775806 := by
  rw [List.length_take]
  omega

theorem ents_take {W : World} {v : Value} {L : Es} {k : Nat} (h : EntsAt W v (L.take k)) (hl : L.length ≤ 4294967296) (hs : ∀ e ∈ L, e.1 < 4294967296) : EntB W v (L.take k) := by
  refine ⟨h, ?_, fun e he => hs e (List.mem_of_mem_take he)⟩
  rw [List.length_take]
  omega
theorem named {W : World} {v : Value} {L : Es} {k : Nat} (h : EntsAt W v (L.take k)) (hl : L.length ≤ 4294967296) : ∃ O, Hid (L.take k = O) ∧ Hid (O.length ≤ 9223372036854775806) ∧ EntsAt W v O := ⟨_, rfl, take_le hl k, h⟩
theorem ents_named {W : World} {v : Value} {L O : Es} {k : Nat} (hO : L.take k = O) (h : EntsAt W v O) (hl : L.length ≤ 4294967296) (hs : ∀ e ∈ L, e.1 < 4294967296) : EntB W v O := by
  subst hO
  exact ents_take h hl hs
theorem want_eq {L X : Es} (k : Nat) (h : Rises L) : (putE (putE [] (L.take k)) X).take k = (putE L X).take k := by
  have hr : Rises (L.take k) := List.Pairwise.sublist (List.take_sublist _ _) h
  rw [putE_nil hr]
  exact putE_take k X hr h (by rw [List.take_take, Nat.min_self])

end Go.Proofs.YtblfdjdhikfjhaaGreat
