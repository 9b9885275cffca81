import Derived.Test.YtigjnodkpkkdmaaJoin52
import Derived.Test.YtigjnodkpkkdmaaDYPure
import Derived.Test.YtigjnodkpkkdmaaHBound
namespace Go.Proofs.Ytigjnodkpkkdmaa
open Go.RowKit Go.Shelf

theorem risesK_of {ks : List Nat} (h : ks.Pairwise (· < ·)) : RisesK ks := fun i hi => List.pairwise_iff_getElem.1 h i (i + 1) (by omega) hi (Nat.lt_succ_self _)
def keP (w : World) (A B : Es) (e : Ending) (w' : World) : Prop := ∃ ks, DifK A B ks ∧ ks.length ≤ 400 ∧ ksP w ks e w'

set_option maxHeartbeats 1000000 in
theorem keys_is (hb : Nat) (Ls : List Es) (p i j : Nat) (hi : i < Ls.length) (hj : j < Ls.length) (w : World) (h : HistAt w hb Ls p) : Calls Try.prog 10 #[.pointer (some ⟨hb, 0, none⟩), .int .i64 ((i : Int) - (p : Int)), .int .i64 ((j : Int) - (p : Int))] w (keP w Ls[i] Ls[j]) := by
  obtain ⟨g, cap, vs, hx⟩ := h.x
  have hM := hx.2.2.2.2.2
  obtain ⟨-, ⟨ta, hta, ea⟩, la⟩ := hM.2 i hi
  obtain ⟨-, ⟨tb, htb, eb⟩, lb⟩ := hM.2 j hj
  have wa : ta.wf 7 := hta.2.2.2.2
  have wb : tb.wf 7 := htb.2.2.2.2
  have hl := dif_lenK wa wb 0
  rw [ea, eb] at hl
  have hD := difK_dif wa wb
  rw [ea, eb] at hD
  have hl4 : ((ta.dif tb 7 0).map (·.1)).length ≤ 400 := by rw [List.length_map]; exact Nat.le_trans hl (Nat.add_le_add la lb)
  have hl5 : (ta.dif tb 7 0).length < 2000 := Nat.lt_of_le_of_lt (Nat.le_trans hl (Nat.add_le_add la lb)) (by omega)
  obtain ⟨ks, hks⟩ : ∃ ks, ks = (ta.dif tb 7 0).map (·.1) := ⟨_, rfl⟩
  rw [← hks] at hl4 hD
  refine (keys_of hb _ _ ks (by omega) (risesK_of hD.1) w fun w1 hb1 n hT => ?_).mono ?_
  · refine keyList_of n (n + 1) (n + 1 + 1) _ w1 fun w2 hb2 hK => ?_
    rw [hks]
    exact touched1_some w1 hb g cap vs Ls p i j n (n + 1) (n + 1 + 1) (hx.later hb1) hi hj ta tb (hta.later hb1) (htb.later hb1) hl5 hT.1 hT.2.1 hT.2.2.1 ⟨hT.2.2.2.1, hT.2.2.2.2.1, hT.2.2.2.2.2⟩ w2 hb2 hK
  · intro e w' hk
    exact ⟨ks, hD, hl4, hk⟩
set_option maxHeartbeats 1000000 in
theorem keys_out (hb : Nat) (Ls : List Es) (p : Nat) (a b : Int) (hab : (a < -(p : Int) ∨ (Ls.length : Int) - 1 - p < a) ∨ ((∃ i : Nat, i < Ls.length ∧ a = (i : Int) - p) ∧ (b < -(p : Int) ∨ (Ls.length : Int) - 1 - p < b))) (hbb : (b < -(p : Int) ∨ (Ls.length : Int) - 1 - p < b) ∨ (∃ i : Nat, i < Ls.length ∧ b = (i : Int) - p)) (w : World) (h : HistAt w hb Ls p) :
    Calls Try.prog 10 #[.pointer (some ⟨hb, 0, none⟩), .int .i64 a, .int .i64 b] w (ksP w []) := by
  refine keys_of hb _ _ [] (by simp) (fun i hi => by simp at hi) w fun w1 hb1 n hT => ?_
  refine keyList_of n (n + 1) (n + 1 + 1) _ w1 fun w2 hb2 hK => ?_
  exact touched1_none w1 hb Ls p n (n + 1) (n + 1 + 1) a b (h.later hb1) hab hbb hT.1 hT.2.1 hT.2.2.1 ⟨hT.2.2.2.1, hT.2.2.2.2.1, hT.2.2.2.2.2⟩ w2 hb2 hK

def vaP (w : World) (o : Option (Int × Int)) (e : Ending) (w' : World) : Prop := e = .returned (.tuple #[.agg #[.int .i64 (o.getD (0, 0)).1, .int .i64 (o.getD (0, 0)).2], .bool o.isSome]) ∧ Below w.heap.size w w'
theorem valE_at {L : Es} {j k : Nat} (hj : j < L.length) (hk : L[j].1 = k) (hn : ∀ e ∈ L.take j, e.1 ≠ k) : valE L k = some L[j].2 := by
  have e : L.take j ++ L[j] :: L.drop (j + 1) = L := by rw [List.getElem_cons_drop, List.take_append_drop]
  have h1 : (L.take j).find? (fun e => e.1 == k) = none := by
    rw [List.find?_eq_none]
    intro x hx
    simpa using hn x hx
  have h2 : (L.take j ++ L[j] :: L.drop (j + 1)).find? (fun e => e.1 == k) = some L[j] := by
    rw [List.find?_append, h1, List.find?_cons, hk]
    simp
  rw [e] at h2
  unfold valE
  rw [h2]
  rfl
theorem valE_none {L : Es} {k : Nat} (hn : ∀ e ∈ L, e.1 ≠ k) : valE L k = none := by
  unfold valE
  rw [List.find?_eq_none.2 (by intro x hx; simpa using hn x hx)]
  rfl

set_option maxRecDepth 4000 in
set_option maxHeartbeats 2000000 in
theorem value_any (v : Value) (L : Es) (hl : L.length ≤ 1000000000) (k : Nat) (w : World) (h : EntsAt w v L) : Calls Try.prog 11 #[v, .int .u32 (k : Int)] w (vaP w (valE L k)) := by
  obtain ⟨a, cap, rfl, hd⟩ := h
  go_enter Try.func11, Try.ntmps11
  go_wp2
  have hab := (Below.refl w.heap.size w).alloc (Nat.le_refl _) (.cells #[.int .i64 0, .int .i64 0] 37)
  have hrow := heap_alloc_last w (.cells #[.int .i64 0, .int .i64 0] 37)
  generalize w.alloc (.cells #[.int .i64 0, .int .i64 0] 37) = wa at *
  have hrl := (Array.getElem?_eq_some_iff.1 hrow).1
  go_loopw [6] (fun i wr => ∃ j : Nat, j ≤ L.length ∧ i = .int .i64 j ∧ (∀ e ∈ L.take j, e.1 ≠ k) ∧ Below wa.heap.size wa wr) (fun i _ => L.length - (intOf i).toNat)
  case atStart => exact ⟨0, by omega, rfl, by simp, Below.refl _ _⟩
  case round =>
    obtain ⟨j, hj, rfl, hn, hB⟩ := hrel
    have row := (hB.block _ hrl).trans hrow
    have z0 : wr.cell? ⟨w.heap.size, 0, none⟩ = some (.int .i64 0) := cell_of_row _ _ 0 _ _ _ row
    have z1 : wr.cell? ⟨w.heap.size, 1, none⟩ = some (.int .i64 0) := cell_of_row _ _ 1 _ _ _ row
    have f0 := frozen_of_row row 0
    have f1 := frozen_of_row row 1
    by_cases hlt : j < L.length
    · have hlt' : (j : Int) < L.length := by omega
      have hj0 : (0 : Int) ≤ (j : Int) := by omega
      rcases hd with h0 | ⟨g, off, rfl, hg, hc⟩
      · rw [h0] at hlt; simp at hlt
      obtain ⟨b0, b1, b2⟩ := hc j hlt
      have hBw := below_step hab hB
      have a0 := (hBw.cell (p := ⟨g, off + j * 3, none⟩) hg).trans b0
      have a1 := (hBw.cell (p := ⟨g, off + j * 3 + 1, none⟩) hg).trans b1
      have a2 := (hBw.cell (p := ⟨g, off + j * 3 + 2, none⟩) hg).trans b2
      by_cases hk : L[j].1 = k
      · have hin := valE_at hlt hk hn
        rw [hin]
        rw [hk] at a0
        clear hc b0 b1 b2 hin
        generalize L[j].2 = xy at *
        obtain ⟨x, y⟩ := xy
        go_wp2
        have s0 := heap_setCell_same wr w.heap.size 0 _ _ (.int .i64 x) row
        have s1 := heap_setCell_same _ w.heap.size 1 _ _ (.int .i64 y) s0
        have r0 : ((wr.setCell ⟨w.heap.size, 0, none⟩ (.int .i64 x)).setCell ⟨w.heap.size, 1, none⟩ (.int .i64 y)).cell? ⟨w.heap.size, 0, none⟩ = some (.int .i64 x) := cell_of_row _ _ 0 _ _ _ s1
        have r1 : ((wr.setCell ⟨w.heap.size, 0, none⟩ (.int .i64 x)).setCell ⟨w.heap.size, 1, none⟩ (.int .i64 y)).cell? ⟨w.heap.size, 1, none⟩ = some (.int .i64 y) := cell_of_row _ _ 1 _ _ _ s1
        have hBw := below_step hab hB
        exact bodyPost_ret (v := .tuple #[.agg #[.int .i64 x, .int .i64 y], .bool true]) (by simp [results, Try.results11, go_sem, r0, r1]) rfl ⟨rfl, (hBw.setCell (p := ⟨w.heap.size, 0, none⟩) (Nat.le_refl _) _).setCell (p := ⟨w.heap.size, 1, none⟩) (Nat.le_refl _) _⟩
      · have hk' : ¬ ((L[j].1 : Nat) : Int) = (k : Int) := by omega
        have hn2 : ∀ e ∈ L.take (j + 1), e.1 ≠ k := by
          rw [List.take_succ_eq_append_getElem hlt]
          intro e he
          rcases List.mem_append.1 he with h | h
          · exact hn e h
          · rw [List.mem_singleton.1 h]; exact hk
        clear hc b0 b1 b2
        generalize L[j].1 = x at *
        go_wp2
        go_roundw
        case rel => exact ⟨j + 1, by omega, by go_num, hn2, hB⟩
        case measure => simp [intOf]; omega
    · have hlt' : ¬ (j : Int) < L.length := by omega
      have hn3 : valE L k = none := valE_none (by rwa [List.take_of_length_le (by omega)] at hn)
      rw [hn3]
      go_wp2
      have s0 := heap_setCell_same wr w.heap.size 0 _ _ (.int .i64 0) row
      have s1 := heap_setCell_same _ w.heap.size 1 _ _ (.int .i64 0) s0
      have r0 : ((wr.setCell ⟨w.heap.size, 0, none⟩ (.int .i64 0)).setCell ⟨w.heap.size, 1, none⟩ (.int .i64 0)).cell? ⟨w.heap.size, 0, none⟩ = some (.int .i64 0) := cell_of_row _ _ 0 _ _ _ s1
      have r1 : ((wr.setCell ⟨w.heap.size, 0, none⟩ (.int .i64 0)).setCell ⟨w.heap.size, 1, none⟩ (.int .i64 0)).cell? ⟨w.heap.size, 1, none⟩ = some (.int .i64 0) := cell_of_row _ _ 1 _ _ _ s1
      have hBw := below_step hab hB
      exact bodyPost_ret (v := .tuple #[.agg #[.int .i64 0, .int .i64 0], .bool false]) (by simp [results, Try.results11, go_sem, r0, r1]) rfl ⟨rfl, (hBw.setCell (p := ⟨w.heap.size, 0, none⟩) (Nat.le_refl _) _).setCell (p := ⟨w.heap.size, 1, none⟩) (Nat.le_refl _) _⟩

end Go.Proofs.Ytigjnodkpkkdmaa


namespace Go.Proofs.Ytigjnodkpkkdmaa
open Go.RowKit Go.Shelf

set_option maxRecDepth 4000 in
set_option maxHeartbeats 2000000 in
theorem place_any (a : Int) (ha : -9223372036854775808 ≤ a ∧ a ≤ 9223372036854775807) (n : Nat) (hn : 0 < n) (hn2 : n ≤ 33) (w : World) : Calls Try.prog 9 #[.int .i64 a, .int .i64 (n : Int)] w fun e w' => ∃ q : Nat, q < n ∧ e = .returned (.int .i64 (q : Int)) ∧ Below w.heap.size w w' := by
  have h0 : ¬ (n : Int) = 0 := by omega
  have h1 : ¬ (n : Int) = -1 := by omega
  have key : ∀ x : Int, 0 ≤ x → ∃ q : Nat, q < n ∧ x.tmod (n : Int) = (q : Int) := fun x hx => by
    obtain ⟨m, rfl⟩ : ∃ m : Nat, x = (m : Int) := ⟨x.toNat, by omega⟩
    exact ⟨m % n, Nat.mod_lt _ hn, by rw [Int.ofNat_tmod]⟩
  by_cases hneg : a < 0
  · have e1 : IntKind.i64.wrap (a + 1) = a + 1 := by rw [IntKind.wrap_i64]; omega
    have e2 : wrap64 (a + 1) = a + 1 := by unfold wrap64; omega
    have e3 : IntKind.i64.wrap (-(a + 1)) = -(a + 1) := by rw [IntKind.wrap_i64]; omega
    have e4 : wrap64 (-(a + 1)) = -(a + 1) := by unfold wrap64; omega
    obtain ⟨q, hq, he⟩ := key (-(a + 1)) (by omega)
    go_enter Try.func9, Try.ntmps9
    go_wp2
    go_ret
    exact ⟨q, hq, rfl, Below.refl _ _⟩
  · obtain ⟨q, hq, he⟩ := key a (by omega)
    go_enter Try.func9, Try.ntmps9
    go_wp2
    go_ret
    exact ⟨q, hq, rfl, Below.refl _ _⟩

theorem tnums (p r l : Nat) (hr : p + 1 + r = l) (hl : l ≤ 33) : ¬ (p : Int) < 0 ∧ ¬ (r : Int) < 0 ∧ (IntKind.i64.wrap ((p : Int) + (r : Int)) = (p : Int) + (r : Int) ∧ wrap64 ((p : Int) + (r : Int)) = (p : Int) + (r : Int)) ∧ (IntKind.i64.wrap ((p : Int) + (r : Int) + 1) = (l : Int) ∧ wrap64 ((p : Int) + (r : Int) + 1) = (l : Int)) ∧ (IntKind.i64.wrap (-(p : Int)) = -(p : Int) ∧ wrap64 (-(p : Int)) = -(p : Int)) :=
  ⟨by omega, by omega, wrI rfl (by omega) (by omega), wrI (by omega) (by omega) (by omega), wrI rfl (by omega) (by omega)⟩
/-- A place, told from the present one. -/
theorem tnum1 (p q l : Nat) (hq : q < l) (hp : p < l) (hl : l ≤ 33) : (IntKind.i64.wrap ((q : Int) - (p : Int)) = (q : Int) - (p : Int) ∧ wrap64 ((q : Int) - (p : Int)) = (q : Int) - (p : Int)) ∧ (IntKind.i64.wrap ((q : Int) - (p : Int) + (p : Int)) = (q : Int) ∧ wrap64 ((q : Int) - (p : Int) + (p : Int)) = (q : Int)) :=
  ⟨wrI rfl (by omega) (by omega), wrI (by omega) (by omega) (by omega)⟩

end Go.Proofs.Ytigjnodkpkkdmaa
