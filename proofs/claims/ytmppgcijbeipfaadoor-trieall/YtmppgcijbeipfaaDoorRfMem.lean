import Derived.Test.YtmppgcijbeipfaaDoorRfPure
import Derived.Test.YtmppgcijbeipfaaDoorHSame
import Derived.Test.YtmppgcijbeipfaaDoorHMem
namespace Go.Proofs.YtmppgcijbeipfaaDoor
open Go.RowKit

def idV (L : Es) : List Value := L.map fun e => Value.int .u32 (e.1 : Int)
def vaV (L : Es) : List Value := L.flatMap fun e => [.int .i64 e.2.1, .int .i64 e.2.2]
def stV (s : List Int) : List Value := s.map fun x => Value.int .i64 x
theorem idV_snoc (L : Es) (e : Nat × (Int × Int)) : idV (L ++ [e]) = idV L ++ [.int .u32 (e.1 : Int)] := by simp [idV]
theorem vaV_snoc (L : Es) (e : Nat × (Int × Int)) : vaV (L ++ [e]) = vaV L ++ [.int .i64 e.2.1, .int .i64 e.2.2] := by simp [vaV]
theorem vaV_at : ∀ (L : Es) (i : Nat) (h : i < L.length), (vaV L)[i * 2]? = some (.int .i64 L[i].2.1) ∧ (vaV L)[i * 2 + 1]? = some (.int .i64 L[i].2.2)
  | a :: L, 0, _ => by simp [vaV]
  | a :: L, i + 1, h => by
    have := vaV_at L i (by simpa using h)
    have e : vaV (a :: L) = .int .i64 a.2.1 :: .int .i64 a.2.2 :: vaV L := rfl
    rw [e, show (i + 1) * 2 = i * 2 + 1 + 1 from by omega, List.getElem?_cons_succ, List.getElem?_cons_succ, List.getElem?_cons_succ, List.getElem?_cons_succ]
    exact this
/-- A map of the reference: its entries; beside each eight stamps. -/
def RfAt (W : World) (b : Nat) (L : Es) : Prop := ∃ (vi vv vs : Value) (st : List Int), W.heap[b]? = some (.cells #[vi, vv, vs] 77 (0, 0)) ∧ W.ownsRow 0 27 1 vi L.length (idV L) ∧ W.ownsRow 0 29 2 vv L.length (vaV L) ∧ W.ownsRow 0 87 8 vs L.length (stV st) ∧ st.length = L.length * 8 ∧ Rises L
theorem RfAt.lt {W : World} {b : Nat} {L : Es} (h : RfAt W b L) : b < W.heap.size := by
  obtain ⟨vi, vv, vs, st, h0, -⟩ := h
  exact (Array.getElem?_eq_some_iff.1 h0).1
theorem RfAt.later {W W' : World} {b : Nat} {L : Es} (h : RfAt W b L) (hB : Below W.heap.size W W') : RfAt W' b L := by
  have hb := h.lt
  obtain ⟨vi, vv, vs, st, h0, h1, h2, h3, h4⟩ := h
  exact ⟨vi, vv, vs, st, (hB.block _ hb).trans h0, own_laterB h1 hB, own_laterB h2 hB, own_laterB h3 hB, h4⟩
/-- It in cells. -/
theorem RfAt.cells {W : World} {b : Nat} {L : Es} (h : RfAt W b L) : ∃ (ai av az : Option Addr) (ci cv cs : Nat), W.cell? ⟨b, 0, none⟩ = some (.slice ai L.length ci) ∧ W.cell? ⟨b, 1, none⟩ = some (.slice av L.length cv) ∧ W.cell? ⟨b, 2, none⟩ = some (.slice az L.length cs) ∧
    (0 < L.length → ∃ gi gv gs, ai = some ⟨gi, 0, none⟩ ∧ av = some ⟨gv, 0, none⟩ ∧ az = some ⟨gs, 0, none⟩ ∧ gi < W.heap.size ∧ gv < W.heap.size ∧ gs < W.heap.size ∧ (∀ i (hi : i < L.length), W.cell? ⟨gi, i, none⟩ = some (.int .u32 (L[i].1 : Int)) ∧ W.cell? ⟨gv, i * 2, none⟩ = some (.int .i64 L[i].2.1) ∧ W.cell? ⟨gv, i * 2 + 1, none⟩ = some (.int .i64 L[i].2.2)) ∧ ∀ j, j < L.length * 8 → ∃ x, W.cell? ⟨gs, j, none⟩ = some (.int .i64 x)) := by
  obtain ⟨vi, vv, vs, st, h0, h1, h2, h3, h4, -⟩ := h
  have hlen : ∀ {t : TypeId} {k : Nat} {v : Value} {xs : List Value}, W.ownsRow 0 t k v L.length xs → ∃ a c, v = .slice a L.length c ∧ (0 < L.length → ∃ g, a = some ⟨g, 0, none⟩) := fun {t k v xs} ho => by
    obtain ⟨_, ⟨e, h0⟩ | ⟨g, cap, cur, rfl, _⟩⟩ := ho
    · exact ⟨none, 0, by rw [e, h0], fun h => by omega⟩
    · exact ⟨_, cap, rfl, fun _ => ⟨g, rfl⟩⟩
  obtain ⟨ai, ci, rfl, qi⟩ := hlen h1
  obtain ⟨av, cv, rfl, qv⟩ := hlen h2
  obtain ⟨az, cs, rfl, qs⟩ := hlen h3
  refine ⟨ai, av, az, ci, cv, cs, cell_of_row _ _ 0 _ _ _ h0, cell_of_row _ _ 1 _ _ _ h0, cell_of_row _ _ 2 _ _ _ h0, fun hl => ?_⟩
  obtain ⟨gi, rfl⟩ := qi hl
  obtain ⟨gv, rfl⟩ := qv hl
  obtain ⟨gs, rfl⟩ := qs hl
  refine ⟨gi, gv, gs, rfl, rfl, rfl, (h1.lt gi rfl).2, (h2.lt gv rfl).2, (h3.lt gs rfl).2, fun i hi => ⟨?_, ?_, ?_⟩, fun j hj => ?_⟩
  · rw [h1.cellAt i (by omega)]
    unfold idV
    rw [List.getElem?_map, List.getElem?_eq_getElem hi]
    rfl
  · rw [h2.cellAt (i * 2) (by omega), (vaV_at L i hi).1]
  · rw [h2.cellAt (i * 2 + 1) (by omega), (vaV_at L i hi).2]
  · refine ⟨st[j]'(by omega), ?_⟩
    rw [h3.cellAt j (by omega)]
    unfold stV
    rw [List.getElem?_map, List.getElem?_eq_getElem (by omega)]
    rfl

end Go.Proofs.YtmppgcijbeipfaaDoor
