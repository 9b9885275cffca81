import Derived.Test.YtmppgcijbeipfaaDoorRfPlace
import Derived.Test.YtmppgcijbeipfaaDoorTTake
namespace Go.Proofs.YtmppgcijbeipfaaDoor
open Go.RowKit

theorem own_tags {W : World} {b1 b2 k1 k2 n1 n2 : Nat} {t1 t2 : TypeId} {v1 v2 : Value} {x1 x2 : List Value} (h1 : W.ownsRow b1 t1 k1 v1 n1 x1) (h2 : W.ownsRow b2 t2 k2 v2 n2 x2) (hne : t1 ≠ t2) : v2.ownBlock = none ∨ v2.ownBlock ≠ v1.ownBlock := by
  obtain ⟨_, ⟨rfl, _⟩ | ⟨g2, c2, cur2, rfl, _, r2, _⟩⟩ := h2
  · exact .inl rfl
  · refine .inr fun e => ?_
    obtain ⟨_, ⟨rfl, _⟩ | ⟨g1, c1, cur1, rfl, _, r1, _⟩⟩ := h1
    · simp [Value.ownBlock] at e
    · have e' : g2 = g1 := Option.some.inj e
      subst e'
      rw [r1] at r2
      cases r2
      exact hne rfl
/-- A map of the reference that is being made. -/
structure RfR (W : World) (nb : Nat) (vi vv vs : Value) (I V : Es) (k : Nat) (st : List Int) : Prop where
  row : W.heap[nb]? = some (.cells #[vi, vv, vs] 77 (0, 0))
  ids : W.ownsRow (nb + 1) 27 1 vi I.length (idV I)
  vals : W.ownsRow (nb + 1) 29 2 vv V.length (vaV V)
  sts : W.ownsRow (nb + 1) 87 8 vs k (stV st)
  len : st.length = k * 8
theorem RfR.later {W W' : World} {nb : Nat} {vi vv vs : Value} {I V : Es} {k : Nat} {st : List Int} (h : RfR W nb vi vv vs I V k st) (hB : Below W.heap.size W W') : RfR W' nb vi vv vs I V k st :=
  ⟨(hB.block _ (Array.getElem?_eq_some_iff.1 h.row).1).trans h.row, own_laterB h.ids hB, own_laterB h.vals hB, own_laterB h.sts hB, h.len⟩
theorem own_off {W : World} {nb k n : Nat} {t : TypeId} {v : Value} {xs : List Value} (h : W.ownsRow (nb + 1) t k v n xs) : v.ownBlock = none ∨ v.ownBlock ≠ some nb := .inr fun e => by have := (h.lt nb e).1; omega
theorem rf_keep {W W2 : World} {nb : Nat} {cs : Array Value} {t : TypeId} {v : Value} (hr : W.heap[nb]? = some (.cells cs t (0, 0))) (hg : W.grownBy W2 v.ownBlock) (hne : v.ownBlock = none ∨ v.ownBlock ≠ some nb) : W2.heap[nb]? = some (.cells cs t (0, 0)) :=
  (hg.block nb (Array.getElem?_eq_some_iff.1 hr).1 (by rcases hne with h | h <;> first | (rw [h]; simp) | exact fun e => h e.symm)).trans hr
theorem RfR.below {W W2 : World} {nb : Nat} {v : Value} (hnb : nb < W.heap.size) (hg : W.grownBy W2 v.ownBlock) (hlo : ∀ j, v.ownBlock = some j → nb + 1 ≤ j) (u : Value) (o : Nat) : Below nb W (W2.setCell ⟨nb, o, none⟩ u) :=
  (((Below.refl W.heap.size W).mono (Nat.le_of_lt hnb)).grown hg (Nat.le_of_lt hnb) (fun j hj => by have := hlo j hj; omega)).setCell (p := ⟨nb, o, none⟩) (Nat.le_refl _) u
theorem RfR.app0 {W W2 : World} {nb : Nat} {vi vv vs v2 : Value} {I V : Es} {k : Nat} {st : List Int} (h : RfR W nb vi vv vs I V k st) (e : Nat × (Int × Int)) (ho : W2.ownsRow (nb + 1) 27 1 v2 (I.length + 1) (idV I ++ [.int .u32 (e.1 : Int)])) (hg : W.grownBy W2 vi.ownBlock) :
    RfR (W2.setCell ⟨nb, 0, none⟩ v2) nb v2 vv vs (I ++ [e]) V k st ∧ Below nb W (W2.setCell ⟨nb, 0, none⟩ v2) ∧ W2.cell? ⟨nb, 0, none⟩ = some vi ∧ W2.frozen? ⟨nb, 0, none⟩ = false := by
  have r2 := rf_keep h.row hg (own_off h.ids)
  have hs := grown_set W2 nb 0 v2
  refine ⟨⟨heap_setCell_same W2 nb 0 _ _ v2 r2, ?_, ?_, ?_, h.len⟩, RfR.below (Array.getElem?_eq_some_iff.1 h.row).1 hg (fun j hj => (h.ids.lt j hj).1) _ _, cell_of_row _ _ 0 _ _ _ r2, frozen_of_row r2 0⟩
  · rw [List.length_append, idV_snoc]; exact ho.kept hs (own_off ho)
  · have := h.vals.kept hg (own_tags h.ids h.vals (by decide)); exact this.kept hs (own_off this)
  · have := h.sts.kept hg (own_tags h.ids h.sts (by decide)); exact this.kept hs (own_off this)
theorem RfR.app1 {W W2 : World} {nb : Nat} {vi vv vs v2 : Value} {I V : Es} {k : Nat} {st : List Int} (h : RfR W nb vi vv vs I V k st) (e : Nat × (Int × Int)) (ho : W2.ownsRow (nb + 1) 29 2 v2 (V.length + 1) (vaV V ++ [.int .i64 e.2.1, .int .i64 e.2.2])) (hg : W.grownBy W2 vv.ownBlock) :
    RfR (W2.setCell ⟨nb, 1, none⟩ v2) nb vi v2 vs I (V ++ [e]) k st ∧ Below nb W (W2.setCell ⟨nb, 1, none⟩ v2) ∧ W2.cell? ⟨nb, 1, none⟩ = some vv ∧ W2.frozen? ⟨nb, 1, none⟩ = false := by
  have r2 := rf_keep h.row hg (own_off h.vals)
  have hs := grown_set W2 nb 1 v2
  refine ⟨⟨heap_setCell_same W2 nb 1 _ _ v2 r2, ?_, ?_, ?_, h.len⟩, RfR.below (Array.getElem?_eq_some_iff.1 h.row).1 hg (fun j hj => (h.vals.lt j hj).1) _ _, cell_of_row _ _ 1 _ _ _ r2, frozen_of_row r2 1⟩
  · have := h.ids.kept hg (own_tags h.vals h.ids (by decide)); exact this.kept hs (own_off this)
  · rw [List.length_append, vaV_snoc]; exact ho.kept hs (own_off ho)
  · have := h.sts.kept hg (own_tags h.vals h.sts (by decide)); exact this.kept hs (own_off this)
theorem RfR.app2 {W W2 : World} {nb : Nat} {vi vv vs v2 : Value} {I V : Es} {k : Nat} {st : List Int} (h : RfR W nb vi vv vs I V k st) (s8 : List Int) (h8 : s8.length = 8) (ho : W2.ownsRow (nb + 1) 87 8 v2 (k + 1) (stV st ++ stV s8)) (hg : W.grownBy W2 vs.ownBlock) :
    RfR (W2.setCell ⟨nb, 2, none⟩ v2) nb vi vv v2 I V (k + 1) (st ++ s8) ∧ Below nb W (W2.setCell ⟨nb, 2, none⟩ v2) ∧ W2.cell? ⟨nb, 2, none⟩ = some vs ∧ W2.frozen? ⟨nb, 2, none⟩ = false := by
  have r2 := rf_keep h.row hg (own_off h.sts)
  have hs := grown_set W2 nb 2 v2
  refine ⟨⟨heap_setCell_same W2 nb 2 _ _ v2 r2, ?_, ?_, ?_, by rw [List.length_append, h.len, h8]; omega⟩, RfR.below (Array.getElem?_eq_some_iff.1 h.row).1 hg (fun j hj => (h.sts.lt j hj).1) _ _, cell_of_row _ _ 2 _ _ _ r2, frozen_of_row r2 2⟩
  · have := h.ids.kept hg (own_tags h.sts h.ids (by decide)); exact this.kept hs (own_off this)
  · have := h.vals.kept hg (own_tags h.sts h.vals (by decide)); exact this.kept hs (own_off this)
  · rw [show stV (st ++ s8) = stV st ++ stV s8 from by simp [stV]]; exact ho.kept hs (own_off ho)
theorem rf_base {W : World} {b k n : Nat} {t : TypeId} {v : Value} {xs : List Value} (h : W.ownsRow b t k v n xs) : W.ownsRow 0 t k v n xs := by
  obtain ⟨h1, h2 | ⟨g, cap, cur, e, _, r⟩⟩ := h
  · exact ⟨h1, .inl h2⟩
  · exact ⟨h1, .inr ⟨g, cap, cur, e, Nat.zero_le _, r⟩⟩
/-- It is a map of the reference once all three lists are as long. -/
theorem RfR.done {W : World} {nb : Nat} {vi vv vs : Value} {N : Es} {st : List Int} (h : RfR W nb vi vv vs N N N.length st) (hr : Rises N) : RfAt W nb N := ⟨vi, vv, vs, st, h.row, rf_base h.ids, rf_base h.vals, rf_base h.sts, h.len, hr⟩
theorem infoU4 : (Tryd.prog.info? 27).map (fun i => (i.zero, i.size, i.bytes)) = some (some (.int .u32 0), 1, 4) := by kernel_rfl
theorem infoV2 : (Tryd.prog.info? 29).map (fun i => (i.zero, i.size, i.bytes)) = some (some (.agg #[.int .i64 0, .int .i64 0]), 2, 16) := by kernel_rfl
theorem infoA8 : (Tryd.prog.info? 87).map (fun i => (i.zero, i.size, i.bytes)) = some (some (.agg #[.int .i64 0, .int .i64 0, .int .i64 0, .int .i64 0, .int .i64 0, .int .i64 0, .int .i64 0, .int .i64 0]), 8, 64) := by kernel_rfl

end Go.Proofs.YtmppgcijbeipfaaDoor
