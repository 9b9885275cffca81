import Derived.Test.YtkojgbfocdefnaaTRun
namespace Go.Proofs.Ytkojgbfocdefnaa
open Go.RowKit

theorem own_cell3 {w : World} {base g cap n : Nat} {L : List (Nat × (Int × Int))} (h : w.ownsRow base 98 3 (.slice (some ⟨g, 0, none⟩) n cap) n (flat3 L)) (j : Nat) (u : Value) (hj : (flat3 L)[j]? = some u) : w.cell? ⟨g, j, none⟩ = some u := by
  have hl : j < (flat3 L).length := (List.getElem?_eq_some_iff.1 hj).1
  exact (h.cellAt j (by rw [h.1] at hl; omega)).trans hj

/-- What holds while the last line of known is looked at. -/
abbrev KnownS (W : World) (vB g bm bn : Nat) (t : Tr) (X : World) : Prop := X.cell? ⟨vB, 0, none⟩ = some (.int .i64 1) ∧ X.cell? ⟨vB, 1, none⟩ = some (.int .i64 5) ∧ X.cell? ⟨g, 0, none⟩ = some (.int .u32 7) ∧ MapT X bm .nil ∧ MapT X bn t ∧ Below W.heap.size W X
theorem KnownS.later {W : World} {vB g bm bn : Nat} {t : Tr} {X Y : World} (h : KnownS W vB g bm bn t X) (hb : Below X.heap.size X Y) : KnownS W vB g bm bn t Y := by
  obtain ⟨h0, h1, h2, h3, h4, h5⟩ := h
  have l0 := World.block_lt_of_cell? _ _ h0
  have l2 := World.block_lt_of_cell? _ _ h2
  exact ⟨(hb.cell (p := ⟨vB, 0, none⟩) l0).trans h0, (hb.cell (p := ⟨vB, 1, none⟩) l0).trans h1, (hb.cell (p := ⟨g, 0, none⟩) l2).trans h2, h3.later hb, h4.later hb, below_step h5 hb⟩

end Go.Proofs.Ytkojgbfocdefnaa
