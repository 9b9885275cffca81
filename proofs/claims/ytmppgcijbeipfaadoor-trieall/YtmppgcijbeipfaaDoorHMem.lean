import Derived.Test.YtmppgcijbeipfaaDoorTRun
import Derived.Test.YtmppgcijbeipfaaDoorTOne
import Derived.BigQuiet
import Derived.Laws.AppendOwnNone
namespace Go.Proofs.YtmppgcijbeipfaaDoor
open Go.RowKit

abbrev Es := List (Nat × (Int × Int))

/-- A map by its entries. -/
def MapE (W : World) (b : Nat) (L : Es) : Prop := ∃ t, MapT W b t ∧ t.ents 7 0 = L
theorem MapE.later {W W' : World} {b : Nat} {L : Es} (h : MapE W b L) (hb : Below W.heap.size W W') : MapE W' b L := by
  obtain ⟨t, h1, h2⟩ := h
  exact ⟨t, h1.later hb, h2⟩

theorem grown_cell {W W' : World} {r : Option Nat} (hg : W.grownBy W' r) {b o : Nat} (hl : b < W.heap.size) (hne : r ≠ some b) : W'.cell? ⟨b, o, none⟩ = W.cell? ⟨b, o, none⟩ := by
  have := hg.block b hl hne.symm
  simp only [World.cell?, this]
/-- A row of maps. -/
def Maps (W : World) (g off : Nat) (vs : Nat → Nat) (Ls : List Es) : Prop := g < W.heap.size ∧ ∀ i (h : i < Ls.length), W.cell? ⟨g, off + i, none⟩ = some (.pointer (some ⟨vs i, 0, none⟩)) ∧ MapE W (vs i) Ls[i] ∧ Ls[i].length ≤ 200
theorem Maps.later {W W' : World} {g off : Nat} {vs : Nat → Nat} {Ls : List Es} (h : Maps W g off vs Ls) (hb : Below W.heap.size W W') : Maps W' g off vs Ls :=
  ⟨Nat.lt_of_lt_of_le h.1 hb.size, fun i hi => ⟨(hb.cell (p := ⟨g, off + i, none⟩) h.1).trans (h.2 i hi).1, (h.2 i hi).2.1.later hb, (h.2 i hi).2.2⟩⟩
theorem grown_below {w W W' : World} {hb : Nat} (h : Below w.heap.size w W) (hg : W.grownBy W' (some hb)) (hl : w.heap.size ≤ hb) : Below w.heap.size w W' := h.grown hg h.size (fun k hk => by cases hk; exact hl)

end Go.Proofs.YtmppgcijbeipfaaDoor
