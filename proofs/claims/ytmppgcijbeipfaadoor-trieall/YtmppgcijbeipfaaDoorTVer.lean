import Derived.Test.YtmppgcijbeipfaaDoorTOne2
namespace Go.Proofs.YtmppgcijbeipfaaDoor
open Go.RowKit

/-- A map that was held, the tree of it, and the list that was laid beside it. -/
abbrev Ver := Nat × (Tr × Value)
def VerAt (W : World) (x : Ver) : Prop := MapT W x.1 x.2.1 ∧ EntsAt W x.2.2 (x.2.1.ents 7 0) ∧ ∀ g, x.2.2.ownBlock = some g → g < W.heap.size
/-- The block r is no part of it. -/
def VerOff (r : Nat) (x : Ver) : Prop := x.1 ≠ r ∧ x.2.1.avoid r ∧ x.2.2.ownBlock ≠ some r

theorem ents_grown {W W' : World} {row : Option Nat} {v : Value} {L : List (Nat × (Int × Int))} (hg : W.grownBy W' row) (h : EntsAt W v L) (ha : ∀ r, row = some r → v.ownBlock ≠ some r) : EntsAt W' v L := by
  obtain ⟨a, cap, rfl, h | ⟨g, off, rfl, hl, hc⟩⟩ := h
  · exact ⟨a, cap, rfl, .inl h⟩
  · have hb : W'.heap[g]? = W.heap[g]? := hg.block g hl (fun e => ha g e.symm rfl)
    have e : ∀ j, W'.cell? ⟨g, j, none⟩ = W.cell? ⟨g, j, none⟩ := fun j => World.cell?_of_block hb
    exact ⟨_, cap, rfl, .inr ⟨g, off, rfl, Nat.lt_of_lt_of_le hl hg.size, fun i hi => ⟨(e _).trans (hc i hi).1, (e _).trans (hc i hi).2.1, (e _).trans (hc i hi).2.2⟩⟩⟩

theorem VerAt.later {W W' : World} {x : Ver} (h : VerAt W x) (hb : Below W.heap.size W W') : VerAt W' x :=
  ⟨h.1.later hb, h.2.1.later hb, fun g hg => Nat.lt_of_lt_of_le (h.2.2 g hg) hb.size⟩
theorem VerAt.grown {W W' : World} {row : Option Nat} {x : Ver} (h : VerAt W x) (hg : W.grownBy W' row) (ha : ∀ r, row = some r → VerOff r x) : VerAt W' x :=
  ⟨map_grown hg h.1 (fun r hr => ⟨(ha r hr).1, (ha r hr).2.1⟩), ents_grown hg h.2.1 (fun r hr => (ha r hr).2.2), fun g hr => Nat.lt_of_lt_of_le (h.2.2 g hr) hg.size⟩

theorem VerAt.off_new {W : World} {x : Ver} (h : VerAt W x) {r : Nat} (hr : W.heap.size ≤ r) : VerOff r x :=
  ⟨by have := h.1.1; omega, lies_avoid hr h.1.2.2.2.1, fun e => by have := h.2.2 r e; omega⟩

/-- The empty map, and no list. -/
theorem ver_empty {W : World} {mb : Nat} (h : MapT W mb .nil) : VerAt W (mb, .nil, .slice none 0 0) :=
  ⟨h, ⟨none, 0, rfl, .inl rfl⟩, fun g hg => by cases hg⟩

/-- The blocks of the two rows that grow: new where they are not the old ones. -/
theorem offs_grown {W : World} {vs : List Ver} {v v' : Value} (hA : ∀ x ∈ vs, VerAt W x) (h : ∀ r, v.ownBlock = some r → ∀ x ∈ vs, VerOff r x) (hn : v'.ownBlock = v.ownBlock ∨ v'.ownBlock = some W.heap.size) : ∀ r, v'.ownBlock = some r → ∀ x ∈ vs, VerOff r x := by
  intro r hr x hx
  rcases hn with e | e
  · exact h r (e ▸ hr) x hx
  · rw [e] at hr
    exact (hA x hx).off_new (Nat.le_of_eq (Option.some.inj hr))

/-- What is made of a version goes through no block that the version does not, but for new ones. -/
theorem off_made {w : World} {x : Ver} {mb' : Nat} {t' : Tr} {ev : Value} {r : Nat} (hr : r < w.heap.size) (hx : VerOff r x) (hf : Fresh w x.1 x.2.1 mb' t') (he : ∀ g, ev.ownBlock = some g → w.heap.size ≤ g) : VerOff r (mb', t', ev) :=
  have h := hf r hr (Ne.symm hx.1) hx.2.1
  ⟨h.1, h.2, fun e => by have := he r e; omega⟩

/-- The two rows' cells. -/
def mapsC (vs : List Ver) : List Value := vs.map fun x => .pointer (some ⟨x.1, 0, none⟩)
def heldC (vs : List Ver) : List Value := vs.map fun x => x.2.2
theorem mapsC_len (vs : List Ver) : (mapsC vs).length = vs.length := by simp [mapsC]
theorem heldC_len (vs : List Ver) : (heldC vs).length = vs.length := by simp [heldC]
theorem mapsC_at (vs : List Ver) {i : Nat} (h : i < vs.length) : (mapsC vs)[i]? = some (.pointer (some ⟨(vs[i]).1, 0, none⟩)) := by simp [mapsC, h]
theorem heldC_at (vs : List Ver) {i : Nat} (h : i < vs.length) : (heldC vs)[i]? = some (vs[i]).2.2 := by simp [heldC, h]
theorem mapsC_app (vs : List Ver) (x : Ver) : mapsC (vs ++ [x]) = mapsC vs ++ [.pointer (some ⟨x.1, 0, none⟩)] := by simp [mapsC]
theorem heldC_app (vs : List Ver) (x : Ver) : heldC (vs ++ [x]) = heldC vs ++ [x.2.2] := by simp [heldC]

end Go.Proofs.YtmppgcijbeipfaaDoor
