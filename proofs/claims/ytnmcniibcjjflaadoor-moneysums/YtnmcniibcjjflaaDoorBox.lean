import Derived.Test.YtnmcniibcjjflaaDoorWorld
namespace Go.Proofs.YtnmcniibcjjflaaDoor
open Go.RowKit

/-- A variable of two cells. -/
def Box (w : World) (b : Nat) (x y : Value) : Prop := w.cell? ⟨b, 0, none⟩ = some x ∧ w.cell? ⟨b, 1, none⟩ = some y ∧ w.frozen? ⟨b, 0, none⟩ = false ∧ w.frozen? ⟨b, 1, none⟩ = false

theorem Box.lt {w : World} {b : Nat} {x y : Value} (h : Box w b x y) : b < w.heap.size := World.block_lt_of_cell? _ _ h.1

theorem Box.later {w w' : World} {b : Nat} {x y : Value} (h : Box w b x y) (hb : Below w.heap.size w w') : Box w' b x y := by
  have hl := h.lt
  obtain ⟨h0, h1, h2, h3⟩ := h
  exact ⟨(hb.cell (p := ⟨b, 0, none⟩) hl).trans h0, (hb.cell (p := ⟨b, 1, none⟩) hl).trans h1, (hb.frozen (p := ⟨b, 0, none⟩) hl).trans h2, (hb.frozen (p := ⟨b, 1, none⟩) hl).trans h3⟩

theorem Box.alloc {w : World} {b : Nat} {x y : Value} (h : Box w b x y) (o : Obj) : Box (w.alloc o) b x y := h.later ((Below.refl _ _).alloc (Nat.le_refl _) _)

theorem Box.drew {w : World} {b : Nat} {x y : Value} (h : Box w b x y) : Box w.drew b x y := h.later (Below.refl _ _).drew
theorem Box.drewN {w : World} {b : Nat} {x y : Value} (h : Box w b x y) (n : Nat) : Box (w.drewN n) b x y := h.later (below_drewN (Below.refl _ _) n)

theorem Box.new (w : World) (x y : Value) (t : TypeId) : Box (w.alloc (.cells #[x, y] t)) w.heap.size x y := by
  refine ⟨?_, ?_, ?_, ?_⟩
  · rw [World.cell?_alloc_at _ _ _ _ rfl]; rfl
  · rw [World.cell?_alloc_at _ _ _ _ rfl]; rfl
  · exact World.frozen?_alloc_at _ _ _ _ rfl
  · exact World.frozen?_alloc_at _ _ _ _ rfl

theorem Box.of {w : World} {b c : Nat} {x y : Value} (h : Box w b x y) (e : b = c) : Box w c x y := e ▸ h

/-- A store into a block of its own leaves what was there. -/
theorem below_set {w X : World} (h : Below w.heap.size w X) {a : Addr} (ha : w.heap.size ≤ a.block) (v : Value) : Below w.heap.size w (X.setCell a v) := h.setCell ha v

end Go.Proofs.YtnmcniibcjjflaaDoor
