import Derived.Test.YtoeabponjdkpjaaDoorHeld
import Derived.Deep.RegionHeld3
namespace Go.Proofs.YtoeabponjdkpjaaDoor
open Go.RowKit

/-- One operand's box. -/
theorem keep1 {w0 X w1 : World} {b0 : Nat} {x0 y0 : Value}
    (h : X.cell? ⟨b0, 0, none⟩ = some x0 ∧ X.cell? ⟨b0, 1, none⟩ = some y0 ∧ Kinds X ∧ Below w0.heap.size w0 X) (hb : Below X.heap.size X w1) :
    w1.cell? ⟨b0, 0, none⟩ = some x0 ∧ w1.cell? ⟨b0, 1, none⟩ = some y0 ∧ Kinds w1 ∧ Below w0.heap.size w0 w1 := by
  obtain ⟨h0, h1, hK, hB⟩ := h
  have l0 := World.block_lt_of_cell? _ _ h0
  exact ⟨(hb.cell (p := ⟨b0, 0, none⟩) l0).trans h0, (hb.cell (p := ⟨b0, 1, none⟩) l0).trans h1, hK.later hb, below_step hB hb⟩

theorem held1 {w0 X : World} {b0 : Nat} {x0 y0 : Value} {f : Nat} {args : Array Value} {R : Ending}
    (h : X.cell? ⟨b0, 0, none⟩ = some x0 ∧ X.cell? ⟨b0, 1, none⟩ = some y0 ∧ Kinds X ∧ Below w0.heap.size w0 X)
    (hc : Kinds X → Calls Tryd.prog f args X fun e w' => e = R ∧ Below X.heap.size X w') :
    Calls Tryd.prog f args X fun e w1 => e = R ∧ (w1.cell? ⟨b0, 0, none⟩ = some x0 ∧ w1.cell? ⟨b0, 1, none⟩ = some y0 ∧ Kinds w1 ∧ Below w0.heap.size w0 w1) :=
  (hc h.2.2.1).mono fun _ _ ⟨he, hb⟩ => ⟨he, keep1 h hb⟩

theorem first1 (w : World) (k0 n0 : Int) (hK : Kinds w) (X : World) (hX : X = w.alloc (.cells #[.int .i64 k0, .int .i64 n0] 24)) :
    X.cell? ⟨w.heap.size, 0, none⟩ = some (.int .i64 k0) ∧ X.cell? ⟨w.heap.size, 1, none⟩ = some (.int .i64 n0) ∧ Kinds X ∧ Below w.heap.size w X := by
  subst hX
  have h0 := Box.new w (.int .i64 k0) (.int .i64 n0) 24
  exact ⟨h0.1, h0.2.1, hK.alloc _, (Below.refl _ _).alloc (Nat.le_refl _) _⟩

end Go.Proofs.YtoeabponjdkpjaaDoor
