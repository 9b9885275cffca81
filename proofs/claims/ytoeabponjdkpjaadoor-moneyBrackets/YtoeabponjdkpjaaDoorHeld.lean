import Derived.Test.YtoeabponjdkpjaaDoorBox
import Derived.Test.YtoeabponjdkpjaaDoorTakes
namespace Go.Proofs.YtoeabponjdkpjaaDoor
open Go.RowKit

/-- What a call leaves of two operands' boxes. -/
theorem keep2 {w0 X w1 : World} {b0 b1 : Nat} {x0 y0 x1 y1 : Value}
    (h : X.cell? ⟨b0, 0, none⟩ = some x0 ∧ X.cell? ⟨b0, 1, none⟩ = some y0 ∧ X.cell? ⟨b1, 0, none⟩ = some x1 ∧ X.cell? ⟨b1, 1, none⟩ = some y1 ∧ Kinds X ∧ Below w0.heap.size w0 X) (hb : Below X.heap.size X w1) :
    w1.cell? ⟨b0, 0, none⟩ = some x0 ∧ w1.cell? ⟨b0, 1, none⟩ = some y0 ∧ w1.cell? ⟨b1, 0, none⟩ = some x1 ∧ w1.cell? ⟨b1, 1, none⟩ = some y1 ∧ Kinds w1 ∧ Below w0.heap.size w0 w1 := by
  obtain ⟨h0, h1, h2, h3, hK, hB⟩ := h
  have l0 := World.block_lt_of_cell? _ _ h0
  have l1 := World.block_lt_of_cell? _ _ h2
  exact ⟨(hb.cell (p := ⟨b0, 0, none⟩) l0).trans h0, (hb.cell (p := ⟨b0, 1, none⟩) l0).trans h1, (hb.cell (p := ⟨b1, 0, none⟩) l1).trans h2, (hb.cell (p := ⟨b1, 1, none⟩) l1).trans h3, hK.later hb, below_step hB hb⟩

/-- A call by its contract, the boxes kept. -/
theorem held2 {w0 X : World} {b0 b1 : Nat} {x0 y0 x1 y1 : Value} {f : Nat} {args : Array Value} {R : Ending}
    (h : X.cell? ⟨b0, 0, none⟩ = some x0 ∧ X.cell? ⟨b0, 1, none⟩ = some y0 ∧ X.cell? ⟨b1, 0, none⟩ = some x1 ∧ X.cell? ⟨b1, 1, none⟩ = some y1 ∧ Kinds X ∧ Below w0.heap.size w0 X)
    (hc : Kinds X → Calls Tryd.prog f args X fun e w' => e = R ∧ Below X.heap.size X w') :
    Calls Tryd.prog f args X fun e w1 => e = R ∧ (w1.cell? ⟨b0, 0, none⟩ = some x0 ∧ w1.cell? ⟨b0, 1, none⟩ = some y0 ∧ w1.cell? ⟨b1, 0, none⟩ = some x1 ∧ w1.cell? ⟨b1, 1, none⟩ = some y1 ∧ Kinds w1 ∧ Below w0.heap.size w0 w1) :=
  (hc h.2.2.2.2.1).mono fun _ _ ⟨he, hb⟩ => ⟨he, keep2 h hb⟩

theorem first2 (w : World) (k0 n0 k1 n1 : Int) (hK : Kinds w) (X : World) (hX : X = (w.alloc (.cells #[.int .i64 k0, .int .i64 n0] 24)).alloc (.cells #[.int .i64 k1, .int .i64 n1] 24)) :
    X.cell? ⟨w.heap.size, 0, none⟩ = some (.int .i64 k0) ∧ X.cell? ⟨w.heap.size, 1, none⟩ = some (.int .i64 n0) ∧ X.cell? ⟨w.heap.size + 1, 0, none⟩ = some (.int .i64 k1) ∧ X.cell? ⟨w.heap.size + 1, 1, none⟩ = some (.int .i64 n1) ∧ Kinds X ∧ Below w.heap.size w X := by
  subst hX
  have h0 := (Box.new w (.int .i64 k0) (.int .i64 n0) 24).alloc (.cells #[.int .i64 k1, .int .i64 n1] 24)
  have h1 : Box ((w.alloc (.cells #[.int .i64 k0, .int .i64 n0] 24)).alloc (.cells #[.int .i64 k1, .int .i64 n1] 24)) (w.heap.size + 1) (.int .i64 k1) (.int .i64 n1) := (Box.new (w.alloc (.cells #[.int .i64 k0, .int .i64 n0] 24)) (.int .i64 k1) (.int .i64 n1) 24).of (by simp)
  exact ⟨h0.1, h0.2.1, h1.1, h1.2.1, (hK.alloc _).alloc _, ((Below.refl _ _).alloc (Nat.le_refl _) _).alloc (by simp) _⟩

/-- The greater one, the lesser one, the one in between: kept from the walk's own rewriting. -/
def IsMax (a b m : Int) : Prop := (a < b ∧ m = b) ∨ (¬ a < b ∧ m = a)
def IsMin (a b m : Int) : Prop := (b < a ∧ m = b) ∨ (¬ b < a ∧ m = a)
def IsClamp (x l h m : Int) : Prop := (x < l ∧ m = l) ∨ (¬ x < l ∧ h < x ∧ m = h) ∨ (¬ x < l ∧ ¬ h < x ∧ m = x)
theorem isMax_ex (a b : Int) : ∃ m, IsMax a b m := by
  by_cases h : a < b
  · exact ⟨_, .inl ⟨h, rfl⟩⟩
  · exact ⟨_, .inr ⟨h, rfl⟩⟩
theorem isMin_ex (a b : Int) : ∃ m, IsMin a b m := by
  by_cases h : b < a
  · exact ⟨_, .inl ⟨h, rfl⟩⟩
  · exact ⟨_, .inr ⟨h, rfl⟩⟩
theorem isClamp_ex (x l h : Int) : ∃ m, IsClamp x l h m := by
  by_cases c : x < l
  · exact ⟨_, .inl ⟨c, rfl⟩⟩
  · by_cases d : h < x
    · exact ⟨_, .inr (.inl ⟨c, d, rfl⟩)⟩
    · exact ⟨_, .inr (.inr ⟨c, d, rfl⟩)⟩

theorem any_1 (k : Int) : ([(1 : Int), (2 : Int)].any fun z => k == z) = takesB k 1 := by rw [takes_1, Bool.eq_iff_iff]; simp
theorem any_2 (k : Int) : ([(1 : Int), (2 : Int), (4 : Int)].any fun z => k == z) = takesB k 2 := by rw [takes_2, Bool.eq_iff_iff]; simp

/-- The same for three operands. -/
theorem keep3 {w0 X w1 : World} {b0 b1 b2 : Nat} {x0 y0 x1 y1 x2 y2 : Value}
    (h : X.cell? ⟨b0, 0, none⟩ = some x0 ∧ X.cell? ⟨b0, 1, none⟩ = some y0 ∧ X.cell? ⟨b1, 0, none⟩ = some x1 ∧ X.cell? ⟨b1, 1, none⟩ = some y1 ∧ X.cell? ⟨b2, 0, none⟩ = some x2 ∧ X.cell? ⟨b2, 1, none⟩ = some y2 ∧ Kinds X ∧ Below w0.heap.size w0 X) (hb : Below X.heap.size X w1) :
    w1.cell? ⟨b0, 0, none⟩ = some x0 ∧ w1.cell? ⟨b0, 1, none⟩ = some y0 ∧ w1.cell? ⟨b1, 0, none⟩ = some x1 ∧ w1.cell? ⟨b1, 1, none⟩ = some y1 ∧ w1.cell? ⟨b2, 0, none⟩ = some x2 ∧ w1.cell? ⟨b2, 1, none⟩ = some y2 ∧ Kinds w1 ∧ Below w0.heap.size w0 w1 := by
  obtain ⟨h0, h1, h2, h3, h4, h5, hK, hB⟩ := h
  have l0 := World.block_lt_of_cell? _ _ h0
  have l1 := World.block_lt_of_cell? _ _ h2
  have l2 := World.block_lt_of_cell? _ _ h4
  exact ⟨(hb.cell (p := ⟨b0, 0, none⟩) l0).trans h0, (hb.cell (p := ⟨b0, 1, none⟩) l0).trans h1, (hb.cell (p := ⟨b1, 0, none⟩) l1).trans h2, (hb.cell (p := ⟨b1, 1, none⟩) l1).trans h3, (hb.cell (p := ⟨b2, 0, none⟩) l2).trans h4, (hb.cell (p := ⟨b2, 1, none⟩) l2).trans h5, hK.later hb, below_step hB hb⟩

theorem held3 {w0 X : World} {b0 b1 b2 : Nat} {x0 y0 x1 y1 x2 y2 : Value} {f : Nat} {args : Array Value} {R : Ending}
    (h : X.cell? ⟨b0, 0, none⟩ = some x0 ∧ X.cell? ⟨b0, 1, none⟩ = some y0 ∧ X.cell? ⟨b1, 0, none⟩ = some x1 ∧ X.cell? ⟨b1, 1, none⟩ = some y1 ∧ X.cell? ⟨b2, 0, none⟩ = some x2 ∧ X.cell? ⟨b2, 1, none⟩ = some y2 ∧ Kinds X ∧ Below w0.heap.size w0 X)
    (hc : Kinds X → Calls Tryd.prog f args X fun e w' => e = R ∧ Below X.heap.size X w') :
    Calls Tryd.prog f args X fun e w1 => e = R ∧ (w1.cell? ⟨b0, 0, none⟩ = some x0 ∧ w1.cell? ⟨b0, 1, none⟩ = some y0 ∧ w1.cell? ⟨b1, 0, none⟩ = some x1 ∧ w1.cell? ⟨b1, 1, none⟩ = some y1 ∧ w1.cell? ⟨b2, 0, none⟩ = some x2 ∧ w1.cell? ⟨b2, 1, none⟩ = some y2 ∧ Kinds w1 ∧ Below w0.heap.size w0 w1) :=
  (hc h.2.2.2.2.2.2.1).mono fun _ _ ⟨he, hb⟩ => ⟨he, keep3 h hb⟩

theorem first3 (w : World) (k0 n0 k1 n1 k2 n2 : Int) (hK : Kinds w) (X : World) (hX : X = ((w.alloc (.cells #[.int .i64 k0, .int .i64 n0] 24)).alloc (.cells #[.int .i64 k1, .int .i64 n1] 24)).alloc (.cells #[.int .i64 k2, .int .i64 n2] 24)) :
    X.cell? ⟨w.heap.size, 0, none⟩ = some (.int .i64 k0) ∧ X.cell? ⟨w.heap.size, 1, none⟩ = some (.int .i64 n0) ∧ X.cell? ⟨w.heap.size + 1, 0, none⟩ = some (.int .i64 k1) ∧ X.cell? ⟨w.heap.size + 1, 1, none⟩ = some (.int .i64 n1) ∧ X.cell? ⟨w.heap.size + 1 + 1, 0, none⟩ = some (.int .i64 k2) ∧ X.cell? ⟨w.heap.size + 1 + 1, 1, none⟩ = some (.int .i64 n2) ∧ Kinds X ∧ Below w.heap.size w X := by
  subst hX
  have h01 := first2 w k0 n0 k1 n1 hK _ rfl
  have h := keep2 h01 ((Below.refl _ _).alloc (Nat.le_refl _) (.cells #[.int .i64 k2, .int .i64 n2] 24))
  have h2 : Box (((w.alloc (.cells #[.int .i64 k0, .int .i64 n0] 24)).alloc (.cells #[.int .i64 k1, .int .i64 n1] 24)).alloc (.cells #[.int .i64 k2, .int .i64 n2] 24)) (w.heap.size + 1 + 1) (.int .i64 k2) (.int .i64 n2) := (Box.new ((w.alloc (.cells #[.int .i64 k0, .int .i64 n0] 24)).alloc (.cells #[.int .i64 k1, .int .i64 n1] 24)) (.int .i64 k2) (.int .i64 n2) 24).of (by simp)
  exact ⟨h.1, h.2.1, h.2.2.1, h.2.2.2.1, h2.1, h2.2.1, h.2.2.2.2.1, h.2.2.2.2.2⟩

end Go.Proofs.YtoeabponjdkpjaaDoor
