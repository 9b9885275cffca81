import Derived.Test.YtnmcniibcjjflaaDoorJoin3
import Derived.Test.YtnmcniibcjjflaaDoorJoin4
/- THE PLAIN MATHEMATICS of layer 1, more: the operands' faults, the kinds. -/
namespace Go.Proofs.YtnmcniibcjjflaaDoor
namespace M

/-- P1.2: the first fault or blank of the operands. -/
def mish : List (Int × Int) → Option (Int × Int)
  | [] => none
  | (k, n) :: r => if valid k n = false then some (6, 5) else if k = 6 then some (6, n) else if k = 0 then some (6, 3) else mish r

theorem mish_cons_bad {k n : Int} {r : List (Int × Int)} (h : valid k n = false) : mish ((k, n) :: r) = some (6, 5) := by simp [mish, h]
theorem mish_cons_fault {n : Int} {r : List (Int × Int)} (h : valid 6 n = true) : mish ((6, n) :: r) = some (6, n) := by simp [mish, h]
theorem mish_cons_blank {n : Int} {r : List (Int × Int)} (h : valid 0 n = true) : mish ((0, n) :: r) = some (6, 3) := by simp [mish, h]
theorem mish_cons_ok {k n : Int} {r : List (Int × Int)} (h : valid k n = true) (h6 : k ≠ 6) (h0 : k ≠ 0) : mish ((k, n) :: r) = mish r := by simp [mish, h, h6, h0]

/-- What a pair of results says of it. -/
def vk : Option (Int × Int) → Int | none => 0 | some x => x.1
def vn : Option (Int × Int) → Int | none => 0 | some x => x.2

theorem drop_at {l : List (Int × Int)} {j : Nat} (h : j < l.length) : l.drop j = ((l.getD j (0, 0)).1, (l.getD j (0, 0)).2) :: l.drop (j + 1) := by
  rw [List.drop_eq_getElem_cons h]
  congr 1
  rw [List.getD_eq_getElem?_getD, List.getElem?_eq_getElem h]
  rfl

/-- The fault of operands that must be of one kind, one that bears the use (t). -/
def refuse (t : Bool) (k n : Int) (os : List (Int × Int)) : Option (Int × Int) :=
  match mish [(k, n)] with
  | some v => some v
  | none => match mish os with
    | some v => some v
    | none => if t = false then some (6, 5) else if os.all (fun x => x.1 == k) then none else some (6, 5)

/-- A value, or Fault Over. -/
def fit (near : Bool) (k n : Int) : Int × Int := if near = true ∧ valid k n = true then (k, n) else (6, 1)

theorem fit_ok {k n : Int} (h : valid k n = true) : fit true k n = (k, n) := by simp [fit, h]
theorem fit_over {b : Bool} {k n : Int} (h : valid k n = false) : fit b k n = (6, 1) := by simp [fit, h]
theorem fit_far {k n : Int} : fit false k n = (6, 1) := by simp [fit]

/-- All of one kind, and that among the kinds? -/
def alike (k : Int) (vs : List (Int × Int)) (ks : List Int) : Bool := ks.any (fun x => k == x) && vs.all (fun x => x.1 == k)

end M
end Go.Proofs.YtnmcniibcjjflaaDoor


namespace Go.Proofs.YtnmcniibcjjflaaDoor
open Go.RowKit

/-- A variable of two cells. -/
def Box (w : World) (b : Nat) (x y : Value) : Prop := w.cell? ⟨b, 0, none⟩ = some x ∧ w.cell? ⟨b, 1, none⟩ = some y ∧ w.frozen? ⟨b, 0, none⟩ = false ∧ w.frozen? ⟨b, 1, none⟩ = false

theorem Box.lt {w : World} {b : Nat} {x y : Value} (h : Box w b x y) : b < w.heap.size := World.block_lt_of_cell? _ _ h.1

theorem Box.later {w w' : World} {b : Nat} {x y : Value} (h : Box w b x y) (hb : Below w.heap.size w w') : Box w' b x y := by
  have hl := h.lt
  obtain ⟨h0, h1, h2, h3⟩ := h
  exact ⟨(hb.cell (p := ⟨b, 0, none⟩) hl).trans h0, (hb.cell (p := ⟨b, 1, none⟩) hl).trans h1, (hb.frozen (p := ⟨b, 0, none⟩) hl).trans h2, (hb.frozen (p := ⟨b, 1, none⟩) hl).trans h3⟩

theorem Box.alloc {w : World} {b : Nat} {x y : Value} (h : Box w b x y) (o : Obj) : Box (w.alloc o) b x y := h.later ((Below.refl _ _).alloc (Nat.le_refl _) _)

theorem Box.drew {w : World} {b : Nat} {x y : Value} (h : Box w b x y) : Box w.drew b x y := h.later (Below.refl _ _).drew
theorem Box.drewN {w : World} {b : Nat} {x y : Value} (h : Box w b x y) (n : Nat) : Box (w.drewN n) b x y := h.later (below_drewN (Below.refl _ _) n)

theorem Box.new (w : World) (x y : Value) (t : TypeId) : Box (w.alloc (.cells #[x, y] t)) w.heap.size x y := by
  refine ⟨?_, ?_, ?_, ?_⟩
  · rw [World.cell?_alloc_at _ _ _ _ rfl]; rfl
  · rw [World.cell?_alloc_at _ _ _ _ rfl]; rfl
  · exact World.frozen?_alloc_at _ _ _ _ rfl
  · exact World.frozen?_alloc_at _ _ _ _ rfl

theorem Box.of {w : World} {b c : Nat} {x y : Value} (h : Box w b x y) (e : b = c) : Box w c x y := e ▸ h

/-- A store into a block of its own leaves what was there. -/
theorem below_set {w X : World} (h : Below w.heap.size w X) {a : Addr} (ha : w.heap.size ≤ a.block) (v : Value) : Below w.heap.size w (X.setCell a v) := h.setCell ha v

end Go.Proofs.YtnmcniibcjjflaaDoor
