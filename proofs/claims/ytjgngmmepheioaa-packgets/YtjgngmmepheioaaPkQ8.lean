import Derived.Test.YtjgngmmepheioaaPkQ7
namespace Go.Proofs.Ytjgngmmepheioaa
open Go.RowKit

theorem len_le {α : Type} (f : α → List UInt8) (hf : ∀ x, 0 < (f x).length) : ∀ l : List α, l.length ≤ (l.flatMap f).length
  | [] => Nat.le_refl _
  | x :: l => by
    have h := len_le f hf l
    have h2 := hf x
    rw [List.flatMap_cons, List.length_append, List.length_cons]
    omega
theorem item_le {α : Type} (f : α → List UInt8) (l : List α) {i : Nat} (hi : i < l.length) : (f (l[i])).length ≤ (encL f l).length := by
  have h : l.flatMap f = (l.take i).flatMap f ++ (f (l[i]) ++ (l.drop (i + 1)).flatMap f) := by
    rw [← List.flatMap_cons, ← List.flatMap_append, ← List.drop_eq_getElem_cons hi, List.take_append_drop]
  unfold encL
  rw [h]
  simp only [List.length_append]
  omega
end Go.Proofs.Ytjgngmmepheioaa
