import Derived.Test.YtjgngmmepheioaaPkQ6
namespace Go.Proofs.Ytjgngmmepheioaa
open Go.RowKit

theorem RowR.item {α : Type} {D : Elt α} {W : World} {S : Nat → Prop} {xs : List α} {g o : Nat} (h : RowR D W S xs (some ⟨g, o, none⟩)) {i : Nat} (hi : i < xs.length) : ∃ cs : List Value, cs.length = D.k ∧ S g ∧ D.E W S xs[i] cs ∧ ∀ j, j < D.k → W.cell? ⟨g, o + i * D.k + j, none⟩ = cs[j]? := by
  rcases h with h | ⟨g', o', cs, he, hS, _, hc, hE⟩
  · rw [h] at hi; simp at hi
  · injection he with he
    injection he with h1 h2
    subst h1 h2
    have hl := hE.1
    have hE := hE.2 i hi
    have hlen := D.len hE
    refine ⟨_, hlen, hS, hE, fun j hj => ?_⟩
    have hm : i * D.k + D.k ≤ xs.length * D.k := by rw [← Nat.succ_mul]; exact Nat.mul_le_mul_right _ hi
    rw [Nat.add_assoc, hc (i * D.k + j) (by rw [hl]; omega), List.getElem?_take, if_pos hj, List.getElem?_drop]

theorem take_le {α : Type} (f : α → List UInt8) (l : List α) (i : Nat) : (encN l.length ++ (l.take i).flatMap f).length ≤ (encL f l).length := by
  have h : l.flatMap f = (l.take i).flatMap f ++ (l.drop i).flatMap f := by rw [← List.flatMap_append, List.take_append_drop]
  unfold encL
  rw [h]
  simp only [List.length_append]
  omega
end Go.Proofs.Ytjgngmmepheioaa
