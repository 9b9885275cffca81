import Derived.Test.YtjgngmmepheioaaPxG
namespace Go.Proofs.Ytjgngmmepheioaa
open Go.RowKit

theorem set_id {X : World} {b i : Nat} {v : Value} (h : X.cell? ⟨b, i, none⟩ = some v) : X.setCell ⟨b, i, none⟩ v = X := by
  have hb := World.block_lt_of_cell? _ _ h
  have hm : X.heap.modify b (fun | .cells c elem frozen => .cells (if (⟨b, i, none⟩ : Addr).spot.isSome then c else c.setIfInBounds i v) elem frozen | o => o) = X.heap := by
    apply Array.ext
    · simp
    · intro k h1 h2
      rw [Array.getElem_modify]
      split
      · rename_i e
        subst e
        unfold World.cell? at h
        simp only [Array.getElem?_eq_getElem h2] at h
        generalize X.heap[b] = o at h ⊢
        cases o with
        | cells c e f =>
          simp only at h ⊢
          congr 1
          simp at h
          apply Array.ext
          · simp
          · intro j hj1 hj2
            simp only [Option.isSome_none, Bool.false_eq_true, if_false] at hj1 ⊢
            rw [Array.getElem_setIfInBounds (by simpa using hj2)]
            split
            · rename_i e
              subst e
              rw [Array.getElem?_eq_getElem hj2] at h
              exact (Option.some.inj h).symm
            · rfl
        | _ => rfl
      · rfl
  exact congrArg (fun hh => { X with heap := hh }) hm
/-- A struct in a block of its own. -/
def Bx (W : World) (b : Nat) (vs : List Value) : Prop := b < W.heap.size ∧ (∀ j, j < vs.length → W.cell? ⟨b, j, none⟩ = vs[j]?) ∧ ∀ j, W.frozen? ⟨b, j, none⟩ = false
theorem bx_new (W : World) (a : Array Value) (t : TypeId) : Bx (W.alloc (.cells a t)) W.heap.size a.toList := ⟨by simp, fun j _ => by simp, fun j => World.frozen?_alloc_new _ _ _ _⟩
theorem Bx.kept {W W' : World} {b : Nat} {vs : List Value} {r : Option Nat} (h : Bx W b vs) (hg : W.grownBy W' r) (hr : some b ≠ r) : Bx W' b vs := ⟨Nat.lt_of_lt_of_le h.1 hg.size, fun j hj => (gr_cell hg h.1 hr j).trans (h.2.1 j hj), fun j => (gr_frozen hg h.1 hr j).trans (h.2.2 j)⟩
theorem Bx.set {W : World} {b : Nat} {vs : List Value} (h : Bx W b vs) (i : Nat) (v : Value) : Bx (W.setCell ⟨b, i, none⟩ v) b (vs.set i v) := by
  refine ⟨Nat.lt_of_lt_of_le h.1 (gr_set W b i v).size, fun j hj => ?_, fun j => by rw [World.frozen?_setCell]; exact h.2.2 j⟩
  rw [List.length_set] at hj
  by_cases e : i = j
  · subst e
    rw [World.cell?_setCell_same _ _ _ (u := vs[i]) ((h.2.1 i hj).trans (List.getElem?_eq_getElem hj)), List.getElem?_set_self hj]
  · rw [World.cell?_setCell_other _ _ _ _ (fun e2 => e (by cases e2; rfl)), h.2.1 j hj, List.getElem?_set_ne e]
/-- A call of the reader, and what else stays. -/
theorem RS.setO {c : Rc} {W : World} {at_ ft er b i : Nat} {v : Value} {lo : Nat} (h : RS c W at_ ft er) (hb : lo ≤ b) (hr : c.r < lo) (hW : c.l ≠ [] → ∀ b off, c.a = some ⟨b, off, none⟩ → b < lo) : RS c (W.setCell ⟨b, i, none⟩ v) at_ ft er :=
  h.other (gr_set W b i v) (by intro e; injection e with e; omega) (fun h0 b2 off ha e => by
    have := hW h0 b2 off ha
    injection e with e
    omega)
theorem gr_setO {W W' : World} {r b i : Nat} {v : Value} (h : W.grownBy W' (some r)) (hlo : W.heap.size ≤ b) : W.grownBy (W'.setCell ⟨b, i, none⟩ v) (some r) := h.andThen (gr_set W' b i v) (fun j hj => by
  injection hj with hj
  exact .inl (by omega))

end Go.Proofs.Ytjgngmmepheioaa
