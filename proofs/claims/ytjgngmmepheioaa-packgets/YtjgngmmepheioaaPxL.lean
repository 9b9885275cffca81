import Derived.Test.YtjgngmmepheioaaPxR2
namespace Go.Proofs.Ytjgngmmepheioaa
open Go.RowKit

/-- How a thing lies in its cells: E says it, of blocks of which S is true; k cells. -/
structure Elt (α : Type) where
  k : Nat
  E : World → (Nat → Prop) → α → List Value → Prop
  len : ∀ {W S x cs}, E W S x cs → cs.length = k
  fr : ∀ {W W' : World} {S x cs}, E W S x cs → W.heap.size ≤ W'.heap.size → (∀ b, S b → b < W.heap.size → W'.heap[b]? = W.heap[b]?) → E W' S x cs
  mo : ∀ {W : World} {S S' : Nat → Prop} {x cs}, E W S x cs → (∀ b, b < W.heap.size → S b → S' b) → E W S' x cs
def Elems {α : Type} (D : Elt α) (W : World) (S : Nat → Prop) (xs : List α) (cs : List Value) : Prop := cs.length = xs.length * D.k ∧ ∀ i (h : i < xs.length), D.E W S xs[i] ((cs.drop (i * D.k)).take D.k)
theorem Elems.fr {α : Type} {D : Elt α} {W W' : World} {S : Nat → Prop} {xs : List α} {cs : List Value} (h : Elems D W S xs cs) (hs : W.heap.size ≤ W'.heap.size) (hb : ∀ b, S b → b < W.heap.size → W'.heap[b]? = W.heap[b]?) : Elems D W' S xs cs := ⟨h.1, fun i hi => D.fr (h.2 i hi) hs hb⟩
theorem Elems.mo {α : Type} {D : Elt α} {W : World} {S S' : Nat → Prop} {xs : List α} {cs : List Value} (h : Elems D W S xs cs) (hb : ∀ b, b < W.heap.size → S b → S' b) : Elems D W S' xs cs := ⟨h.1, fun i hi => D.mo (h.2 i hi) hb⟩
theorem Elems.nil {α : Type} (D : Elt α) (W : World) (S : Nat → Prop) : Elems D W S [] [] := ⟨by simp, fun i hi => absurd hi (Nat.not_lt_zero _)⟩
theorem Elems.snoc {α : Type} {D : Elt α} {W : World} {S : Nat → Prop} {xs : List α} {cs cx : List Value} {x : α} (h : Elems D W S xs cs) (hx : D.E W S x cx) : Elems D W S (xs ++ [x]) (cs ++ cx) := by
  have hl := D.len hx
  refine ⟨by rw [List.length_append, List.length_append, h.1, hl, List.length_singleton, Nat.add_mul, Nat.one_mul], fun i hi => ?_⟩
  rw [List.length_append, List.length_singleton] at hi
  by_cases hlt : i < xs.length
  · rw [List.getElem_append_left hlt]
    have hm : i * D.k + D.k ≤ cs.length := by
      rw [h.1]
      have := Nat.mul_le_mul_right D.k (show i + 1 ≤ xs.length from hlt)
      rw [Nat.add_mul, Nat.one_mul] at this
      exact this
    rw [List.drop_append_of_le_length (by omega), List.take_append_of_le_length (by rw [List.length_drop]; omega)]
    exact h.2 i hlt
  · have he : i = xs.length := by omega
    subst he
    rw [List.getElem_append_right (Nat.le_refl _), ← h.1, List.drop_left, ← hl, List.take_length]
    simpa using hx
/-- A row of such things. -/
def RowR {α : Type} (D : Elt α) (W : World) (S : Nat → Prop) (xs : List α) (a : Option Addr) : Prop := xs = [] ∨ ∃ (g o : Nat) (cs : List Value), a = some ⟨g, o, none⟩ ∧ S g ∧ g < W.heap.size ∧ (∀ j, j < cs.length → W.cell? ⟨g, o + j, none⟩ = cs[j]?) ∧ Elems D W S xs cs
theorem RowR.fr {α : Type} {D : Elt α} {W W' : World} {S : Nat → Prop} {xs : List α} {a : Option Addr} (h : RowR D W S xs a) (hs : W.heap.size ≤ W'.heap.size) (hb : ∀ b, S b → b < W.heap.size → W'.heap[b]? = W.heap[b]?) : RowR D W' S xs a := by
  rcases h with h | ⟨g, o, cs, rfl, hS, hg, hc, hE⟩
  · exact .inl h
  · exact .inr ⟨g, o, cs, rfl, hS, Nat.lt_of_lt_of_le hg hs, fun j hj => (World.cell?_of_block (a := ⟨g, o + j, none⟩) (hb g hS hg)).trans (hc j hj), hE.fr hs hb⟩
theorem RowR.mo {α : Type} {D : Elt α} {W : World} {S S' : Nat → Prop} {xs : List α} {a : Option Addr} (h : RowR D W S xs a) (hb : ∀ b, b < W.heap.size → S b → S' b) : RowR D W S' xs a := by
  rcases h with h | ⟨g, o, cs, rfl, hS, hg, hc, hE⟩
  · exact .inl h
  · exact .inr ⟨g, o, cs, rfl, hb g hg hS, hg, hc, hE.mo hb⟩

/-- Blocks that are new since, but for the row's own. -/
def Sv (lo : Nat) (lv : Value) (b : Nat) : Prop := lo ≤ b ∧ some b ≠ lv.ownBlock
/-- A row that is being made. -/
def GS {α : Type} (D : Elt α) (T : TypeId) (lo : Nat) (W : World) (lv : Value) (xs : List α) : Prop := ∃ cs, W.ownsRow lo T D.k lv xs.length cs ∧ Elems D W (Sv lo lv) xs cs
theorem gs_nil {α : Type} (D : Elt α) (T : TypeId) (lo : Nat) (W : World) : GS D T lo W (.slice none 0 0) [] := ⟨[], World.ownsRow_nil _ _ _ _, Elems.nil _ _ _⟩
theorem gs_kept {α : Type} {D : Elt α} {T : TypeId} {lo r : Nat} {W W' : World} {lv : Value} {xs : List α} (h : GS D T lo W lv xs) (hr : r < lo) (hg : W.grownBy W' (some r)) : GS D T lo W' lv xs := by
  obtain ⟨cs, ho, hE⟩ := h
  refine ⟨cs, ho.kept hg ?_, hE.fr hg.size (fun b hb hlt => hg.block b hlt (fun e => by have := hb.1; injection e with e; omega))⟩
  cases hv : lv.ownBlock with
  | none => exact .inl rfl
  | some g =>
    have := (ho.lt g hv).1
    right
    intro e
    injection e with e
    omega
theorem gs_alloc {α : Type} {D : Elt α} {T : TypeId} {lo : Nat} {W : World} {lv : Value} {xs : List α} (h : GS D T lo W lv xs) (o : Obj) : GS D T lo (W.alloc o) lv xs := by
  obtain ⟨cs, ho, hE⟩ := h
  have hg := World.grownBy_alloc W o none
  exact ⟨cs, ho.alloc o, hE.fr hg.size (fun b _ hlt => hg.block b hlt (by simp))⟩
/-- What is behind an append. -/
theorem gs_step {α : Type} {D : Elt α} {T : TypeId} {lo b0 : Nat} {W w2 : World} {lv lv' : Value} {xs : List α} {x : α} {cs cx : List Value} (hE : Elems D W (Sv lo lv) xs cs) (hx : D.E W (fun b => b0 ≤ b) x cx) (hlo : lo ≤ b0) (hb0 : ∀ g, lv.ownBlock = some g → g < b0)
    (hgr : W.grownBy w2 lv.ownBlock) (hat : lv'.ownBlock = lv.ownBlock ∨ lv'.ownBlock = some W.heap.size) (ho2 : w2.ownsRow lo T D.k lv' (xs.length + 1) (cs ++ cx)) : GS D T lo w2 lv' (xs ++ [x]) := by
  refine ⟨cs ++ cx, by rw [List.length_append, List.length_singleton]; exact ho2, ?_⟩
  have hx1 : D.E W (Sv lo lv) x cx := D.mo hx (fun b _ hb => ⟨Nat.le_trans hlo hb, fun e => by
    have := hb0 b e.symm
    omega⟩)
  have h1 := hE.snoc hx1
  have hfar : ∀ b, Sv lo lv b → b < W.heap.size → w2.heap[b]? = W.heap[b]? := fun b hb hlt => hgr.block b hlt hb.2
  have h2 := h1.mo (S' := fun b => Sv lo lv b ∧ b < W.heap.size) (fun b hlt hb => ⟨hb, hlt⟩)
  have h3 := h2.fr hgr.size (fun b hb hlt => hfar b hb.1 hlt)
  refine h3.mo (fun b _ hb => ⟨hb.1.1, ?_⟩)
  rcases hat with h | h
  · rw [h]; exact hb.1.2
  · rw [h]; intro e; injection e with e; have := hb.2; omega
/-- A made row is a row. -/
def VL {α : Type} (D : Elt α) (W : World) (lo : Nat) (xs : List α) (v : Value) : Prop := ∃ a cap, v = .slice a xs.length cap ∧ RowR D W (fun b => lo ≤ b) xs a
theorem gs_done {α : Type} {D : Elt α} {T : TypeId} {lo : Nat} {W : World} {lv : Value} {xs : List α} (h : GS D T lo W lv xs) : VL D W lo xs lv := by
  obtain ⟨cs, ho, hE⟩ := h
  have ho2 := ho
  obtain ⟨hl, ⟨rfl, h0⟩ | ⟨g, cap, cur, rfl, hg, -⟩⟩ := ho2
  · have hx : xs = [] := List.eq_nil_of_length_eq_zero h0
    subst hx
    exact ⟨none, 0, rfl, .inl rfl⟩
  · refine ⟨_, cap, rfl, .inr ⟨g, 0, cs, rfl, hg, (ho.lt g rfl).2, fun j hj => ?_, hE.mo (fun b _ hb => hb.1)⟩⟩
    rw [Nat.zero_add]
    exact ho.cellAt j (by rw [← hl]; exact hj)

end Go.Proofs.Ytjgngmmepheioaa
