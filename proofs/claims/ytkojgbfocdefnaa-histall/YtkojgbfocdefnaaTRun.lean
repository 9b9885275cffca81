import Derived.Test.YtkojgbfocdefnaaTTake
namespace Go.Proofs.Ytkojgbfocdefnaa
open Go.RowKit

/-- An iterator over a tree, as it is handed out. -/
def iterV (b : Nat) : Value := .func (.func 70) #[] #[.pointer (some ⟨b, 0, none⟩), .pointer (some ⟨b + 1, 0, none⟩), .pointer (some ⟨b + 1 + 1, 0, none⟩), .pointer (some ⟨b + 1 + 1 + 1, 0, none⟩)]
def IterAt (W : World) (b : Nat) (t : Tr) (low : Nat) : Prop := b + 1 + 1 + 1 < W.heap.size ∧ W.cell? ⟨b, 0, none⟩ = some t.ptr ∧ W.cell? ⟨b + 1, 0, none⟩ = some (.int .i64 0) ∧ W.cell? ⟨b + 1 + 1, 0, none⟩ = some (.int .u32 0) ∧ W.cell? ⟨b + 1 + 1 + 1, 0, none⟩ = some (.int .u32 (low : Int))
theorem IterAt.later {W W' : World} {b : Nat} {t : Tr} {low : Nat} (h : IterAt W b t low) (hb : Below W.heap.size W W') : IterAt W' b t low := by
  obtain ⟨h0, h1, h2, h3, h4⟩ := h
  exact ⟨Nat.lt_of_lt_of_le h0 hb.size, (hb.cell (p := ⟨b, 0, none⟩) (by simp; omega)).trans h1, (hb.cell (p := ⟨b + 1, 0, none⟩) (by simp; omega)).trans h2, (hb.cell (p := ⟨b + 1 + 1, 0, none⟩) (by simp; omega)).trans h3, (hb.cell (p := ⟨b + 1 + 1 + 1, 0, none⟩) (by simp; omega)).trans h4⟩

theorem szA (w : World) (o : Obj) : (w.alloc o).heap.size = w.heap.size + 1 := by simp
theorem cell_new1 (w : World) (v : Value) (t : TypeId) (n : Nat) (hn : n = w.heap.size) : (w.alloc (.cells #[v] t)).cell? ⟨n, 0, none⟩ = some v := by
  subst hn
  exact cell_of_row _ _ 0 _ _ _ (heap_alloc_last w _)
theorem cell_old (w : World) (o : Obj) (n : Nat) (h : n < w.heap.size) : (w.alloc o).cell? ⟨n, 0, none⟩ = w.cell? ⟨n, 0, none⟩ := ((Below.refl w.heap.size w).alloc (Nat.le_refl _) o).cell (p := ⟨n, 0, none⟩) h
theorem iter_new (w : World) (t : Tr) (u : Option Addr) (hu : t.ptr = .pointer u) (low : Nat) (l : Int) (hl : l = (low : Int)) (t1 t2 t3 t4 : TypeId) : IterAt ((((w.alloc (.cells #[.pointer u] t1)).alloc (.cells #[.int .i64 0] t2)).alloc (.cells #[.int .u32 0] t3)).alloc (.cells #[.int .u32 l] t4)) w.heap.size t low ∧ Below w.heap.size w ((((w.alloc (.cells #[.pointer u] t1)).alloc (.cells #[.int .i64 0] t2)).alloc (.cells #[.int .u32 0] t3)).alloc (.cells #[.int .u32 l] t4)) := by
  refine ⟨⟨by simp only [szA]; omega, ?_, ?_, ?_, ?_⟩, ((((Below.refl w.heap.size w).alloc (Nat.le_refl _) _).alloc (by simp only [szA]; omega) _).alloc (by simp only [szA]; omega) _).alloc (by simp only [szA]; omega) _⟩
  · rw [cell_old _ _ _ (by simp only [szA]; omega), cell_old _ _ _ (by simp only [szA]; omega), cell_old _ _ _ (by simp only [szA]; omega), cell_new1 _ _ _ _ rfl, hu]
  · rw [cell_old _ _ _ (by simp only [szA]; omega), cell_old _ _ _ (by simp only [szA]; omega), cell_new1 _ _ _ _ (by simp only [szA])]
  · rw [cell_old _ _ _ (by simp only [szA]; omega), cell_new1 _ _ _ _ (by simp only [szA])]
  · rw [cell_new1 _ _ _ _ (by simp only [szA]), hl]

theorem all_any (mb : Nat) (t : Tr) (w : World) (h : MapT w mb t) : Calls Try.prog 63 #[.pointer (some ⟨mb, 0, none⟩)] w fun e w' => e = .returned (iterV w.heap.size) ∧ IterAt w' w.heap.size t 0 ∧ Below w.heap.size w w' := by
  obtain ⟨u, hu⟩ := ptr_pointer t
  have m0 := h.2.1
  rw [hu] at m0
  go_enter Try.func63, Try.ntmps63
  go_wp2
  go_ret
  have := iter_new w t u hu 0 0 rfl 103 3 56 56
  exact ⟨rfl, this.1, this.2⟩

end Go.Proofs.Ytkojgbfocdefnaa
