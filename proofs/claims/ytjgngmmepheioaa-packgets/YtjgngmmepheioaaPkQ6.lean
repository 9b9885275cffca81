import Derived.Test.YtjgngmmepheioaaPkQ5
namespace Go.Proofs.Ytjgngmmepheioaa
open Go.RowKit

/-- A struct's own block, new: the writer lets it stay. -/
theorem Bk.new {lo wb : Nat} {W W1 : World} {a : Array Value} {t : TypeId} (h : Bk lo wb (W.alloc (.cells a t)) W1) (hw : wb < W.heap.size) (ht : t ≠ 5) : Bx W1 W.heap.size a.toList := by
  have e := h.kt W.heap.size a t (0, 0) (by omega) (by show (W.heap.push (.cells a t))[W.heap.size]? = _; exact Array.getElem?_push_size) ht
  have hb := bx_new W a t
  exact ⟨Nat.lt_of_lt_of_le hb.1 h.bl.size, fun j hj => (World.cell?_of_block e).trans (hb.2.1 j hj), fun j => (World.frozen?_of_block e).trans (hb.2.2 j)⟩

end Go.Proofs.Ytjgngmmepheioaa
