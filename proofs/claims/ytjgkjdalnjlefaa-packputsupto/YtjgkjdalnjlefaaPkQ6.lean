import Derived.Test.YtjgkjdalnjlefaaPkQ5
namespace Go.Proofs.Ytjgkjdalnjlefaa
open Go.RowKit

/-- A struct's own block, new: the writer lets it stay. -/
theorem Bk.new {lo wb : Nat} {W W1 : World} {a : Array Value} {t : TypeId} (h : Bk lo wb (W.alloc (.cells a t)) W1) (hw : wb < W.heap.size) (ht : t ≠ 5) : Bx W1 W.heap.size a.toList := by
  have e := h.kt W.heap.size a t (0, 0) (by omega) (by show (W.heap.push (.cells a t))[W.heap.size]? = _; exact Array.getElem?_push_size) ht
  have hb := bx_new W a t
  exact ⟨Nat.lt_of_lt_of_le hb.1 h.bl.size, fun j hj => (World.cell?_of_block e).trans (hb.2.1 j hj), fun j => (World.frozen?_of_block e).trans (hb.2.2 j)⟩

set_option maxRecDepth 8000 in
set_option maxHeartbeats 1000000 in
theorem wband_any (lo wb : Nat) (x y : Int) (hx : Rg x) (hy : Rg y) (W : World) {acc : List UInt8} {b : Bool} (h : WS lo wb W acc b) : Calls Try.prog 120 #[.pointer (some ⟨wb, 0, none⟩), .agg #[.int .i64 x, .int .i64 y]] W (Wp lo wb acc b (encBd (x, y)) True W) := by
  have hlt := h.lt
  have hB0 : Bk lo wb W _ := Bk.alloc W (Nat.le_trans h.lo (Nat.le_of_lt h.lt)) (.cells #[.int .i64 x, .int .i64 y] 77)
  have hk1 := winteger_any lo wb x hx (W.alloc (.cells #[.int .i64 x, .int .i64 y] 77)) (h.alloc _)
  clear h
  go_enter Try.func120, Try.ntmps120
  go_wp2_with (first | (go_at_call 91; go_loud (refine hk1.mono ?_; clear hk1; rintro e w1 ⟨rfl, acc1, b1, hW1, hB1, hr1⟩; have hn := (hB1.new hlt (by decide)).2.1 1 (by simp); have hk2 := winteger_any lo wb y hy w1 hW1)) | (go_at_call 91; go_loud (refine hk2.mono ?_; clear hk2; rintro e w2 ⟨rfl, acc2, b2, hW2, hB2, hr2⟩)))
  have hfin : Wp lo wb acc b (encBd (x, y)) True W (.returned (.tuple #[])) w2 := ⟨rfl, acc2, b2, hW2, (hB0.trans hB1).trans hB2, hr1.tr hr2⟩
  exact bodyPost_end (v := .tuple #[]) (by simp [results, Try.results120, go_sem]) rfl hfin

set_option maxRecDepth 8000 in
set_option maxHeartbeats 1000000 in
theorem wgroup_any (lo wb : Nat) (x : List UInt8) (y : Int) (hx : x.length ≤ 9223372036854775807) (hy : Rg y) (W : World) {acc : List UInt8} {b : Bool} (h : WS lo wb W acc b) : Calls Try.prog 97 #[.pointer (some ⟨wb, 0, none⟩), .agg #[.string ⟨x.toArray⟩, .int .i64 y]] W (Wp lo wb acc b (encG (x, y)) True W) := by
  have hlt := h.lt
  have hB0 : Bk lo wb W _ := Bk.alloc W (Nat.le_trans h.lo (Nat.le_of_lt h.lt)) (.cells #[.string ⟨x.toArray⟩, .int .i64 y] 72)
  have hk1 := wtext_any lo wb x hx (W.alloc (.cells #[.string ⟨x.toArray⟩, .int .i64 y] 72)) (h.alloc _)
  clear h
  go_enter Try.func97, Try.ntmps97
  go_wp2_with (first | (go_at_call 90; go_loud (refine hk1.mono ?_; clear hk1; rintro e w1 ⟨rfl, acc1, b1, hW1, hB1, hr1⟩; have hn := (hB1.new hlt (by decide)).2.1 1 (by simp); have hk2 := winteger_any lo wb y hy w1 hW1)) | (go_at_call 91; go_loud (refine hk2.mono ?_; clear hk2; rintro e w2 ⟨rfl, acc2, b2, hW2, hB2, hr2⟩)))
  have hfin : Wp lo wb acc b (encG (x, y)) True W (.returned (.tuple #[])) w2 := ⟨rfl, acc2, b2, hW2, (hB0.trans hB1).trans hB2, hr1.tr hr2⟩
  exact bodyPost_end (v := .tuple #[]) (by simp [results, Try.results97, go_sem]) rfl hfin

end Go.Proofs.Ytjgkjdalnjlefaa
