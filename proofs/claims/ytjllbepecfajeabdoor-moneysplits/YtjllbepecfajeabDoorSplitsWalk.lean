import Derived.Test.YtjllbepecfajeabDoorSplit
import Derived.Test.YtjllbepecfajeabDoorRefSplit2
import Derived.Test.YtjllbepecfajeabDoorHeld
namespace Go.Proofs.YtjllbepecfajeabDoor
open Go.RowKit

set_option maxHeartbeats 4000000 in
theorem splits_walk (k0 n0 k1 n1 mode : Int) (w : World) (hK : Kinds w) :
    Calls Tryd.prog 4 #[.agg #[.int .i64 k0, .int .i64 n0], .agg #[.int .i64 k1, .int .i64 n1], .int .i64 mode] w fun e w' => e = .returned (.bool true) ∧ Below w.heap.size w w' := by
  obtain ⟨m, hm⟩ : ∃ m, Hid (m = M.wh (decide (n0 < 0) != decide (n1 < 0)) mode n0.natAbs n1.natAbs) := ⟨_, rfl⟩
  obtain ⟨A, hA⟩ : ∃ A, Hid (A = M.ans (M.pair (takesB k0 8) (takesB k1 16) k0 n0 k1 n1) (M.spl mode n1 m)) := ⟨_, rfl⟩
  have h1 := first2 w k0 n0 k1 n1 hK _ rfl
  have h2 := keep2 h1 (Below.refl _ _).drew
  clear h1
  go_enter Tryd.func4, Tryd.ntmps4
  go_wp2
  go_region_held3 (fun X => X.cell? ⟨w.heap.size, 0, none⟩ = some (.int .i64 k0) ∧ X.cell? ⟨w.heap.size, 1, none⟩ = some (.int .i64 n0) ∧ X.cell? ⟨w.heap.size + 1, 0, none⟩ = some (.int .i64 k1) ∧ X.cell? ⟨w.heap.size + 1, 1, none⟩ = some (.int .i64 n1) ∧ Kinds X ∧ Below w.heap.size w X) (assumption)
    (first | (go_at_call 11; refine (held2 (w0 := w) (b0 := w.heap.size) (b1 := w.heap.size + 1) (x0 := .int .i64 k0) (y0 := .int .i64 n0) (x1 := .int .i64 k1) (y1 := .int .i64 n1) ?_ (fun h => split_any k0 n0 k1 n1 mode _ h m hm A hA)).mono ?_; assumption; rintro e w1 ⟨rfl, hS1⟩) | (go_at_call 12; refine (held2 (w0 := w) (b0 := w.heap.size) (b1 := w.heap.size + 1) (x0 := .int .i64 k0) (y0 := .int .i64 n0) (x1 := .int .i64 k1) (y1 := .int .i64 n1) ?_ (fun _ => rsplit_any k0 n0 k1 n1 mode _ m hm A hA)).mono ?_; assumption; rintro e w1 ⟨rfl, hS1⟩))
  go_wp2
  go_ret
  exact ⟨rfl, hS1.2.2.2.2.2⟩

end Go.Proofs.YtjllbepecfajeabDoor
