import Derived.Test.YtoeabponjdkpjaaDoorScale
import Derived.Test.YtoeabponjdkpjaaDoorDiv
import Derived.Test.YtoeabponjdkpjaaDoorRefScale
import Derived.Test.YtoeabponjdkpjaaDoorHeld1
namespace Go.Proofs.YtoeabponjdkpjaaDoor
open Go.RowKit

set_option maxHeartbeats 2000000 in
theorem scales_walk (k0 n0 num den mode : Int) (w : World) (hK : Kinds w) :
    Calls Tryd.prog 5 #[.agg #[.int .i64 k0, .int .i64 n0], .int .i64 num, .int .i64 den, .int .i64 mode] w fun e w' => e = .returned (.bool true) ∧ Below w.heap.size w w' := by
  obtain ⟨m, hm⟩ : ∃ m, Hid (m = M.wh (decide (n0 < 0) != decide (num < 0)) mode (n0.natAbs * num.natAbs) den.natAbs) := ⟨_, rfl⟩
  obtain ⟨A, hA⟩ : ∃ A, Hid (A = M.ans (M.refuse (takesB k0 8) k0 n0 []) (M.scl num den mode m)) := ⟨_, rfl⟩
  have h1 := first1 w k0 n0 hK _ rfl
  have h2 := keep1 h1 (Below.refl _ _).drew
  clear h1
  go_enter Tryd.func5, Tryd.ntmps5
  go_wp2
  go_region_held3 (fun X => X.cell? ⟨w.heap.size, 0, none⟩ = some (.int .i64 k0) ∧ X.cell? ⟨w.heap.size, 1, none⟩ = some (.int .i64 n0) ∧ Kinds X ∧ Below w.heap.size w X) (with_reducible assumption)
    (first | (go_at_call 16; refine (held1 (w0 := w) (b0 := w.heap.size) (x0 := .int .i64 k0) (y0 := .int .i64 n0) ?_ (fun h => scale_all k0 n0 num den mode _ h m hm A hA)).mono ?_; with_reducible assumption; rintro e w1 ⟨rfl, hS1⟩) | (go_at_call 17; refine (held1 (w0 := w) (b0 := w.heap.size) (x0 := .int .i64 k0) (y0 := .int .i64 n0) ?_ (fun _ => rscale_any k0 n0 num den mode _ m hm A hA)).mono ?_; with_reducible assumption; rintro e w1 ⟨rfl, hS1⟩))
  go_wp2
  go_ret
  exact ⟨rfl, hS1.2.2.2⟩

end Go.Proofs.YtoeabponjdkpjaaDoor
