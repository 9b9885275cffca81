import Derived.Test.YtkojgbfocdefnaaRfNew
namespace Go.Proofs.Ytkojgbfocdefnaa
open Go.RowKit

set_option maxRecDepth 4000 in
set_option maxHeartbeats 1000000 in
theorem empty_rf (w : World) : Calls Try.prog 45 #[] w fun e w' => e = .returned (.pointer (some ⟨w.heap.size, 0, none⟩)) ∧ RfAt w' w.heap.size [] ∧ Below w.heap.size w w' := by
  have hr := heap_alloc_last w (.cells #[.slice none 0 0, .slice none 0 0, .slice none 0 0] 117)
  have hb := (Below.refl w.heap.size w).alloc (Nat.le_refl _) (.cells #[.slice none 0 0, .slice none 0 0, .slice none 0 0] 117)
  go_enter Try.func45, Try.ntmps45
  go_wp2
  go_ret
  exact ⟨rfl, ⟨_, _, _, [], hr, World.ownsRow_nil _ _ _ _, World.ownsRow_nil _ _ _ _, World.ownsRow_nil _ _ _ _, rfl, List.Pairwise.nil⟩, hb⟩

end Go.Proofs.Ytkojgbfocdefnaa
