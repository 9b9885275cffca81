import Derived.Test.YtjllbepecfajeaaDoorWorld
import Derived.Deep.RegionWith
namespace Go.Proofs.YtjllbepecfajeaaDoor
open Go.RowKit

theorem valids_walk (k n : Int) (w : World) (hK : Kinds w) :
    Calls Tryd.prog 3 #[.agg #[.int .i64 k, .int .i64 n]] w fun e w' => e = .returned (.bool true) ∧ Below w.heap.size w w' := by
  go_enter Tryd.func3, Tryd.ntmps3
  go_wp2
  go_region_with (first | (go_at_call 9; refine (valid_any _ _ _ (by repeat (first | exact hK | apply Kinds.drew | apply Kinds.alloc | assumption))).mono ?_; rintro e w1 ⟨rfl, hb1⟩; obtain ⟨hc1, hf1⟩ := bcell hb1) | (go_at_call 10; refine (rvalid_any _ _ _).mono ?_; rintro e w2 ⟨rfl, hb2⟩; obtain ⟨hc2, hf2⟩ := bcell hb2))
  all_goals
    go_wp2
    go_ret
    exact ⟨rfl, below_step (below_step ((Below.refl _ _).alloc (Nat.le_refl _) _).drew hb1) hb2⟩

end Go.Proofs.YtjllbepecfajeaaDoor
