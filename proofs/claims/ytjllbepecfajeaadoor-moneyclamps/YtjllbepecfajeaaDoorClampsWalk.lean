import Derived.Test.YtjllbepecfajeaaDoorMinMax
import Derived.Test.YtjllbepecfajeaaDoorRefMinMax
import Derived.Test.YtjllbepecfajeaaDoorClamp
import Derived.Deep.RegionHeld3
namespace Go.Proofs.YtjllbepecfajeaaDoor
open Go.RowKit

set_option maxHeartbeats 4000000 in
theorem clamps_walk (k0 n0 k1 n1 k2 n2 : Int) (w : World) (hK : Kinds w) :
    Calls Tryd.prog 6 #[.agg #[.int .i64 k0, .int .i64 n0], .agg #[.int .i64 k1, .int .i64 n1], .agg #[.int .i64 k2, .int .i64 n2]] w fun e w' => e = .returned (.bool true) ∧ Below w.heap.size w w' := by
  obtain ⟨a, ha⟩ := isMin_ex n0 n1
  obtain ⟨b, hb⟩ := isMax_ex n0 n1
  obtain ⟨c, hc⟩ := isClamp_ex n0 n1 n2
  obtain ⟨A, hA⟩ : ∃ A, Hid (A = M.ans (M.refuse (takesB k0 2) k0 n0 [(k1, n1)]) (M.fit true k0 a)) := ⟨_, rfl⟩
  obtain ⟨B, hB⟩ : ∃ A, Hid (A = M.ans (M.refuse (takesB k0 2) k0 n0 [(k1, n1)]) (M.fit true k0 b)) := ⟨_, rfl⟩
  obtain ⟨C, hC⟩ : ∃ A, Hid (A = M.ans (M.refuse (takesB k0 2) k0 n0 [(k1, n1), (k2, n2)]) (M.fit true k0 c)) := ⟨_, rfl⟩
  have hA' : Hid (A = M.ans (M.refuse ([(1 : Int), (2 : Int), (4 : Int)].any fun z => k0 == z) k0 n0 [(k1, n1)]) (M.fit true k0 a)) := by rw [any_2]; exact hA
  have hB' : Hid (B = M.ans (M.refuse ([(1 : Int), (2 : Int), (4 : Int)].any fun z => k0 == z) k0 n0 [(k1, n1)]) (M.fit true k0 b)) := by rw [any_2]; exact hB
  have hC' : Hid (C = M.ans (M.refuse ([(1 : Int), (2 : Int), (4 : Int)].any fun z => k0 == z) k0 n0 [(k1, n1), (k2, n2)]) (M.fit true k0 c)) := by rw [any_2]; exact hC
  have h1 := first3 w k0 n0 k1 n1 k2 n2 hK _ rfl
  have h2 := keep3 h1 (Below.refl _ _).drew
  clear h1
  go_enter Tryd.func6, Tryd.ntmps6
  go_wp2
  go_region_held3 (fun X => X.cell? ⟨w.heap.size, 0, none⟩ = some (.int .i64 k0) ∧ X.cell? ⟨w.heap.size, 1, none⟩ = some (.int .i64 n0) ∧ X.cell? ⟨w.heap.size + 1, 0, none⟩ = some (.int .i64 k1) ∧ X.cell? ⟨w.heap.size + 1, 1, none⟩ = some (.int .i64 n1) ∧ X.cell? ⟨w.heap.size + 1 + 1, 0, none⟩ = some (.int .i64 k2) ∧ X.cell? ⟨w.heap.size + 1 + 1, 1, none⟩ = some (.int .i64 n2) ∧ Kinds X ∧ Below w.heap.size w X) (assumption)
    (first | (go_at_call 16; refine (held3 (w0 := w) (b0 := w.heap.size) (b1 := w.heap.size + 1) (b2 := w.heap.size + 1 + 1) (x0 := .int .i64 k0) (y0 := .int .i64 n0) (x1 := .int .i64 k1) (y1 := .int .i64 n1) (x2 := .int .i64 k2) (y2 := .int .i64 n2) ?_ (fun h => min_any k0 n0 k1 n1 _ h a ha A hA)).mono ?_; assumption; rintro e w1 ⟨rfl, hS1⟩) | (go_at_call 17; refine (held3 (w0 := w) (b0 := w.heap.size) (b1 := w.heap.size + 1) (b2 := w.heap.size + 1 + 1) (x0 := .int .i64 k0) (y0 := .int .i64 n0) (x1 := .int .i64 k1) (y1 := .int .i64 n1) (x2 := .int .i64 k2) (y2 := .int .i64 n2) ?_ (fun _ => rmin_any k0 n0 k1 n1 _ a ha A hA')).mono ?_; assumption; rintro e w1 ⟨rfl, hS1⟩) | (go_at_call 18; refine (held3 (w0 := w) (b0 := w.heap.size) (b1 := w.heap.size + 1) (b2 := w.heap.size + 1 + 1) (x0 := .int .i64 k0) (y0 := .int .i64 n0) (x1 := .int .i64 k1) (y1 := .int .i64 n1) (x2 := .int .i64 k2) (y2 := .int .i64 n2) ?_ (fun h => max_any k0 n0 k1 n1 _ h b hb B hB)).mono ?_; assumption; rintro e w1 ⟨rfl, hS1⟩) | (go_at_call 19; refine (held3 (w0 := w) (b0 := w.heap.size) (b1 := w.heap.size + 1) (b2 := w.heap.size + 1 + 1) (x0 := .int .i64 k0) (y0 := .int .i64 n0) (x1 := .int .i64 k1) (y1 := .int .i64 n1) (x2 := .int .i64 k2) (y2 := .int .i64 n2) ?_ (fun _ => rmax_any k0 n0 k1 n1 _ b hb B hB')).mono ?_; assumption; rintro e w1 ⟨rfl, hS1⟩))
  go_wp2
  have h3 := keep3 hS1 (Below.refl _ _).drew
  clear hS1
  go_region_held3 (fun X => X.cell? ⟨w.heap.size, 0, none⟩ = some (.int .i64 k0) ∧ X.cell? ⟨w.heap.size, 1, none⟩ = some (.int .i64 n0) ∧ X.cell? ⟨w.heap.size + 1, 0, none⟩ = some (.int .i64 k1) ∧ X.cell? ⟨w.heap.size + 1, 1, none⟩ = some (.int .i64 n1) ∧ X.cell? ⟨w.heap.size + 1 + 1, 0, none⟩ = some (.int .i64 k2) ∧ X.cell? ⟨w.heap.size + 1 + 1, 1, none⟩ = some (.int .i64 n2) ∧ Kinds X ∧ Below w.heap.size w X) (assumption)
    (first | (go_at_call 20; refine (held3 (w0 := w) (b0 := w.heap.size) (b1 := w.heap.size + 1) (b2 := w.heap.size + 1 + 1) (x0 := .int .i64 k0) (y0 := .int .i64 n0) (x1 := .int .i64 k1) (y1 := .int .i64 n1) (x2 := .int .i64 k2) (y2 := .int .i64 n2) ?_ (fun h => clamp_any k0 n0 k1 n1 k2 n2 _ h c hc C hC)).mono ?_; assumption; rintro e w1 ⟨rfl, hS1⟩) | (go_at_call 21; refine (held3 (w0 := w) (b0 := w.heap.size) (b1 := w.heap.size + 1) (b2 := w.heap.size + 1 + 1) (x0 := .int .i64 k0) (y0 := .int .i64 n0) (x1 := .int .i64 k1) (y1 := .int .i64 n1) (x2 := .int .i64 k2) (y2 := .int .i64 n2) ?_ (fun _ => rclamp_any k0 n0 k1 n1 k2 n2 _ c hc C hC')).mono ?_; assumption; rintro e w1 ⟨rfl, hS1⟩))
  go_wp2
  go_ret
  exact ⟨rfl, hS1.2.2.2.2.2.2.2⟩

end Go.Proofs.YtjllbepecfajeaaDoor
