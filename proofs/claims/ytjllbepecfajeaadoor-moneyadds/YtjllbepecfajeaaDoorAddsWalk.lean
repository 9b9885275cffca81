import Derived.Test.YtjllbepecfajeaaDoorAdds
import Derived.Test.YtjllbepecfajeaaDoorRefAdds
import Derived.Test.YtjllbepecfajeaaDoorHeld
import Derived.Deep.RegionHeld3
namespace Go.Proofs.YtjllbepecfajeaaDoor
open Go.RowKit

set_option maxHeartbeats 4000000 in
theorem adds_walk (k0 n0 k1 n1 : Int) (w : World) (hK : Kinds w) :
    Calls Tryd.prog 7 #[.agg #[.int .i64 k0, .int .i64 n0], .agg #[.int .i64 k1, .int .i64 n1]] w fun e w' => e = .returned (.bool true) ∧ Below w.heap.size w w' := by
  obtain ⟨A, hA⟩ : ∃ A, Hid (A = M.ans (M.refuse (takesB k0 1) k0 n0 [(k1, n1)]) (M.fit true k0 (wrap64 (n0 + n1)))) := ⟨_, rfl⟩
  obtain ⟨B, hB⟩ : ∃ A, Hid (A = M.ans (M.refuse (takesB k0 1) k0 n0 [(k1, n1)]) (M.fit true k0 (wrap64 (n0 - n1)))) := ⟨_, rfl⟩
  have hA' : Hid (A = M.ans (M.refuse ([(1 : Int), (2 : Int)].any fun z => k0 == z) k0 n0 [(k1, n1)]) (M.fit true k0 (wrap64 (n0 + n1)))) := by rw [any_1]; exact hA
  have hB' : Hid (B = M.ans (M.refuse ([(1 : Int), (2 : Int)].any fun z => k0 == z) k0 n0 [(k1, n1)]) (M.fit true k0 (wrap64 (n0 - n1)))) := by rw [any_1]; exact hB
  obtain ⟨C, hC⟩ : ∃ A, Hid (A = M.ans (M.refuse (takesB k0 1) k0 n0 []) (M.fit true k0 (wrap64 (-n0)))) := ⟨_, rfl⟩
  have hC' : Hid (C = M.ans (M.refuse ([(1 : Int), (2 : Int)].any fun z => k0 == z) k0 n0 []) (M.fit true k0 (wrap64 (-n0)))) := by rw [any_1]; exact hC
  obtain ⟨m, hm⟩ := isMax_ex n0 (wrap64 (-n0))
  obtain ⟨D, hD⟩ : ∃ A, Hid (A = M.ans (M.refuse (takesB k0 1) k0 n0 []) (M.fit true k0 m)) := ⟨_, rfl⟩
  have hD' : Hid (D = M.ans (M.refuse ([(1 : Int), (2 : Int)].any fun z => k0 == z) k0 n0 []) (M.fit true k0 m)) := by rw [any_1]; exact hD
  have h1 := first2 w k0 n0 k1 n1 hK _ rfl
  have h2 := keep2 h1 (Below.refl _ _).drew
  clear h1
  go_enter Tryd.func7, Tryd.ntmps7
  go_wp2
  go_region_held3 (fun X => X.cell? ⟨w.heap.size, 0, none⟩ = some (.int .i64 k0) ∧ X.cell? ⟨w.heap.size, 1, none⟩ = some (.int .i64 n0) ∧ X.cell? ⟨w.heap.size + 1, 0, none⟩ = some (.int .i64 k1) ∧ X.cell? ⟨w.heap.size + 1, 1, none⟩ = some (.int .i64 n1) ∧ Kinds X ∧ Below w.heap.size w X) (assumption)
    (first | (go_at_call 22; refine (held2 (w0 := w) (b0 := w.heap.size) (b1 := w.heap.size + 1) (x0 := .int .i64 k0) (y0 := .int .i64 n0) (x1 := .int .i64 k1) (y1 := .int .i64 n1) ?_ (fun h => add_any k0 n0 k1 n1 _ h A hA)).mono ?_; assumption; rintro e w1 ⟨rfl, hS1⟩) | (go_at_call 23; refine (held2 (w0 := w) (b0 := w.heap.size) (b1 := w.heap.size + 1) (x0 := .int .i64 k0) (y0 := .int .i64 n0) (x1 := .int .i64 k1) (y1 := .int .i64 n1) ?_ (fun _ => radd_any k0 n0 k1 n1 _ A hA')).mono ?_; assumption; rintro e w1 ⟨rfl, hS1⟩) | (go_at_call 24; refine (held2 (w0 := w) (b0 := w.heap.size) (b1 := w.heap.size + 1) (x0 := .int .i64 k0) (y0 := .int .i64 n0) (x1 := .int .i64 k1) (y1 := .int .i64 n1) ?_ (fun h => sub_any k0 n0 k1 n1 _ h B hB)).mono ?_; assumption; rintro e w1 ⟨rfl, hS1⟩) | (go_at_call 25; refine (held2 (w0 := w) (b0 := w.heap.size) (b1 := w.heap.size + 1) (x0 := .int .i64 k0) (y0 := .int .i64 n0) (x1 := .int .i64 k1) (y1 := .int .i64 n1) ?_ (fun _ => rsub_any k0 n0 k1 n1 _ B hB')).mono ?_; assumption; rintro e w1 ⟨rfl, hS1⟩))
  go_wp2
  have h3 := keep2 hS1 (Below.refl _ _).drew
  clear hS1
  go_region_held3 (fun X => X.cell? ⟨w.heap.size, 0, none⟩ = some (.int .i64 k0) ∧ X.cell? ⟨w.heap.size, 1, none⟩ = some (.int .i64 n0) ∧ X.cell? ⟨w.heap.size + 1, 0, none⟩ = some (.int .i64 k1) ∧ X.cell? ⟨w.heap.size + 1, 1, none⟩ = some (.int .i64 n1) ∧ Kinds X ∧ Below w.heap.size w X) (assumption)
    (first | (go_at_call 26; refine (held2 (w0 := w) (b0 := w.heap.size) (b1 := w.heap.size + 1) (x0 := .int .i64 k0) (y0 := .int .i64 n0) (x1 := .int .i64 k1) (y1 := .int .i64 n1) ?_ (fun h => neg_any k0 n0 _ h C hC)).mono ?_; assumption; rintro e w1 ⟨rfl, hS1⟩) | (go_at_call 27; refine (held2 (w0 := w) (b0 := w.heap.size) (b1 := w.heap.size + 1) (x0 := .int .i64 k0) (y0 := .int .i64 n0) (x1 := .int .i64 k1) (y1 := .int .i64 n1) ?_ (fun _ => rneg_any k0 n0 _ C hC')).mono ?_; assumption; rintro e w1 ⟨rfl, hS1⟩) | (go_at_call 28; refine (held2 (w0 := w) (b0 := w.heap.size) (b1 := w.heap.size + 1) (x0 := .int .i64 k0) (y0 := .int .i64 n0) (x1 := .int .i64 k1) (y1 := .int .i64 n1) ?_ (fun h => abs_any k0 n0 _ h m hm D hD)).mono ?_; assumption; rintro e w1 ⟨rfl, hS1⟩) | (go_at_call 29; refine (held2 (w0 := w) (b0 := w.heap.size) (b1 := w.heap.size + 1) (x0 := .int .i64 k0) (y0 := .int .i64 n0) (x1 := .int .i64 k1) (y1 := .int .i64 n1) ?_ (fun _ => rabs_any k0 n0 _ m hm D hD')).mono ?_; assumption; rintro e w1 ⟨rfl, hS1⟩))
  go_wp2
  go_ret
  exact ⟨rfl, hS1.2.2.2.2.2⟩

end Go.Proofs.YtjllbepecfajeaaDoor
