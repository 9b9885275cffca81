import Derived.Test.YtmklkcefbabhbaaGreatJoin33
import Derived.Deep.RegionLaw
import Derived.BigQuiet
/- A node. -/
namespace Go.Proofs.YtmklkcefbabhbaaGreat.R6
open Go.RowKit

set_option maxRecDepth 20000 in
set_option maxHeartbeats 4000000 in
theorem nd_37 (l : List Kd) (a : Option Addr) (c : Nat) (W : World) (hR : RowR eKd W AnyB l a) (hl : l.length ≤ 1000) : Calls Tryz.prog 100 #[.int .i64 37, .slice a l.length c] W (NdP W (ndK 37 l)) := by
  have hf : ndK 37 l = ((2, -1), fsF [4] l 0) := rfl
  rw [hf]
  clear hf
  obtain ⟨X, hXe⟩ : ∃ X, W.alloc (.cells #[.int .i64 0, .int .i64 0] 88) = X := ⟨_, rfl⟩
  have hb0 : Below W.heap.size W X := by rw [← hXe]; exact (Below.refl _ _).alloc (Nat.le_refl _) _
  have hXl : W.heap.size < X.heap.size := by rw [← hXe]; simp
  have hK : Hid (∀ w, Below X.heap.size X w → w.heap[W.heap.size]? = some (.cells #[.int .i64 0, .int .i64 0] 88 (0, 0))) := ⟨fun w hb => (hb.block _ hXl).trans (by rw [← hXe]; exact heap_alloc_new _ _)⟩
  have hRX : Hid (∀ w, Below X.heap.size X w → RowR eKd w AnyB l a) := ⟨fun w hw => row_bel (row_bel hR hb0 (Nat.le_refl _)) hw (Nat.le_refl _)⟩
  have rk := hK.out _ (Below.refl _ _)
  have fk0 := frozen_of_row _ _ 0 _ _ rk
  have fk1 := frozen_of_row _ _ 1 _ _ rk
  have ck0 : X.cell? ⟨W.heap.size, 0, none⟩ = some (.int .i64 0) := cell_of_row _ _ 0 _ _ _ rk
  have ck1 : X.cell? ⟨W.heap.size, 1, none⟩ = some (.int .i64 0) := cell_of_row _ _ 1 _ _ _ rk
  have hA : Below X.heap.size X (X.alloc (.cells #[.int .i64 4] 3)) := (Below.refl _ _).alloc (Nat.le_refl _) _
  have hfi := first_any l a c [4] (some ⟨X.heap.size, 0, none⟩) 1 0 rfl _ (hRX.out _ hA) (row_in1 X 4 3) hl
  generalize fsF [4] l 0 = N at hfi ⊢
  clear hR
  go_enter Tryz.func100, Tryz.ntmps100
  go_wp2_with (go_at_call 107; refine hfi.mono ?_; rintro e w3 ⟨rfl, hb3⟩; have hB3 := belT hA hb3; have r3 := hK.out _ hB3; have fq0 := frozen_of_row _ _ 0 _ _ r3; have fq1 := frozen_of_row _ _ 1 _ _ r3; have cq0 := cell_of_row _ _ 0 _ _ _ r3; have cq1 := cell_of_row _ _ 1 _ _ _ r3)
  refine bodyPost_ret (v := .tuple #[.agg #[.int .i64 2, .int .i64 (-1)], .int .i64 N]) (results_cellK Tryz.results100 _ _ W.heap.size 88 _ (0, 0) _ rfl (row_two r3 _ _) Tryz.underlying88 rfl info_kd) rfl ?_
  exact ⟨rfl, bel_two (belT hb0 hB3) (Nat.le_refl _) _ _⟩
set_option maxRecDepth 20000 in
set_option maxHeartbeats 4000000 in
theorem nd_38 (l : List Kd) (a : Option Addr) (c : Nat) (W : World) (hR : RowR eKd W AnyB l a) (hl : l.length ≤ 1000) : Calls Tryz.prog 100 #[.int .i64 38, .slice a l.length c] W (NdP W (ndK 38 l)) := by
  have hf : ndK 38 l = ((2, -1), fsF [4] l 0) := rfl
  rw [hf]
  clear hf
  obtain ⟨X, hXe⟩ : ∃ X, W.alloc (.cells #[.int .i64 0, .int .i64 0] 88) = X := ⟨_, rfl⟩
  have hb0 : Below W.heap.size W X := by rw [← hXe]; exact (Below.refl _ _).alloc (Nat.le_refl _) _
  have hXl : W.heap.size < X.heap.size := by rw [← hXe]; simp
  have hK : Hid (∀ w, Below X.heap.size X w → w.heap[W.heap.size]? = some (.cells #[.int .i64 0, .int .i64 0] 88 (0, 0))) := ⟨fun w hb => (hb.block _ hXl).trans (by rw [← hXe]; exact heap_alloc_new _ _)⟩
  have hRX : Hid (∀ w, Below X.heap.size X w → RowR eKd w AnyB l a) := ⟨fun w hw => row_bel (row_bel hR hb0 (Nat.le_refl _)) hw (Nat.le_refl _)⟩
  have rk := hK.out _ (Below.refl _ _)
  have fk0 := frozen_of_row _ _ 0 _ _ rk
  have fk1 := frozen_of_row _ _ 1 _ _ rk
  have ck0 : X.cell? ⟨W.heap.size, 0, none⟩ = some (.int .i64 0) := cell_of_row _ _ 0 _ _ _ rk
  have ck1 : X.cell? ⟨W.heap.size, 1, none⟩ = some (.int .i64 0) := cell_of_row _ _ 1 _ _ _ rk
  have hA : Below X.heap.size X (X.alloc (.cells #[.int .i64 4] 3)) := (Below.refl _ _).alloc (Nat.le_refl _) _
  have hfi := first_any l a c [4] (some ⟨X.heap.size, 0, none⟩) 1 0 rfl _ (hRX.out _ hA) (row_in1 X 4 3) hl
  generalize fsF [4] l 0 = N at hfi ⊢
  clear hR
  go_enter Tryz.func100, Tryz.ntmps100
  go_wp2_with (go_at_call 107; refine hfi.mono ?_; rintro e w3 ⟨rfl, hb3⟩; have hB3 := belT hA hb3; have r3 := hK.out _ hB3; have fq0 := frozen_of_row _ _ 0 _ _ r3; have fq1 := frozen_of_row _ _ 1 _ _ r3; have cq0 := cell_of_row _ _ 0 _ _ _ r3; have cq1 := cell_of_row _ _ 1 _ _ _ r3)
  refine bodyPost_ret (v := .tuple #[.agg #[.int .i64 2, .int .i64 (-1)], .int .i64 N]) (results_cellK Tryz.results100 _ _ W.heap.size 88 _ (0, 0) _ rfl (row_two r3 _ _) Tryz.underlying88 rfl info_kd) rfl ?_
  exact ⟨rfl, bel_two (belT hb0 hB3) (Nat.le_refl _) _ _⟩
set_option maxRecDepth 20000 in
set_option maxHeartbeats 4000000 in
theorem nd_39 (l : List Kd) (a : Option Addr) (c : Nat) (W : World) (hR : RowR eKd W AnyB l a) (hl : l.length ≤ 1000) : Calls Tryz.prog 100 #[.int .i64 39, .slice a l.length c] W (NdP W (ndK 39 l)) := by
  have hf : ndK 39 l = ((2, -1), fsF [4] l 0) := rfl
  rw [hf]
  clear hf
  obtain ⟨X, hXe⟩ : ∃ X, W.alloc (.cells #[.int .i64 0, .int .i64 0] 88) = X := ⟨_, rfl⟩
  have hb0 : Below W.heap.size W X := by rw [← hXe]; exact (Below.refl _ _).alloc (Nat.le_refl _) _
  have hXl : W.heap.size < X.heap.size := by rw [← hXe]; simp
  have hK : Hid (∀ w, Below X.heap.size X w → w.heap[W.heap.size]? = some (.cells #[.int .i64 0, .int .i64 0] 88 (0, 0))) := ⟨fun w hb => (hb.block _ hXl).trans (by rw [← hXe]; exact heap_alloc_new _ _)⟩
  have hRX : Hid (∀ w, Below X.heap.size X w → RowR eKd w AnyB l a) := ⟨fun w hw => row_bel (row_bel hR hb0 (Nat.le_refl _)) hw (Nat.le_refl _)⟩
  have rk := hK.out _ (Below.refl _ _)
  have fk0 := frozen_of_row _ _ 0 _ _ rk
  have fk1 := frozen_of_row _ _ 1 _ _ rk
  have ck0 : X.cell? ⟨W.heap.size, 0, none⟩ = some (.int .i64 0) := cell_of_row _ _ 0 _ _ _ rk
  have ck1 : X.cell? ⟨W.heap.size, 1, none⟩ = some (.int .i64 0) := cell_of_row _ _ 1 _ _ _ rk
  have hA : Below X.heap.size X (X.alloc (.cells #[.int .i64 4] 3)) := (Below.refl _ _).alloc (Nat.le_refl _) _
  have hfi := first_any l a c [4] (some ⟨X.heap.size, 0, none⟩) 1 0 rfl _ (hRX.out _ hA) (row_in1 X 4 3) hl
  generalize fsF [4] l 0 = N at hfi ⊢
  clear hR
  go_enter Tryz.func100, Tryz.ntmps100
  go_wp2_with (go_at_call 107; refine hfi.mono ?_; rintro e w3 ⟨rfl, hb3⟩; have hB3 := belT hA hb3; have r3 := hK.out _ hB3; have fq0 := frozen_of_row _ _ 0 _ _ r3; have fq1 := frozen_of_row _ _ 1 _ _ r3; have cq0 := cell_of_row _ _ 0 _ _ _ r3; have cq1 := cell_of_row _ _ 1 _ _ _ r3)
  refine bodyPost_ret (v := .tuple #[.agg #[.int .i64 2, .int .i64 (-1)], .int .i64 N]) (results_cellK Tryz.results100 _ _ W.heap.size 88 _ (0, 0) _ rfl (row_two r3 _ _) Tryz.underlying88 rfl info_kd) rfl ?_
  exact ⟨rfl, bel_two (belT hb0 hB3) (Nat.le_refl _) _ _⟩
set_option maxRecDepth 20000 in
set_option maxHeartbeats 4000000 in
theorem nd_41 (l : List Kd) (a : Option Addr) (c : Nat) (W : World) (hR : RowR eKd W AnyB l a) (hl : l.length ≤ 1000) : Calls Tryz.prog 100 #[.int .i64 41, .slice a l.length c] W (NdP W (ndK 41 l)) := by
  have hf : ndK 41 l = ((2, -1), fsF [4] l 0) := rfl
  rw [hf]
  clear hf
  obtain ⟨X, hXe⟩ : ∃ X, W.alloc (.cells #[.int .i64 0, .int .i64 0] 88) = X := ⟨_, rfl⟩
  have hb0 : Below W.heap.size W X := by rw [← hXe]; exact (Below.refl _ _).alloc (Nat.le_refl _) _
  have hXl : W.heap.size < X.heap.size := by rw [← hXe]; simp
  have hK : Hid (∀ w, Below X.heap.size X w → w.heap[W.heap.size]? = some (.cells #[.int .i64 0, .int .i64 0] 88 (0, 0))) := ⟨fun w hb => (hb.block _ hXl).trans (by rw [← hXe]; exact heap_alloc_new _ _)⟩
  have hRX : Hid (∀ w, Below X.heap.size X w → RowR eKd w AnyB l a) := ⟨fun w hw => row_bel (row_bel hR hb0 (Nat.le_refl _)) hw (Nat.le_refl _)⟩
  have rk := hK.out _ (Below.refl _ _)
  have fk0 := frozen_of_row _ _ 0 _ _ rk
  have fk1 := frozen_of_row _ _ 1 _ _ rk
  have ck0 : X.cell? ⟨W.heap.size, 0, none⟩ = some (.int .i64 0) := cell_of_row _ _ 0 _ _ _ rk
  have ck1 : X.cell? ⟨W.heap.size, 1, none⟩ = some (.int .i64 0) := cell_of_row _ _ 1 _ _ _ rk
  have hA : Below X.heap.size X (X.alloc (.cells #[.int .i64 4] 3)) := (Below.refl _ _).alloc (Nat.le_refl _) _
  have hfi := first_any l a c [4] (some ⟨X.heap.size, 0, none⟩) 1 0 rfl _ (hRX.out _ hA) (row_in1 X 4 3) hl
  generalize fsF [4] l 0 = N at hfi ⊢
  clear hR
  go_enter Tryz.func100, Tryz.ntmps100
  go_wp2_with (go_at_call 107; refine hfi.mono ?_; rintro e w3 ⟨rfl, hb3⟩; have hB3 := belT hA hb3; have r3 := hK.out _ hB3; have fq0 := frozen_of_row _ _ 0 _ _ r3; have fq1 := frozen_of_row _ _ 1 _ _ r3; have cq0 := cell_of_row _ _ 0 _ _ _ r3; have cq1 := cell_of_row _ _ 1 _ _ _ r3)
  refine bodyPost_ret (v := .tuple #[.agg #[.int .i64 2, .int .i64 (-1)], .int .i64 N]) (results_cellK Tryz.results100 _ _ W.heap.size 88 _ (0, 0) _ rfl (row_two r3 _ _) Tryz.underlying88 rfl info_kd) rfl ?_
  exact ⟨rfl, bel_two (belT hb0 hB3) (Nat.le_refl _) _ _⟩
set_option maxRecDepth 20000 in
set_option maxHeartbeats 4000000 in
theorem nd_40 (l : List Kd) (a : Option Addr) (c : Nat) (W : World) (hR : RowR eKd W AnyB l a) (hl : l.length ≤ 1000) : Calls Tryz.prog 100 #[.int .i64 40, .slice a l.length c] W (NdP W (ndK 40 l)) := by
  have hf : ndK 40 l = ((4, -1), fsF [4, 2] l 0) := rfl
  rw [hf]
  clear hf
  obtain ⟨X, hXe⟩ : ∃ X, W.alloc (.cells #[.int .i64 0, .int .i64 0] 88) = X := ⟨_, rfl⟩
  have hb0 : Below W.heap.size W X := by rw [← hXe]; exact (Below.refl _ _).alloc (Nat.le_refl _) _
  have hXl : W.heap.size < X.heap.size := by rw [← hXe]; simp
  have hK : Hid (∀ w, Below X.heap.size X w → w.heap[W.heap.size]? = some (.cells #[.int .i64 0, .int .i64 0] 88 (0, 0))) := ⟨fun w hb => (hb.block _ hXl).trans (by rw [← hXe]; exact heap_alloc_new _ _)⟩
  have hRX : Hid (∀ w, Below X.heap.size X w → RowR eKd w AnyB l a) := ⟨fun w hw => row_bel (row_bel hR hb0 (Nat.le_refl _)) hw (Nat.le_refl _)⟩
  have rk := hK.out _ (Below.refl _ _)
  have fk0 := frozen_of_row _ _ 0 _ _ rk
  have fk1 := frozen_of_row _ _ 1 _ _ rk
  have ck0 : X.cell? ⟨W.heap.size, 0, none⟩ = some (.int .i64 0) := cell_of_row _ _ 0 _ _ _ rk
  have ck1 : X.cell? ⟨W.heap.size, 1, none⟩ = some (.int .i64 0) := cell_of_row _ _ 1 _ _ _ rk
  have hA : Below X.heap.size X (X.alloc (.cells #[.int .i64 4, .int .i64 2] 3)) := (Below.refl _ _).alloc (Nat.le_refl _) _
  have hfi := first_any l a c [4, 2] (some ⟨X.heap.size, 0, none⟩) 2 1 rfl _ (hRX.out _ hA) (row_in2 X 4 2 3) hl
  generalize fsF [4, 2] l 0 = N at hfi ⊢
  clear hR
  go_enter Tryz.func100, Tryz.ntmps100
  go_wp2_with (go_at_call 107; refine hfi.mono ?_; rintro e w3 ⟨rfl, hb3⟩; have hB3 := belT hA hb3; have r3 := hK.out _ hB3; have fq0 := frozen_of_row _ _ 0 _ _ r3; have fq1 := frozen_of_row _ _ 1 _ _ r3; have cq0 := cell_of_row _ _ 0 _ _ _ r3; have cq1 := cell_of_row _ _ 1 _ _ _ r3)
  refine bodyPost_ret (v := .tuple #[.agg #[.int .i64 4, .int .i64 (-1)], .int .i64 N]) (results_cellK Tryz.results100 _ _ W.heap.size 88 _ (0, 0) _ rfl (row_two r3 _ _) Tryz.underlying88 rfl info_kd) rfl ?_
  exact ⟨rfl, bel_two (belT hb0 hB3) (Nat.le_refl _) _ _⟩
end Go.Proofs.YtmklkcefbabhbaaGreat.R6


/- A node. -/
namespace Go.Proofs.YtmklkcefbabhbaaGreat.R6
open Go.RowKit

set_option maxRecDepth 20000 in
set_option maxHeartbeats 4000000 in
theorem nd_31 (l : List Kd) (a : Option Addr) (c : Nat) (W : World) (hR : RowR eKd W AnyB l a) (hl : l.length ≤ 1000) : Calls Tryz.prog 100 #[.int .i64 31, .slice a l.length c] W (NdP W (ndK 31 l)) := by
  have hf : ndK 31 l = ((3, -1), fsF [3] l 0) := rfl
  rw [hf]
  clear hf
  obtain ⟨X, hXe⟩ : ∃ X, W.alloc (.cells #[.int .i64 0, .int .i64 0] 88) = X := ⟨_, rfl⟩
  have hb0 : Below W.heap.size W X := by rw [← hXe]; exact (Below.refl _ _).alloc (Nat.le_refl _) _
  have hXl : W.heap.size < X.heap.size := by rw [← hXe]; simp
  have hK : Hid (∀ w, Below X.heap.size X w → w.heap[W.heap.size]? = some (.cells #[.int .i64 0, .int .i64 0] 88 (0, 0))) := ⟨fun w hb => (hb.block _ hXl).trans (by rw [← hXe]; exact heap_alloc_new _ _)⟩
  have hRX : Hid (∀ w, Below X.heap.size X w → RowR eKd w AnyB l a) := ⟨fun w hw => row_bel (row_bel hR hb0 (Nat.le_refl _)) hw (Nat.le_refl _)⟩
  have rk := hK.out _ (Below.refl _ _)
  have fk0 := frozen_of_row _ _ 0 _ _ rk
  have fk1 := frozen_of_row _ _ 1 _ _ rk
  have ck0 : X.cell? ⟨W.heap.size, 0, none⟩ = some (.int .i64 0) := cell_of_row _ _ 0 _ _ _ rk
  have ck1 : X.cell? ⟨W.heap.size, 1, none⟩ = some (.int .i64 0) := cell_of_row _ _ 1 _ _ _ rk
  have hA : Below X.heap.size X (X.alloc (.cells #[.int .i64 3] 3)) := (Below.refl _ _).alloc (Nat.le_refl _) _
  have hfi := first_any l a c [3] (some ⟨X.heap.size, 0, none⟩) 1 0 rfl _ (hRX.out _ hA) (row_in1 X 3 3) hl
  generalize fsF [3] l 0 = N at hfi ⊢
  clear hR
  go_enter Tryz.func100, Tryz.ntmps100
  go_wp2_with (go_at_call 107; refine hfi.mono ?_; rintro e w3 ⟨rfl, hb3⟩; have hB3 := belT hA hb3; have r3 := hK.out _ hB3; have fq0 := frozen_of_row _ _ 0 _ _ r3; have fq1 := frozen_of_row _ _ 1 _ _ r3; have cq0 := cell_of_row _ _ 0 _ _ _ r3; have cq1 := cell_of_row _ _ 1 _ _ _ r3)
  refine bodyPost_ret (v := .tuple #[.agg #[.int .i64 3, .int .i64 (-1)], .int .i64 N]) (results_cellK Tryz.results100 _ _ W.heap.size 88 _ (0, 0) _ rfl (row_two r3 _ _) Tryz.underlying88 rfl info_kd) rfl ?_
  exact ⟨rfl, bel_two (belT hb0 hB3) (Nat.le_refl _) _ _⟩
set_option maxRecDepth 20000 in
set_option maxHeartbeats 4000000 in
theorem nd_32 (l : List Kd) (a : Option Addr) (c : Nat) (W : World) (hR : RowR eKd W AnyB l a) (hl : l.length ≤ 1000) : Calls Tryz.prog 100 #[.int .i64 32, .slice a l.length c] W (NdP W (ndK 32 l)) := by
  have hf : ndK 32 l = ((3, -1), fsF [3] l 0) := rfl
  rw [hf]
  clear hf
  obtain ⟨X, hXe⟩ : ∃ X, W.alloc (.cells #[.int .i64 0, .int .i64 0] 88) = X := ⟨_, rfl⟩
  have hb0 : Below W.heap.size W X := by rw [← hXe]; exact (Below.refl _ _).alloc (Nat.le_refl _) _
  have hXl : W.heap.size < X.heap.size := by rw [← hXe]; simp
  have hK : Hid (∀ w, Below X.heap.size X w → w.heap[W.heap.size]? = some (.cells #[.int .i64 0, .int .i64 0] 88 (0, 0))) := ⟨fun w hb => (hb.block _ hXl).trans (by rw [← hXe]; exact heap_alloc_new _ _)⟩
  have hRX : Hid (∀ w, Below X.heap.size X w → RowR eKd w AnyB l a) := ⟨fun w hw => row_bel (row_bel hR hb0 (Nat.le_refl _)) hw (Nat.le_refl _)⟩
  have rk := hK.out _ (Below.refl _ _)
  have fk0 := frozen_of_row _ _ 0 _ _ rk
  have fk1 := frozen_of_row _ _ 1 _ _ rk
  have ck0 : X.cell? ⟨W.heap.size, 0, none⟩ = some (.int .i64 0) := cell_of_row _ _ 0 _ _ _ rk
  have ck1 : X.cell? ⟨W.heap.size, 1, none⟩ = some (.int .i64 0) := cell_of_row _ _ 1 _ _ _ rk
  have hA : Below X.heap.size X (X.alloc (.cells #[.int .i64 3] 3)) := (Below.refl _ _).alloc (Nat.le_refl _) _
  have hfi := first_any l a c [3] (some ⟨X.heap.size, 0, none⟩) 1 0 rfl _ (hRX.out _ hA) (row_in1 X 3 3) hl
  generalize fsF [3] l 0 = N at hfi ⊢
  clear hR
  go_enter Tryz.func100, Tryz.ntmps100
  go_wp2_with (go_at_call 107; refine hfi.mono ?_; rintro e w3 ⟨rfl, hb3⟩; have hB3 := belT hA hb3; have r3 := hK.out _ hB3; have fq0 := frozen_of_row _ _ 0 _ _ r3; have fq1 := frozen_of_row _ _ 1 _ _ r3; have cq0 := cell_of_row _ _ 0 _ _ _ r3; have cq1 := cell_of_row _ _ 1 _ _ _ r3)
  refine bodyPost_ret (v := .tuple #[.agg #[.int .i64 3, .int .i64 (-1)], .int .i64 N]) (results_cellK Tryz.results100 _ _ W.heap.size 88 _ (0, 0) _ rfl (row_two r3 _ _) Tryz.underlying88 rfl info_kd) rfl ?_
  exact ⟨rfl, bel_two (belT hb0 hB3) (Nat.le_refl _) _ _⟩
set_option maxRecDepth 20000 in
set_option maxHeartbeats 4000000 in
theorem nd_33 (l : List Kd) (a : Option Addr) (c : Nat) (W : World) (hR : RowR eKd W AnyB l a) (hl : l.length ≤ 1000) : Calls Tryz.prog 100 #[.int .i64 33, .slice a l.length c] W (NdP W (ndK 33 l)) := by
  have hf : ndK 33 l = ((3, -1), fsF [3] l 0) := rfl
  rw [hf]
  clear hf
  obtain ⟨X, hXe⟩ : ∃ X, W.alloc (.cells #[.int .i64 0, .int .i64 0] 88) = X := ⟨_, rfl⟩
  have hb0 : Below W.heap.size W X := by rw [← hXe]; exact (Below.refl _ _).alloc (Nat.le_refl _) _
  have hXl : W.heap.size < X.heap.size := by rw [← hXe]; simp
  have hK : Hid (∀ w, Below X.heap.size X w → w.heap[W.heap.size]? = some (.cells #[.int .i64 0, .int .i64 0] 88 (0, 0))) := ⟨fun w hb => (hb.block _ hXl).trans (by rw [← hXe]; exact heap_alloc_new _ _)⟩
  have hRX : Hid (∀ w, Below X.heap.size X w → RowR eKd w AnyB l a) := ⟨fun w hw => row_bel (row_bel hR hb0 (Nat.le_refl _)) hw (Nat.le_refl _)⟩
  have rk := hK.out _ (Below.refl _ _)
  have fk0 := frozen_of_row _ _ 0 _ _ rk
  have fk1 := frozen_of_row _ _ 1 _ _ rk
  have ck0 : X.cell? ⟨W.heap.size, 0, none⟩ = some (.int .i64 0) := cell_of_row _ _ 0 _ _ _ rk
  have ck1 : X.cell? ⟨W.heap.size, 1, none⟩ = some (.int .i64 0) := cell_of_row _ _ 1 _ _ _ rk
  have hA : Below X.heap.size X (X.alloc (.cells #[.int .i64 3] 3)) := (Below.refl _ _).alloc (Nat.le_refl _) _
  have hfi := first_any l a c [3] (some ⟨X.heap.size, 0, none⟩) 1 0 rfl _ (hRX.out _ hA) (row_in1 X 3 3) hl
  generalize fsF [3] l 0 = N at hfi ⊢
  clear hR
  go_enter Tryz.func100, Tryz.ntmps100
  go_wp2_with (go_at_call 107; refine hfi.mono ?_; rintro e w3 ⟨rfl, hb3⟩; have hB3 := belT hA hb3; have r3 := hK.out _ hB3; have fq0 := frozen_of_row _ _ 0 _ _ r3; have fq1 := frozen_of_row _ _ 1 _ _ r3; have cq0 := cell_of_row _ _ 0 _ _ _ r3; have cq1 := cell_of_row _ _ 1 _ _ _ r3)
  refine bodyPost_ret (v := .tuple #[.agg #[.int .i64 3, .int .i64 (-1)], .int .i64 N]) (results_cellK Tryz.results100 _ _ W.heap.size 88 _ (0, 0) _ rfl (row_two r3 _ _) Tryz.underlying88 rfl info_kd) rfl ?_
  exact ⟨rfl, bel_two (belT hb0 hB3) (Nat.le_refl _) _ _⟩
set_option maxRecDepth 20000 in
set_option maxHeartbeats 4000000 in
theorem nd_35 (l : List Kd) (a : Option Addr) (c : Nat) (W : World) (hR : RowR eKd W AnyB l a) : Calls Tryz.prog 100 #[.int .i64 35, .slice a l.length c] W (NdP W (ndK 35 l)) := by
  have hf : ndK 35 l = ((3, -1), -1) := rfl
  rw [hf]
  clear hf
  obtain ⟨X, hXe⟩ : ∃ X, W.alloc (.cells #[.int .i64 0, .int .i64 0] 88) = X := ⟨_, rfl⟩
  have hb0 : Below W.heap.size W X := by rw [← hXe]; exact (Below.refl _ _).alloc (Nat.le_refl _) _
  have hXl : W.heap.size < X.heap.size := by rw [← hXe]; simp
  have hK : Hid (∀ w, Below X.heap.size X w → w.heap[W.heap.size]? = some (.cells #[.int .i64 0, .int .i64 0] 88 (0, 0))) := ⟨fun w hb => (hb.block _ hXl).trans (by rw [← hXe]; exact heap_alloc_new _ _)⟩
  have hRX : Hid (∀ w, Below X.heap.size X w → RowR eKd w AnyB l a) := ⟨fun w hw => row_bel (row_bel hR hb0 (Nat.le_refl _)) hw (Nat.le_refl _)⟩
  have rk := hK.out _ (Below.refl _ _)
  have fk0 := frozen_of_row _ _ 0 _ _ rk
  have fk1 := frozen_of_row _ _ 1 _ _ rk
  have ck0 : X.cell? ⟨W.heap.size, 0, none⟩ = some (.int .i64 0) := cell_of_row _ _ 0 _ _ _ rk
  have ck1 : X.cell? ⟨W.heap.size, 1, none⟩ = some (.int .i64 0) := cell_of_row _ _ 1 _ _ _ rk
  clear hR
  go_enter Tryz.func100, Tryz.ntmps100
  go_wp2
  refine bodyPost_ret (v := .tuple #[.agg #[.int .i64 3, .int .i64 (-1)], .int .i64 (-1)]) (results_cellK Tryz.results100 _ _ W.heap.size 88 _ (0, 0) _ rfl (row_two rk _ _) Tryz.underlying88 rfl info_kd) rfl ?_
  exact ⟨rfl, bel_two hb0 (Nat.le_refl _) _ _⟩
end Go.Proofs.YtmklkcefbabhbaaGreat.R6
