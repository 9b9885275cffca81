import Derived.Test.YtmklkcefbabhbaaGreatJoin33
import Derived.Deep.RegionLaw
import Derived.BigQuiet
/- A node. -/
namespace Go.Proofs.YtmklkcefbabhbaaGreat.R6
open Go.RowKit

set_option maxRecDepth 20000 in
set_option maxHeartbeats 4000000 in
theorem nd_13 (l : List Kd) (a : Option Addr) (c : Nat) (W : World) (hR : RowR eKd W AnyB l a) (hl : l.length ≤ 1000) (h1 : 0 < l.length) : Calls Tryz.prog 100 #[.int .i64 13, .slice a l.length c] W (NdP W (ndK 13 l)) := by
  have hf : ndK 13 l = (l.getD 0 (0, 0), alF false (l.getD 0 (0, 0)).1 l 0) := rfl
  rw [hf]
  clear hf
  obtain ⟨ge, oe, rfl⟩ := hR.some h1
  have hge := row_lt hR h1
  obtain ⟨X, hXe⟩ : ∃ X, W.alloc (.cells #[.int .i64 0, .int .i64 0] 88) = X := ⟨_, rfl⟩
  have hb0 : Below W.heap.size W X := by rw [← hXe]; exact (Below.refl _ _).alloc (Nat.le_refl _) _
  have hXl : W.heap.size < X.heap.size := by rw [← hXe]; simp
  have hK : Hid (∀ w, Below X.heap.size X w → w.heap[W.heap.size]? = some (.cells #[.int .i64 0, .int .i64 0] 88 (0, 0))) := ⟨fun w hb => (hb.block _ hXl).trans (by rw [← hXe]; exact heap_alloc_new _ _)⟩
  have hRX : Hid (∀ w, Below X.heap.size X w → RowR eKd w AnyB l (some ⟨ge, oe, none⟩)) := ⟨fun w hw => row_bel (row_bel hR hb0 (Nat.le_refl _)) hw (Nat.le_refl _)⟩
  have rk := hK.out _ (Below.refl _ _)
  have fk0 := frozen_of_row _ _ 0 _ _ rk
  have fk1 := frozen_of_row _ _ 1 _ _ rk
  have ck0 : X.cell? ⟨W.heap.size, 0, none⟩ = some (.int .i64 0) := cell_of_row _ _ 0 _ _ _ rk
  have ck1 : X.cell? ⟨W.heap.size, 1, none⟩ = some (.int .i64 0) := cell_of_row _ _ 1 _ _ _ rk
  have hC : Hid (∀ w, Below X.heap.size X w → w.cell? ⟨ge, oe, none⟩ = some (.int .i64 (l.getD 0 (0, 0)).1) ∧ w.cell? ⟨ge, oe + 1, none⟩ = some (.int .i64 (l.getD 0 (0, 0)).2)) := ⟨fun w hw => by
    have h := hRX.out w hw
    exact ⟨(kd_cells h (i := 0) (by omega)).1, (kd_cells h (i := 0) (by omega)).2⟩⟩
  have D0 : Below X.heap.size X X.drew := (Below.refl _ _).drew
  have hal := alike_none l (some ⟨ge, oe, none⟩) c (l.getD 0 (0, 0)).1 (fun h => by rw [List.getD_eq_getElem?_getD, List.getElem?_eq_getElem h, Option.getD_some]) X.drew (hRX.out _ D0) hl
  generalize alF false (l.getD 0 (0, 0)).1 l 0 = N at hal ⊢
  generalize l.getD 0 (0, 0) = k0 at *
  obtain ⟨j0, j1⟩ := hC.out _ D0
  obtain ⟨i0, i1⟩ := hC.out _ (Below.refl _ _)
  have ek0 : X.drew.cell? ⟨W.heap.size, 0, none⟩ = some (.int .i64 0) := ck0
  have ek1 : X.drew.cell? ⟨W.heap.size, 1, none⟩ = some (.int .i64 0) := ck1
  have gk0 : X.drew.frozen? ⟨W.heap.size, 0, none⟩ = false := fk0
  have gk1 : X.drew.frozen? ⟨W.heap.size, 1, none⟩ = false := fk1
  have hp0 : (0 : Int) < (l.length : Int) := by omega
  clear hR
  go_enter Tryz.func100, Tryz.ntmps100
  go_upto_region 9 with fail
  first | (go_region_law (go_simp; go_at_call 106; refine hal.mono ?_; rintro e w3 ⟨rfl, hb3⟩; have hB3 := belT D0 hb3; obtain ⟨n0, n1⟩ := hC.out _ hB3; have r3 := hK.out _ hB3; have fq0 := frozen_of_row _ _ 0 _ _ r3; have fq1 := frozen_of_row _ _ 1 _ _ r3; have cq0 := cell_of_row _ _ 0 _ _ _ r3; have cq1 := cell_of_row _ _ 1 _ _ _ r3)) | fail
  all_goals (refine Met.intro ?_; go_step)
  all_goals go_wp2
  all_goals
    refine bodyPost_ret (v := .tuple #[.agg #[.int .i64 k0.1, .int .i64 k0.2], .int .i64 N]) (results_cellK Tryz.results100 _ _ W.heap.size 88 _ (0, 0) _ rfl (row_two r3 _ _) Tryz.underlying88 rfl info_kd) rfl ?_
    exact ⟨rfl, bel_two (belT hb0 hB3) (Nat.le_refl _) _ _⟩
set_option maxRecDepth 20000 in
set_option maxHeartbeats 4000000 in
theorem nd_14 (l : List Kd) (a : Option Addr) (c : Nat) (W : World) (hR : RowR eKd W AnyB l a) (hl : l.length ≤ 1000) (h1 : 0 < l.length) : Calls Tryz.prog 100 #[.int .i64 14, .slice a l.length c] W (NdP W (ndK 14 l)) := by
  have hf : ndK 14 l = (l.getD 0 (0, 0), alF false (l.getD 0 (0, 0)).1 l 0) := rfl
  rw [hf]
  clear hf
  obtain ⟨ge, oe, rfl⟩ := hR.some h1
  have hge := row_lt hR h1
  obtain ⟨X, hXe⟩ : ∃ X, W.alloc (.cells #[.int .i64 0, .int .i64 0] 88) = X := ⟨_, rfl⟩
  have hb0 : Below W.heap.size W X := by rw [← hXe]; exact (Below.refl _ _).alloc (Nat.le_refl _) _
  have hXl : W.heap.size < X.heap.size := by rw [← hXe]; simp
  have hK : Hid (∀ w, Below X.heap.size X w → w.heap[W.heap.size]? = some (.cells #[.int .i64 0, .int .i64 0] 88 (0, 0))) := ⟨fun w hb => (hb.block _ hXl).trans (by rw [← hXe]; exact heap_alloc_new _ _)⟩
  have hRX : Hid (∀ w, Below X.heap.size X w → RowR eKd w AnyB l (some ⟨ge, oe, none⟩)) := ⟨fun w hw => row_bel (row_bel hR hb0 (Nat.le_refl _)) hw (Nat.le_refl _)⟩
  have rk := hK.out _ (Below.refl _ _)
  have fk0 := frozen_of_row _ _ 0 _ _ rk
  have fk1 := frozen_of_row _ _ 1 _ _ rk
  have ck0 : X.cell? ⟨W.heap.size, 0, none⟩ = some (.int .i64 0) := cell_of_row _ _ 0 _ _ _ rk
  have ck1 : X.cell? ⟨W.heap.size, 1, none⟩ = some (.int .i64 0) := cell_of_row _ _ 1 _ _ _ rk
  have hC : Hid (∀ w, Below X.heap.size X w → w.cell? ⟨ge, oe, none⟩ = some (.int .i64 (l.getD 0 (0, 0)).1) ∧ w.cell? ⟨ge, oe + 1, none⟩ = some (.int .i64 (l.getD 0 (0, 0)).2)) := ⟨fun w hw => by
    have h := hRX.out w hw
    exact ⟨(kd_cells h (i := 0) (by omega)).1, (kd_cells h (i := 0) (by omega)).2⟩⟩
  have D0 : Below X.heap.size X X.drew := (Below.refl _ _).drew
  have hal := alike_none l (some ⟨ge, oe, none⟩) c (l.getD 0 (0, 0)).1 (fun h => by rw [List.getD_eq_getElem?_getD, List.getElem?_eq_getElem h, Option.getD_some]) X.drew (hRX.out _ D0) hl
  generalize alF false (l.getD 0 (0, 0)).1 l 0 = N at hal ⊢
  generalize l.getD 0 (0, 0) = k0 at *
  obtain ⟨j0, j1⟩ := hC.out _ D0
  obtain ⟨i0, i1⟩ := hC.out _ (Below.refl _ _)
  have ek0 : X.drew.cell? ⟨W.heap.size, 0, none⟩ = some (.int .i64 0) := ck0
  have ek1 : X.drew.cell? ⟨W.heap.size, 1, none⟩ = some (.int .i64 0) := ck1
  have gk0 : X.drew.frozen? ⟨W.heap.size, 0, none⟩ = false := fk0
  have gk1 : X.drew.frozen? ⟨W.heap.size, 1, none⟩ = false := fk1
  have hp0 : (0 : Int) < (l.length : Int) := by omega
  clear hR
  go_enter Tryz.func100, Tryz.ntmps100
  go_upto_region 9 with fail
  first | (go_region_law (go_simp; go_at_call 106; refine hal.mono ?_; rintro e w3 ⟨rfl, hb3⟩; have hB3 := belT D0 hb3; obtain ⟨n0, n1⟩ := hC.out _ hB3; have r3 := hK.out _ hB3; have fq0 := frozen_of_row _ _ 0 _ _ r3; have fq1 := frozen_of_row _ _ 1 _ _ r3; have cq0 := cell_of_row _ _ 0 _ _ _ r3; have cq1 := cell_of_row _ _ 1 _ _ _ r3)) | fail
  all_goals (refine Met.intro ?_; go_step)
  all_goals go_wp2
  all_goals
    refine bodyPost_ret (v := .tuple #[.agg #[.int .i64 k0.1, .int .i64 k0.2], .int .i64 N]) (results_cellK Tryz.results100 _ _ W.heap.size 88 _ (0, 0) _ rfl (row_two r3 _ _) Tryz.underlying88 rfl info_kd) rfl ?_
    exact ⟨rfl, bel_two (belT hb0 hB3) (Nat.le_refl _) _ _⟩
set_option maxRecDepth 20000 in
set_option maxHeartbeats 4000000 in
theorem nd_15 (l : List Kd) (a : Option Addr) (c : Nat) (W : World) (hR : RowR eKd W AnyB l a) (hl : l.length ≤ 1000) (h1 : 0 < l.length) : Calls Tryz.prog 100 #[.int .i64 15, .slice a l.length c] W (NdP W (ndK 15 l)) := by
  have hf : ndK 15 l = (l.getD 0 (0, 0), alF false (l.getD 0 (0, 0)).1 l 0) := rfl
  rw [hf]
  clear hf
  obtain ⟨ge, oe, rfl⟩ := hR.some h1
  have hge := row_lt hR h1
  obtain ⟨X, hXe⟩ : ∃ X, W.alloc (.cells #[.int .i64 0, .int .i64 0] 88) = X := ⟨_, rfl⟩
  have hb0 : Below W.heap.size W X := by rw [← hXe]; exact (Below.refl _ _).alloc (Nat.le_refl _) _
  have hXl : W.heap.size < X.heap.size := by rw [← hXe]; simp
  have hK : Hid (∀ w, Below X.heap.size X w → w.heap[W.heap.size]? = some (.cells #[.int .i64 0, .int .i64 0] 88 (0, 0))) := ⟨fun w hb => (hb.block _ hXl).trans (by rw [← hXe]; exact heap_alloc_new _ _)⟩
  have hRX : Hid (∀ w, Below X.heap.size X w → RowR eKd w AnyB l (some ⟨ge, oe, none⟩)) := ⟨fun w hw => row_bel (row_bel hR hb0 (Nat.le_refl _)) hw (Nat.le_refl _)⟩
  have rk := hK.out _ (Below.refl _ _)
  have fk0 := frozen_of_row _ _ 0 _ _ rk
  have fk1 := frozen_of_row _ _ 1 _ _ rk
  have ck0 : X.cell? ⟨W.heap.size, 0, none⟩ = some (.int .i64 0) := cell_of_row _ _ 0 _ _ _ rk
  have ck1 : X.cell? ⟨W.heap.size, 1, none⟩ = some (.int .i64 0) := cell_of_row _ _ 1 _ _ _ rk
  have hC : Hid (∀ w, Below X.heap.size X w → w.cell? ⟨ge, oe, none⟩ = some (.int .i64 (l.getD 0 (0, 0)).1) ∧ w.cell? ⟨ge, oe + 1, none⟩ = some (.int .i64 (l.getD 0 (0, 0)).2)) := ⟨fun w hw => by
    have h := hRX.out w hw
    exact ⟨(kd_cells h (i := 0) (by omega)).1, (kd_cells h (i := 0) (by omega)).2⟩⟩
  have D0 : Below X.heap.size X X.drew := (Below.refl _ _).drew
  have hal := alike_none l (some ⟨ge, oe, none⟩) c (l.getD 0 (0, 0)).1 (fun h => by rw [List.getD_eq_getElem?_getD, List.getElem?_eq_getElem h, Option.getD_some]) X.drew (hRX.out _ D0) hl
  generalize alF false (l.getD 0 (0, 0)).1 l 0 = N at hal ⊢
  generalize l.getD 0 (0, 0) = k0 at *
  obtain ⟨j0, j1⟩ := hC.out _ D0
  obtain ⟨i0, i1⟩ := hC.out _ (Below.refl _ _)
  have ek0 : X.drew.cell? ⟨W.heap.size, 0, none⟩ = some (.int .i64 0) := ck0
  have ek1 : X.drew.cell? ⟨W.heap.size, 1, none⟩ = some (.int .i64 0) := ck1
  have gk0 : X.drew.frozen? ⟨W.heap.size, 0, none⟩ = false := fk0
  have gk1 : X.drew.frozen? ⟨W.heap.size, 1, none⟩ = false := fk1
  have hp0 : (0 : Int) < (l.length : Int) := by omega
  clear hR
  go_enter Tryz.func100, Tryz.ntmps100
  go_upto_region 9 with fail
  first | (go_region_law (go_simp; go_at_call 106; refine hal.mono ?_; rintro e w3 ⟨rfl, hb3⟩; have hB3 := belT D0 hb3; obtain ⟨n0, n1⟩ := hC.out _ hB3; have r3 := hK.out _ hB3; have fq0 := frozen_of_row _ _ 0 _ _ r3; have fq1 := frozen_of_row _ _ 1 _ _ r3; have cq0 := cell_of_row _ _ 0 _ _ _ r3; have cq1 := cell_of_row _ _ 1 _ _ _ r3)) | fail
  all_goals (refine Met.intro ?_; go_step)
  all_goals go_wp2
  all_goals
    refine bodyPost_ret (v := .tuple #[.agg #[.int .i64 k0.1, .int .i64 k0.2], .int .i64 N]) (results_cellK Tryz.results100 _ _ W.heap.size 88 _ (0, 0) _ rfl (row_two r3 _ _) Tryz.underlying88 rfl info_kd) rfl ?_
    exact ⟨rfl, bel_two (belT hb0 hB3) (Nat.le_refl _) _ _⟩
set_option maxRecDepth 20000 in
set_option maxHeartbeats 4000000 in
theorem nd_19 (l : List Kd) (a : Option Addr) (c : Nat) (W : World) (hR : RowR eKd W AnyB l a) (hl : l.length ≤ 1000) (h1 : 0 < l.length) : Calls Tryz.prog 100 #[.int .i64 19, .slice a l.length c] W (NdP W (ndK 19 l)) := by
  have hf : ndK 19 l = (l.getD 0 (0, 0), alF false (l.getD 0 (0, 0)).1 l 0) := rfl
  rw [hf]
  clear hf
  obtain ⟨ge, oe, rfl⟩ := hR.some h1
  have hge := row_lt hR h1
  obtain ⟨X, hXe⟩ : ∃ X, W.alloc (.cells #[.int .i64 0, .int .i64 0] 88) = X := ⟨_, rfl⟩
  have hb0 : Below W.heap.size W X := by rw [← hXe]; exact (Below.refl _ _).alloc (Nat.le_refl _) _
  have hXl : W.heap.size < X.heap.size := by rw [← hXe]; simp
  have hK : Hid (∀ w, Below X.heap.size X w → w.heap[W.heap.size]? = some (.cells #[.int .i64 0, .int .i64 0] 88 (0, 0))) := ⟨fun w hb => (hb.block _ hXl).trans (by rw [← hXe]; exact heap_alloc_new _ _)⟩
  have hRX : Hid (∀ w, Below X.heap.size X w → RowR eKd w AnyB l (some ⟨ge, oe, none⟩)) := ⟨fun w hw => row_bel (row_bel hR hb0 (Nat.le_refl _)) hw (Nat.le_refl _)⟩
  have rk := hK.out _ (Below.refl _ _)
  have fk0 := frozen_of_row _ _ 0 _ _ rk
  have fk1 := frozen_of_row _ _ 1 _ _ rk
  have ck0 : X.cell? ⟨W.heap.size, 0, none⟩ = some (.int .i64 0) := cell_of_row _ _ 0 _ _ _ rk
  have ck1 : X.cell? ⟨W.heap.size, 1, none⟩ = some (.int .i64 0) := cell_of_row _ _ 1 _ _ _ rk
  have hC : Hid (∀ w, Below X.heap.size X w → w.cell? ⟨ge, oe, none⟩ = some (.int .i64 (l.getD 0 (0, 0)).1) ∧ w.cell? ⟨ge, oe + 1, none⟩ = some (.int .i64 (l.getD 0 (0, 0)).2)) := ⟨fun w hw => by
    have h := hRX.out w hw
    exact ⟨(kd_cells h (i := 0) (by omega)).1, (kd_cells h (i := 0) (by omega)).2⟩⟩
  have D0 : Below X.heap.size X X.drew := (Below.refl _ _).drew
  have hal := alike_none l (some ⟨ge, oe, none⟩) c (l.getD 0 (0, 0)).1 (fun h => by rw [List.getD_eq_getElem?_getD, List.getElem?_eq_getElem h, Option.getD_some]) X.drew (hRX.out _ D0) hl
  generalize alF false (l.getD 0 (0, 0)).1 l 0 = N at hal ⊢
  generalize l.getD 0 (0, 0) = k0 at *
  obtain ⟨j0, j1⟩ := hC.out _ D0
  obtain ⟨i0, i1⟩ := hC.out _ (Below.refl _ _)
  have ek0 : X.drew.cell? ⟨W.heap.size, 0, none⟩ = some (.int .i64 0) := ck0
  have ek1 : X.drew.cell? ⟨W.heap.size, 1, none⟩ = some (.int .i64 0) := ck1
  have gk0 : X.drew.frozen? ⟨W.heap.size, 0, none⟩ = false := fk0
  have gk1 : X.drew.frozen? ⟨W.heap.size, 1, none⟩ = false := fk1
  have hp0 : (0 : Int) < (l.length : Int) := by omega
  clear hR
  go_enter Tryz.func100, Tryz.ntmps100
  go_upto_region 9 with fail
  first | (go_region_law (go_simp; go_at_call 106; refine hal.mono ?_; rintro e w3 ⟨rfl, hb3⟩; have hB3 := belT D0 hb3; obtain ⟨n0, n1⟩ := hC.out _ hB3; have r3 := hK.out _ hB3; have fq0 := frozen_of_row _ _ 0 _ _ r3; have fq1 := frozen_of_row _ _ 1 _ _ r3; have cq0 := cell_of_row _ _ 0 _ _ _ r3; have cq1 := cell_of_row _ _ 1 _ _ _ r3)) | fail
  all_goals (refine Met.intro ?_; go_step)
  all_goals go_wp2
  all_goals
    refine bodyPost_ret (v := .tuple #[.agg #[.int .i64 k0.1, .int .i64 k0.2], .int .i64 N]) (results_cellK Tryz.results100 _ _ W.heap.size 88 _ (0, 0) _ rfl (row_two r3 _ _) Tryz.underlying88 rfl info_kd) rfl ?_
    exact ⟨rfl, bel_two (belT hb0 hB3) (Nat.le_refl _) _ _⟩
end Go.Proofs.YtmklkcefbabhbaaGreat.R6


/- A node. -/
namespace Go.Proofs.YtmklkcefbabhbaaGreat.R6
open Go.RowKit

set_option maxRecDepth 20000 in
set_option maxHeartbeats 4000000 in
theorem nd_27 (l : List Kd) (a : Option Addr) (c : Nat) (W : World) (hR : RowR eKd W AnyB l a) (hl : l.length ≤ 1000) : Calls Tryz.prog 100 #[.int .i64 27, .slice a l.length c] W (NdP W (ndK 27 l)) := by
  have hf : ndK 27 l = ((3, -1), alF true (l.getD 0 (0, 0)).1 l 0) := rfl
  rw [hf]
  clear hf
  obtain ⟨X, hXe⟩ : ∃ X, W.alloc (.cells #[.int .i64 0, .int .i64 0] 88) = X := ⟨_, rfl⟩
  have hb0 : Below W.heap.size W X := by rw [← hXe]; exact (Below.refl _ _).alloc (Nat.le_refl _) _
  have hXl : W.heap.size < X.heap.size := by rw [← hXe]; simp
  have hK : Hid (∀ w, Below X.heap.size X w → w.heap[W.heap.size]? = some (.cells #[.int .i64 0, .int .i64 0] 88 (0, 0))) := ⟨fun w hb => (hb.block _ hXl).trans (by rw [← hXe]; exact heap_alloc_new _ _)⟩
  have hRX : Hid (∀ w, Below X.heap.size X w → RowR eKd w AnyB l a) := ⟨fun w hw => row_bel (row_bel hR hb0 (Nat.le_refl _)) hw (Nat.le_refl _)⟩
  have rk := hK.out _ (Below.refl _ _)
  have fk0 := frozen_of_row _ _ 0 _ _ rk
  have fk1 := frozen_of_row _ _ 1 _ _ rk
  have ck0 : X.cell? ⟨W.heap.size, 0, none⟩ = some (.int .i64 0) := cell_of_row _ _ 0 _ _ _ rk
  have ck1 : X.cell? ⟨W.heap.size, 1, none⟩ = some (.int .i64 0) := cell_of_row _ _ 1 _ _ _ rk
  have hal := alike_days l a c (l.getD 0 (0, 0)).1 (fun h => by rw [List.getD_eq_getElem?_getD, List.getElem?_eq_getElem h, Option.getD_some]) X (hRX.out _ (Below.refl _ _)) hl
  generalize alF true (l.getD 0 (0, 0)).1 l 0 = N at hal ⊢
  clear hR
  go_enter Tryz.func100, Tryz.ntmps100
  go_wp2_with (go_at_call 106; refine hal.mono ?_; rintro e w3 ⟨rfl, hB3⟩; have r3 := hK.out _ hB3; have fq0 := frozen_of_row _ _ 0 _ _ r3; have fq1 := frozen_of_row _ _ 1 _ _ r3; have cq0 := cell_of_row _ _ 0 _ _ _ r3; have cq1 := cell_of_row _ _ 1 _ _ _ r3)
  refine bodyPost_ret (v := .tuple #[.agg #[.int .i64 3, .int .i64 (-1)], .int .i64 N]) (results_cellK Tryz.results100 _ _ W.heap.size 88 _ (0, 0) _ rfl (row_two r3 _ _) Tryz.underlying88 rfl info_kd) rfl ?_
  exact ⟨rfl, bel_two (belT hb0 hB3) (Nat.le_refl _) _ _⟩
set_option maxRecDepth 20000 in
set_option maxHeartbeats 4000000 in
theorem nd_28 (l : List Kd) (a : Option Addr) (c : Nat) (W : World) (hR : RowR eKd W AnyB l a) (hl : l.length ≤ 1000) : Calls Tryz.prog 100 #[.int .i64 28, .slice a l.length c] W (NdP W (ndK 28 l)) := by
  have hf : ndK 28 l = ((3, -1), alF true (l.getD 0 (0, 0)).1 l 0) := rfl
  rw [hf]
  clear hf
  obtain ⟨X, hXe⟩ : ∃ X, W.alloc (.cells #[.int .i64 0, .int .i64 0] 88) = X := ⟨_, rfl⟩
  have hb0 : Below W.heap.size W X := by rw [← hXe]; exact (Below.refl _ _).alloc (Nat.le_refl _) _
  have hXl : W.heap.size < X.heap.size := by rw [← hXe]; simp
  have hK : Hid (∀ w, Below X.heap.size X w → w.heap[W.heap.size]? = some (.cells #[.int .i64 0, .int .i64 0] 88 (0, 0))) := ⟨fun w hb => (hb.block _ hXl).trans (by rw [← hXe]; exact heap_alloc_new _ _)⟩
  have hRX : Hid (∀ w, Below X.heap.size X w → RowR eKd w AnyB l a) := ⟨fun w hw => row_bel (row_bel hR hb0 (Nat.le_refl _)) hw (Nat.le_refl _)⟩
  have rk := hK.out _ (Below.refl _ _)
  have fk0 := frozen_of_row _ _ 0 _ _ rk
  have fk1 := frozen_of_row _ _ 1 _ _ rk
  have ck0 : X.cell? ⟨W.heap.size, 0, none⟩ = some (.int .i64 0) := cell_of_row _ _ 0 _ _ _ rk
  have ck1 : X.cell? ⟨W.heap.size, 1, none⟩ = some (.int .i64 0) := cell_of_row _ _ 1 _ _ _ rk
  have hal := alike_days l a c (l.getD 0 (0, 0)).1 (fun h => by rw [List.getD_eq_getElem?_getD, List.getElem?_eq_getElem h, Option.getD_some]) X (hRX.out _ (Below.refl _ _)) hl
  generalize alF true (l.getD 0 (0, 0)).1 l 0 = N at hal ⊢
  clear hR
  go_enter Tryz.func100, Tryz.ntmps100
  go_wp2_with (go_at_call 106; refine hal.mono ?_; rintro e w3 ⟨rfl, hB3⟩; have r3 := hK.out _ hB3; have fq0 := frozen_of_row _ _ 0 _ _ r3; have fq1 := frozen_of_row _ _ 1 _ _ r3; have cq0 := cell_of_row _ _ 0 _ _ _ r3; have cq1 := cell_of_row _ _ 1 _ _ _ r3)
  refine bodyPost_ret (v := .tuple #[.agg #[.int .i64 3, .int .i64 (-1)], .int .i64 N]) (results_cellK Tryz.results100 _ _ W.heap.size 88 _ (0, 0) _ rfl (row_two r3 _ _) Tryz.underlying88 rfl info_kd) rfl ?_
  exact ⟨rfl, bel_two (belT hb0 hB3) (Nat.le_refl _) _ _⟩
set_option maxRecDepth 20000 in
set_option maxHeartbeats 4000000 in
theorem nd_29 (l : List Kd) (a : Option Addr) (c : Nat) (W : World) (hR : RowR eKd W AnyB l a) (hl : l.length ≤ 1000) : Calls Tryz.prog 100 #[.int .i64 29, .slice a l.length c] W (NdP W (ndK 29 l)) := by
  have hf : ndK 29 l = ((3, -1), alF true (l.getD 0 (0, 0)).1 l 0) := rfl
  rw [hf]
  clear hf
  obtain ⟨X, hXe⟩ : ∃ X, W.alloc (.cells #[.int .i64 0, .int .i64 0] 88) = X := ⟨_, rfl⟩
  have hb0 : Below W.heap.size W X := by rw [← hXe]; exact (Below.refl _ _).alloc (Nat.le_refl _) _
  have hXl : W.heap.size < X.heap.size := by rw [← hXe]; simp
  have hK : Hid (∀ w, Below X.heap.size X w → w.heap[W.heap.size]? = some (.cells #[.int .i64 0, .int .i64 0] 88 (0, 0))) := ⟨fun w hb => (hb.block _ hXl).trans (by rw [← hXe]; exact heap_alloc_new _ _)⟩
  have hRX : Hid (∀ w, Below X.heap.size X w → RowR eKd w AnyB l a) := ⟨fun w hw => row_bel (row_bel hR hb0 (Nat.le_refl _)) hw (Nat.le_refl _)⟩
  have rk := hK.out _ (Below.refl _ _)
  have fk0 := frozen_of_row _ _ 0 _ _ rk
  have fk1 := frozen_of_row _ _ 1 _ _ rk
  have ck0 : X.cell? ⟨W.heap.size, 0, none⟩ = some (.int .i64 0) := cell_of_row _ _ 0 _ _ _ rk
  have ck1 : X.cell? ⟨W.heap.size, 1, none⟩ = some (.int .i64 0) := cell_of_row _ _ 1 _ _ _ rk
  have hal := alike_days l a c (l.getD 0 (0, 0)).1 (fun h => by rw [List.getD_eq_getElem?_getD, List.getElem?_eq_getElem h, Option.getD_some]) X (hRX.out _ (Below.refl _ _)) hl
  generalize alF true (l.getD 0 (0, 0)).1 l 0 = N at hal ⊢
  clear hR
  go_enter Tryz.func100, Tryz.ntmps100
  go_wp2_with (go_at_call 106; refine hal.mono ?_; rintro e w3 ⟨rfl, hB3⟩; have r3 := hK.out _ hB3; have fq0 := frozen_of_row _ _ 0 _ _ r3; have fq1 := frozen_of_row _ _ 1 _ _ r3; have cq0 := cell_of_row _ _ 0 _ _ _ r3; have cq1 := cell_of_row _ _ 1 _ _ _ r3)
  refine bodyPost_ret (v := .tuple #[.agg #[.int .i64 3, .int .i64 (-1)], .int .i64 N]) (results_cellK Tryz.results100 _ _ W.heap.size 88 _ (0, 0) _ rfl (row_two r3 _ _) Tryz.underlying88 rfl info_kd) rfl ?_
  exact ⟨rfl, bel_two (belT hb0 hB3) (Nat.le_refl _) _ _⟩
set_option maxRecDepth 20000 in
set_option maxHeartbeats 4000000 in
theorem nd_30 (l : List Kd) (a : Option Addr) (c : Nat) (W : World) (hR : RowR eKd W AnyB l a) (hl : l.length ≤ 1000) : Calls Tryz.prog 100 #[.int .i64 30, .slice a l.length c] W (NdP W (ndK 30 l)) := by
  have hf : ndK 30 l = ((3, -1), alF true (l.getD 0 (0, 0)).1 l 0) := rfl
  rw [hf]
  clear hf
  obtain ⟨X, hXe⟩ : ∃ X, W.alloc (.cells #[.int .i64 0, .int .i64 0] 88) = X := ⟨_, rfl⟩
  have hb0 : Below W.heap.size W X := by rw [← hXe]; exact (Below.refl _ _).alloc (Nat.le_refl _) _
  have hXl : W.heap.size < X.heap.size := by rw [← hXe]; simp
  have hK : Hid (∀ w, Below X.heap.size X w → w.heap[W.heap.size]? = some (.cells #[.int .i64 0, .int .i64 0] 88 (0, 0))) := ⟨fun w hb => (hb.block _ hXl).trans (by rw [← hXe]; exact heap_alloc_new _ _)⟩
  have hRX : Hid (∀ w, Below X.heap.size X w → RowR eKd w AnyB l a) := ⟨fun w hw => row_bel (row_bel hR hb0 (Nat.le_refl _)) hw (Nat.le_refl _)⟩
  have rk := hK.out _ (Below.refl _ _)
  have fk0 := frozen_of_row _ _ 0 _ _ rk
  have fk1 := frozen_of_row _ _ 1 _ _ rk
  have ck0 : X.cell? ⟨W.heap.size, 0, none⟩ = some (.int .i64 0) := cell_of_row _ _ 0 _ _ _ rk
  have ck1 : X.cell? ⟨W.heap.size, 1, none⟩ = some (.int .i64 0) := cell_of_row _ _ 1 _ _ _ rk
  have hal := alike_days l a c (l.getD 0 (0, 0)).1 (fun h => by rw [List.getD_eq_getElem?_getD, List.getElem?_eq_getElem h, Option.getD_some]) X (hRX.out _ (Below.refl _ _)) hl
  generalize alF true (l.getD 0 (0, 0)).1 l 0 = N at hal ⊢
  clear hR
  go_enter Tryz.func100, Tryz.ntmps100
  go_wp2_with (go_at_call 106; refine hal.mono ?_; rintro e w3 ⟨rfl, hB3⟩; have r3 := hK.out _ hB3; have fq0 := frozen_of_row _ _ 0 _ _ r3; have fq1 := frozen_of_row _ _ 1 _ _ r3; have cq0 := cell_of_row _ _ 0 _ _ _ r3; have cq1 := cell_of_row _ _ 1 _ _ _ r3)
  refine bodyPost_ret (v := .tuple #[.agg #[.int .i64 3, .int .i64 (-1)], .int .i64 N]) (results_cellK Tryz.results100 _ _ W.heap.size 88 _ (0, 0) _ rfl (row_two r3 _ _) Tryz.underlying88 rfl info_kd) rfl ?_
  exact ⟨rfl, bel_two (belT hb0 hB3) (Nat.le_refl _) _ _⟩
end Go.Proofs.YtmklkcefbabhbaaGreat.R6
