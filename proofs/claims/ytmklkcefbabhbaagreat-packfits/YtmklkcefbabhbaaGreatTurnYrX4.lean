import Derived.Test.YtmklkcefbabhbaaGreatTurnYrX3
import Derived.Laws.Rows
/- A place, sizes. -/
namespace Go.Proofs.YtmklkcefbabhbaaGreat.R6
open Go.RowKit

set_option maxRecDepth 20000 in
set_option maxHeartbeats 2000000 in
theorem at_any (a b c : Int) (W : World) : Calls Tryz.prog 15 #[.int .i64 a, .int .i64 b, .int .i64 c] W (Lk (.agg #[.int .i64 a, .int .i64 b, .int .i64 c, .slice none 0 0]) W) := by
  obtain ⟨X, hXe⟩ : ∃ X, W.alloc (.cells #[.int .i64 0, .int .i64 0, .int .i64 0, .slice none 0 0] 33) = X := ⟨_, rfl⟩
  have hb0 : Below W.heap.size W X := by rw [← hXe]; exact (Below.refl _ _).alloc (Nat.le_refl _) _
  have rkj : X.heap[W.heap.size]? = some (.cells #[.int .i64 0, .int .i64 0, .int .i64 0, .slice none 0 0] 33 (0, 0)) := by rw [← hXe]; exact heap_alloc_new _ _
  have fkj0 := frozen_of_row _ _ 0 _ _ rkj
  have fkj1 := frozen_of_row _ _ 1 _ _ rkj
  have fkj2 := frozen_of_row _ _ 2 _ _ rkj
  have fkj3 := frozen_of_row _ _ 3 _ _ rkj
  have ckj0 : X.cell? ⟨W.heap.size, 0, none⟩ = some (.int .i64 0) := cell_of_row _ _ 0 _ _ _ rkj
  have ckj1 : X.cell? ⟨W.heap.size, 1, none⟩ = some (.int .i64 0) := cell_of_row _ _ 1 _ _ _ rkj
  have ckj2 : X.cell? ⟨W.heap.size, 2, none⟩ = some (.int .i64 0) := cell_of_row _ _ 2 _ _ _ rkj
  have ckj3 : X.cell? ⟨W.heap.size, 3, none⟩ = some (.slice none 0 0) := cell_of_row _ _ 3 _ _ _ rkj
  go_enter Tryz.func15, Tryz.ntmps15
  go_wp2
  refine bodyPost_ret (v := .agg #[.int .i64 a, .int .i64 b, .int .i64 c, .slice none 0 0]) (results_cell_row Tryz.results15 _ _ W.heap.size 33 _ (0, 0) _ rfl (row_four rkj _ _ _ _) Tryz.underlying33 rfl info_sp) rfl ?_
  exact ⟨rfl, bel_four hb0 (Nat.le_refl _) _ _ _ _⟩
/-- The part that is too large or too small; 0: none is. -/
def szN (p : Pk) : Nat := if 4 < p.opts.length then 2 else if 4 < p.tabs.length then 3 else if 4 < p.grps.length then 4 else if p.lns.length < 1 ∨ 48 < p.lns.length then 5 else if 16 < p.cks.length then 6 else 0
theorem sz_is (p : Pk) : szF p = if 0 < szN p then some (itF (szN p) 0, 60) else none := by
  unfold szF szN
  by_cases c1 : 4 < p.opts.length
  · rw [if_pos c1, if_pos c1]; rfl
  rw [if_neg c1, if_neg c1]
  by_cases c2 : 4 < p.tabs.length
  · rw [if_pos c2, if_pos c2]; rfl
  rw [if_neg c2, if_neg c2]
  by_cases c3 : 4 < p.grps.length
  · rw [if_pos c3, if_pos c3]; rfl
  rw [if_neg c3, if_neg c3]
  by_cases c4 : p.lns.length < 1 ∨ 48 < p.lns.length
  · rw [if_pos c4, if_pos c4]; rfl
  rw [if_neg c4, if_neg c4]
  by_cases c5 : 16 < p.cks.length
  · rw [if_pos c5, if_pos c5]; rfl
  rw [if_neg c5, if_neg c5]; rfl
set_option maxRecDepth 20000 in
set_option maxHeartbeats 2000000 in
theorem sizes_any (p : Pk) (a3 a4 a5 a6 a7 : Option Addr) (c3 c4 c5 c6 c7 : Nat) (W : World) : Calls Tryz.prog 14 #[.agg #[.string ⟨p.name.toArray⟩, .int .i64 p.year, .slice a3 p.opts.length c3, .slice a4 p.tabs.length c4, .slice a5 p.grps.length c5, .slice a6 p.lns.length c6, .slice a7 p.cks.length c7]] W (Lk (.int .i64 (szN p : Int)) W) := by
  obtain ⟨X, hXe⟩ : ∃ X, W.alloc (.cells #[.string ⟨p.name.toArray⟩, .int .i64 p.year, .slice a3 p.opts.length c3, .slice a4 p.tabs.length c4, .slice a5 p.grps.length c5, .slice a6 p.lns.length c6, .slice a7 p.cks.length c7] 28) = X := ⟨_, rfl⟩
  have hb0 : Below W.heap.size W X := by rw [← hXe]; exact (Below.refl _ _).alloc (Nat.le_refl _) _
  have hBx : Bx X W.heap.size (#[.string ⟨p.name.toArray⟩, .int .i64 p.year, .slice a3 p.opts.length c3, .slice a4 p.tabs.length c4, .slice a5 p.grps.length c5, .slice a6 p.lns.length c6, .slice a7 p.cks.length c7] : Array Value).toList := by rw [← hXe]; exact bx_new _ _ _
  have x0 : X.cell? ⟨W.heap.size, 0, none⟩ = some (.string ⟨p.name.toArray⟩) := hBx.2.1 0 (by simp)
  have x1 : X.cell? ⟨W.heap.size, 1, none⟩ = some (.int .i64 p.year) := hBx.2.1 1 (by simp)
  have x2 : X.cell? ⟨W.heap.size, 2, none⟩ = some (.slice a3 p.opts.length c3) := hBx.2.1 2 (by simp)
  have x3 : X.cell? ⟨W.heap.size, 3, none⟩ = some (.slice a4 p.tabs.length c4) := hBx.2.1 3 (by simp)
  have x4 : X.cell? ⟨W.heap.size, 4, none⟩ = some (.slice a5 p.grps.length c5) := hBx.2.1 4 (by simp)
  have x5 : X.cell? ⟨W.heap.size, 5, none⟩ = some (.slice a6 p.lns.length c6) := hBx.2.1 5 (by simp)
  have x6 : X.cell? ⟨W.heap.size, 6, none⟩ = some (.slice a7 p.cks.length c7) := hBx.2.1 6 (by simp)
  clear hBx
  obtain ⟨N, hN⟩ : ∃ N, szN p = N := ⟨_, rfl⟩
  rw [hN]
  unfold szN at hN
  by_cases c0 : 4 < p.opts.length
  · have g0 : (4 : Int) < (p.opts.length : Int) := by omega
    rw [if_pos c0] at hN
    subst hN
    clear c0
    go_enter Tryz.func14, Tryz.ntmps14
    go_wp2
    go_ret
    exact ⟨rfl, hb0⟩
  have g0 : ¬ (4 : Int) < (p.opts.length : Int) := by omega
  by_cases c1 : 4 < p.tabs.length
  · have g1 : (4 : Int) < (p.tabs.length : Int) := by omega
    rw [if_neg c0, if_pos c1] at hN
    subst hN
    clear c1
    go_enter Tryz.func14, Tryz.ntmps14
    go_wp2
    go_ret
    exact ⟨rfl, hb0⟩
  have g1 : ¬ (4 : Int) < (p.tabs.length : Int) := by omega
  by_cases c2 : 4 < p.grps.length
  · have g2 : (4 : Int) < (p.grps.length : Int) := by omega
    rw [if_neg c0, if_neg c1, if_pos c2] at hN
    subst hN
    clear c2
    go_enter Tryz.func14, Tryz.ntmps14
    go_wp2
    go_ret
    exact ⟨rfl, hb0⟩
  have g2 : ¬ (4 : Int) < (p.grps.length : Int) := by omega
  by_cases c3 : p.lns.length < 1
  · have g3 : (p.lns.length : Int) < 1 := by omega
    rw [if_neg c0, if_neg c1, if_neg c2, if_pos (by omega)] at hN
    subst hN
    clear c3
    go_enter Tryz.func14, Tryz.ntmps14
    go_wp2
    go_ret
    exact ⟨rfl, hb0⟩
  have g3 : ¬ (p.lns.length : Int) < 1 := by omega
  by_cases c4 : 48 < p.lns.length
  · have g4 : (48 : Int) < (p.lns.length : Int) := by omega
    rw [if_neg c0, if_neg c1, if_neg c2, if_pos (by omega)] at hN
    subst hN
    clear c4
    go_enter Tryz.func14, Tryz.ntmps14
    go_wp2
    go_ret
    exact ⟨rfl, hb0⟩
  have g4 : ¬ (48 : Int) < (p.lns.length : Int) := by omega
  by_cases c5 : 16 < p.cks.length
  · have g5 : (16 : Int) < (p.cks.length : Int) := by omega
    rw [if_neg c0, if_neg c1, if_neg c2, if_neg (by omega), if_pos c5] at hN
    subst hN
    clear c5
    go_enter Tryz.func14, Tryz.ntmps14
    go_wp2
    go_ret
    exact ⟨rfl, hb0⟩
  have g5 : ¬ (16 : Int) < (p.cks.length : Int) := by omega
  rw [if_neg c0, if_neg c1, if_neg c2, if_neg (by omega), if_neg c5] at hN
  subst hN
  go_enter Tryz.func14, Tryz.ntmps14
  go_wp2
  go_ret
  exact ⟨rfl, hb0⟩
end Go.Proofs.YtmklkcefbabhbaaGreat.R6
