import Derived.Test.YtjllbepecfajeaaDoorRows2
namespace Go.Proofs.YtjllbepecfajeaaDoor
open Go.RowKit

set_option maxHeartbeats 1000000 in
theorem rmin_any (k0 n0 k1 n1 : Int) (w : World) (m : Int) (hm : (n1 < n0 ∧ m = n1) ∨ (¬ n1 < n0 ∧ m = n0)) (r : Int × Int) (hr : Hid (r = M.ans (M.refuse ([(1 : Int), (2 : Int), (4 : Int)].any fun z => k0 == z) k0 n0 [(k1, n1)]) (M.fit true k0 m))) :
    Calls Tryd.prog 17 #[.agg #[.int .i64 k0, .int .i64 n0], .agg #[.int .i64 k1, .int .i64 n1]] w fun e w' => e = .returned (.agg #[.int .i64 r.1, .int .i64 r.2]) ∧ Below w.heap.size w w' := by
  rcases hm with ⟨hlt, hm⟩ | ⟨hlt, hm⟩
  all_goals
    subst m
    have hc := chosen_any (w.heap.size + 1 + 1 + 1) (w.heap.size + 1 + 1 + 1 + 1) k0 n0 _ [(k1, n1)] [1, 2, 4] 2 3 (((((w.alloc (cellsV k0 n0)).alloc (cellsV k1 n1)).alloc (cellsV 0 0)).alloc (cellsV2 k0 n0 k1 n1)).alloc (ints3 1 2 4)) (((row_two _ k0 n0 k1 n1).alloc _).of (by simp)) ((ints_three _ 1 2 4).of (by simp)) r hr
    dsimp only [List.length] at hc
    clear hr
    go_enter Tryd.func17, Tryd.ntmps17
    go_wp2_with (go_at_call 47; refine hc.mono ?_; clear hc; rintro e w1 ⟨rfl, hb1⟩; obtain ⟨-, -, ⟨r0, r1, q0, q1⟩, hB1⟩ := start2 w k0 n0 k1 n1 (over_alloc _ (over_alloc _ hb1)); clear hb1)
    exact bodyPost_ret (v := .agg #[.int .i64 r.1, .int .i64 r.2]) (by simp [results, Tryd.results17, go_sem, r0, r1]) rfl ⟨rfl, (hB1.setCell (by simp; omega) _).setCell (by simp; omega) _⟩

set_option maxHeartbeats 1000000 in
theorem rmax_any (k0 n0 k1 n1 : Int) (w : World) (m : Int) (hm : (n0 < n1 ∧ m = n1) ∨ (¬ n0 < n1 ∧ m = n0)) (r : Int × Int) (hr : Hid (r = M.ans (M.refuse ([(1 : Int), (2 : Int), (4 : Int)].any fun z => k0 == z) k0 n0 [(k1, n1)]) (M.fit true k0 m))) :
    Calls Tryd.prog 19 #[.agg #[.int .i64 k0, .int .i64 n0], .agg #[.int .i64 k1, .int .i64 n1]] w fun e w' => e = .returned (.agg #[.int .i64 r.1, .int .i64 r.2]) ∧ Below w.heap.size w w' := by
  rcases hm with ⟨hlt, hm⟩ | ⟨hlt, hm⟩
  all_goals
    subst m
    have hc := chosen_any (w.heap.size + 1 + 1 + 1) (w.heap.size + 1 + 1 + 1 + 1) k0 n0 _ [(k1, n1)] [1, 2, 4] 2 3 (((((w.alloc (cellsV k0 n0)).alloc (cellsV k1 n1)).alloc (cellsV 0 0)).alloc (cellsV2 k0 n0 k1 n1)).alloc (ints3 1 2 4)) (((row_two _ k0 n0 k1 n1).alloc _).of (by simp)) ((ints_three _ 1 2 4).of (by simp)) r hr
    dsimp only [List.length] at hc
    clear hr
    go_enter Tryd.func19, Tryd.ntmps19
    go_wp2_with (go_at_call 47; refine hc.mono ?_; clear hc; rintro e w1 ⟨rfl, hb1⟩; obtain ⟨-, -, ⟨r0, r1, q0, q1⟩, hB1⟩ := start2 w k0 n0 k1 n1 (over_alloc _ (over_alloc _ hb1)); clear hb1)
    exact bodyPost_ret (v := .agg #[.int .i64 r.1, .int .i64 r.2]) (by simp [results, Tryd.results19, go_sem, r0, r1]) rfl ⟨rfl, (hB1.setCell (by simp; omega) _).setCell (by simp; omega) _⟩

set_option maxHeartbeats 1000000 in
theorem rclamp_any (k0 n0 k1 n1 k2 n2 : Int) (w : World) (m : Int) (hm : (n0 < n1 ∧ m = n1) ∨ (¬ n0 < n1 ∧ n2 < n0 ∧ m = n2) ∨ (¬ n0 < n1 ∧ ¬ n2 < n0 ∧ m = n0)) (r : Int × Int) (hr : Hid (r = M.ans (M.refuse ([(1 : Int), (2 : Int), (4 : Int)].any fun z => k0 == z) k0 n0 [(k1, n1), (k2, n2)]) (M.fit true k0 m))) :
    Calls Tryd.prog 21 #[.agg #[.int .i64 k0, .int .i64 n0], .agg #[.int .i64 k1, .int .i64 n1], .agg #[.int .i64 k2, .int .i64 n2]] w fun e w' => e = .returned (.agg #[.int .i64 r.1, .int .i64 r.2]) ∧ Below w.heap.size w w' := by
  rcases hm with ⟨hlt, hm⟩ | ⟨hlt, hgt, hm⟩ | ⟨hlt, hgt, hm⟩
  all_goals
    subst m
    have hc := chosen_any (w.heap.size + 1 + 1 + 1 + 1) (w.heap.size + 1 + 1 + 1 + 1 + 1) k0 n0 _ [(k1, n1), (k2, n2)] [1, 2, 4] 3 3 ((((((w.alloc (cellsV k0 n0)).alloc (cellsV k1 n1)).alloc (cellsV k2 n2)).alloc (cellsV 0 0)).alloc (cellsV3 k0 n0 k1 n1 k2 n2)).alloc (ints3 1 2 4)) (((row_three _ k0 n0 k1 n1 k2 n2).alloc _).of (by simp)) ((ints_three _ 1 2 4).of (by simp)) r hr
    dsimp only [List.length] at hc
    clear hr
    go_enter Tryd.func21, Tryd.ntmps21
    go_wp2_with (go_at_call 47; refine hc.mono ?_; clear hc; rintro e w1 ⟨rfl, hb1⟩; obtain ⟨-, -, -, ⟨r0, r1, q0, q1⟩, hB1⟩ := start3 w k0 n0 k1 n1 k2 n2 (over_alloc _ (over_alloc _ hb1)); clear hb1)
    exact bodyPost_ret (v := .agg #[.int .i64 r.1, .int .i64 r.2]) (by simp [results, Tryd.results21, go_sem, r0, r1]) rfl ⟨rfl, (hB1.setCell (by simp; omega) _).setCell (by simp; omega) _⟩

end Go.Proofs.YtjllbepecfajeaaDoor
