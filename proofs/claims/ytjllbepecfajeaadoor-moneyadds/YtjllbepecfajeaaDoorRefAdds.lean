import Derived.Test.YtjllbepecfajeaaDoorRows2
namespace Go.Proofs.YtjllbepecfajeaaDoor
open Go.RowKit

set_option maxHeartbeats 1000000 in
theorem radd_any (k0 n0 k1 n1 : Int) (w : World) (r : Int × Int) (hr : Hid (r = M.ans (M.refuse ([(1 : Int), (2 : Int)].any fun z => k0 == z) k0 n0 [(k1, n1)]) (M.fit true k0 (wrap64 (n0 + n1))))) :
    Calls Tryd.prog 23 #[.agg #[.int .i64 k0, .int .i64 n0], .agg #[.int .i64 k1, .int .i64 n1]] w fun e w' => e = .returned (.agg #[.int .i64 r.1, .int .i64 r.2]) ∧ Below w.heap.size w w' := by
  have hc := chosen_any (w.heap.size + 1 + 1 + 1) (w.heap.size + 1 + 1 + 1 + 1) k0 n0 (wrap64 (n0 + n1)) [(k1, n1)] [1, 2] 2 2 (((((w.alloc (cellsV k0 n0)).alloc (cellsV k1 n1)).alloc (cellsV 0 0)).alloc (cellsV2 k0 n0 k1 n1)).alloc (ints2 1 2)) (((row_two _ k0 n0 k1 n1).alloc _).of (by simp)) ((ints_two _ 1 2).of (by simp)) r hr
  dsimp only [List.length] at hc
  clear hr
  go_enter Tryd.func23, Tryd.ntmps23
  go_wp2_with (go_at_call 47; refine hc.mono ?_; clear hc; rintro e w1 ⟨rfl, hb1⟩; obtain ⟨-, -, ⟨r0, r1, q0, q1⟩, hB1⟩ := start2 w k0 n0 k1 n1 (over_alloc _ (over_alloc _ hb1)); clear hb1)
  exact bodyPost_ret (v := .agg #[.int .i64 r.1, .int .i64 r.2]) (by simp [results, Tryd.results23, go_sem, r0, r1]) rfl ⟨rfl, (hB1.setCell (by simp; omega) _).setCell (by simp; omega) _⟩

set_option maxHeartbeats 1000000 in
theorem rsub_any (k0 n0 k1 n1 : Int) (w : World) (r : Int × Int) (hr : Hid (r = M.ans (M.refuse ([(1 : Int), (2 : Int)].any fun z => k0 == z) k0 n0 [(k1, n1)]) (M.fit true k0 (wrap64 (n0 - n1))))) :
    Calls Tryd.prog 25 #[.agg #[.int .i64 k0, .int .i64 n0], .agg #[.int .i64 k1, .int .i64 n1]] w fun e w' => e = .returned (.agg #[.int .i64 r.1, .int .i64 r.2]) ∧ Below w.heap.size w w' := by
  have hc := chosen_any (w.heap.size + 1 + 1 + 1) (w.heap.size + 1 + 1 + 1 + 1) k0 n0 (wrap64 (n0 - n1)) [(k1, n1)] [1, 2] 2 2 (((((w.alloc (cellsV k0 n0)).alloc (cellsV k1 n1)).alloc (cellsV 0 0)).alloc (cellsV2 k0 n0 k1 n1)).alloc (ints2 1 2)) (((row_two _ k0 n0 k1 n1).alloc _).of (by simp)) ((ints_two _ 1 2).of (by simp)) r hr
  dsimp only [List.length] at hc
  clear hr
  go_enter Tryd.func25, Tryd.ntmps25
  go_wp2_with (go_at_call 47; refine hc.mono ?_; clear hc; rintro e w1 ⟨rfl, hb1⟩; obtain ⟨-, -, ⟨r0, r1, q0, q1⟩, hB1⟩ := start2 w k0 n0 k1 n1 (over_alloc _ (over_alloc _ hb1)); clear hb1)
  exact bodyPost_ret (v := .agg #[.int .i64 r.1, .int .i64 r.2]) (by simp [results, Tryd.results25, go_sem, r0, r1]) rfl ⟨rfl, (hB1.setCell (by simp; omega) _).setCell (by simp; omega) _⟩

set_option maxHeartbeats 1000000 in
theorem rneg_any (k0 n0 : Int) (w : World) (r : Int × Int) (hr : Hid (r = M.ans (M.refuse ([(1 : Int), (2 : Int)].any fun z => k0 == z) k0 n0 []) (M.fit true k0 (wrap64 (-n0))))) :
    Calls Tryd.prog 27 #[.agg #[.int .i64 k0, .int .i64 n0]] w fun e w' => e = .returned (.agg #[.int .i64 r.1, .int .i64 r.2]) ∧ Below w.heap.size w w' := by
  have hc := chosen_any (w.heap.size + 1 + 1) (w.heap.size + 1 + 1 + 1) k0 n0 (wrap64 (-n0)) [] [1, 2] 1 2 ((((w.alloc (cellsV k0 n0)).alloc (cellsV 0 0)).alloc (cellsV k0 n0)).alloc (ints2 1 2)) (((row_one _ k0 n0).alloc _).of (by simp)) ((ints_two _ 1 2).of (by simp)) r hr
  dsimp only [List.length] at hc
  clear hr
  go_enter Tryd.func27, Tryd.ntmps27
  go_wp2_with (go_at_call 47; refine hc.mono ?_; clear hc; rintro e w1 ⟨rfl, hb1⟩; obtain ⟨-, ⟨r0, r1, q0, q1⟩, hB1⟩ := start1 w k0 n0 (over_alloc _ (over_alloc _ hb1)); clear hb1)
  exact bodyPost_ret (v := .agg #[.int .i64 r.1, .int .i64 r.2]) (by simp [results, Tryd.results27, go_sem, r0, r1]) rfl ⟨rfl, (hB1.setCell (by simp) _).setCell (by simp) _⟩

set_option maxHeartbeats 1000000 in
theorem rabs_any (k0 n0 : Int) (w : World) (m : Int) (hm : (n0 < wrap64 (-n0) ∧ m = wrap64 (-n0)) ∨ (¬ n0 < wrap64 (-n0) ∧ m = n0)) (r : Int × Int) (hr : Hid (r = M.ans (M.refuse ([(1 : Int), (2 : Int)].any fun z => k0 == z) k0 n0 []) (M.fit true k0 m))) :
    Calls Tryd.prog 29 #[.agg #[.int .i64 k0, .int .i64 n0]] w fun e w' => e = .returned (.agg #[.int .i64 r.1, .int .i64 r.2]) ∧ Below w.heap.size w w' := by
  rcases hm with ⟨hlt, hm⟩ | ⟨hlt, hm⟩
  all_goals
    subst m
    have hc := chosen_any (w.heap.size + 1 + 1) (w.heap.size + 1 + 1 + 1) k0 n0 _ [] [1, 2] 1 2 ((((w.alloc (cellsV k0 n0)).alloc (cellsV 0 0)).alloc (cellsV k0 n0)).alloc (ints2 1 2)) (((row_one _ k0 n0).alloc _).of (by simp)) ((ints_two _ 1 2).of (by simp)) r hr
    dsimp only [List.length] at hc
    clear hr
    go_enter Tryd.func29, Tryd.ntmps29
    go_wp2_with (go_at_call 47; refine hc.mono ?_; clear hc; rintro e w1 ⟨rfl, hb1⟩; obtain ⟨-, ⟨r0, r1, q0, q1⟩, hB1⟩ := start1 w k0 n0 (over_alloc _ (over_alloc _ hb1)); clear hb1)
    exact bodyPost_ret (v := .agg #[.int .i64 r.1, .int .i64 r.2]) (by simp [results, Tryd.results29, go_sem, r0, r1]) rfl ⟨rfl, (hB1.setCell (by simp) _).setCell (by simp) _⟩

end Go.Proofs.YtjllbepecfajeaaDoor
