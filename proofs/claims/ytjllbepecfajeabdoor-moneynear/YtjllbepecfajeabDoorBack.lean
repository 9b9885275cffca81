import Derived.Test.YtjllbepecfajeabDoorKnown
import Derived.Test.YtjllbepecfajeabDoorMinMax
import Derived.Test.YtjllbepecfajeabDoorHeld
import Derived.Test.YtjllbepecfajeabDoorPlain11
import Derived.Deep.RegionHeld3
namespace Go.Proofs.YtjllbepecfajeabDoor
open Go.RowKit

theorem over_alloc2 {X w1 : World} (hb : Below X.heap.size X w1) (o : Obj) : Below X.heap.size X (w1.alloc o) := hb.alloc hb.size o

set_option maxHeartbeats 2000000 in
theorem back_v0 (k0 n0 k1 n1 : Int) (w : World) (hK : Kinds w) (hv0 : M.valid k0 n0 = false) :
    Calls Tryd.prog 8 #[.agg #[.int .i64 k0, .int .i64 n0], .agg #[.int .i64 k1, .int .i64 n1]] w fun e w' => e = .returned (.bool true) ∧ Below w.heap.size w w' := by
  obtain ⟨A, hA⟩ : ∃ A, Hid (A = M.ans (M.refuse (takesB k0 1) k0 n0 [(k1, n1)]) (M.fit true k0 (wrap64 (n0 + n1)))) := ⟨_, rfl⟩
  have hA1 : (A.1 == 6) = true := by rw [hA.out, M.sum_bad (.inr (.inl hv0))]; rfl
  have h1 := first2 w k0 n0 k1 n1 hK _ rfl
  go_enter Tryd.func8, Tryd.ntmps8
  go_wp2_with (first | (go_at_call 13; refine (known_true _ ((hK.alloc _).alloc _)).mono ?_; rintro e w1 ⟨rfl, hb1⟩; have hS1 := keep2 h1 hb1; obtain ⟨a0, a1, a2, a3, hK1, hB1⟩ := id hS1; clear hb1) | (go_at_call 19; refine (add_any k0 n0 k1 n1 _ hK1 A hA).mono ?_; rintro e w2 ⟨rfl, hb2⟩; have hS2 := keep2 hS1 (over_alloc2 hb2 (cellsV A.1 A.2)); obtain ⟨b0, b1, b2, b3, hK2, hB2⟩ := id hS2; obtain ⟨s0, s1, -, -⟩ := Box.new w2 (.int .i64 A.1) (.int .i64 A.2) 23; clear hb2) | (go_at_call_of 20 (Value.agg #[Value.int IntKind.i64 k0, Value.int IntKind.i64 n0]); refine (valid_any k0 n0 _ hK2).mono ?_; rintro e w3 ⟨rfl, hb3⟩; have hS3 := keep2 hS2 hb3; obtain ⟨c0, c1, c2, c3, hK3, hB3⟩ := id hS3; have t0 := (hb3.cell (p := ⟨w2.heap.size, 0, none⟩) (by simp)).trans s0; have t1 := (hb3.cell (p := ⟨w2.heap.size, 1, none⟩) (by simp)).trans s1; have hz3 := hb3.size; clear hb3))
  go_ret
  exact ⟨rfl, hB3⟩

set_option maxHeartbeats 2000000 in
theorem back_v1 (k0 n0 k1 n1 : Int) (w : World) (hK : Kinds w) (hv0 : M.valid k0 n0 = true) (hv1 : M.valid k1 n1 = false) :
    Calls Tryd.prog 8 #[.agg #[.int .i64 k0, .int .i64 n0], .agg #[.int .i64 k1, .int .i64 n1]] w fun e w' => e = .returned (.bool true) ∧ Below w.heap.size w w' := by
  obtain ⟨A, hA⟩ : ∃ A, Hid (A = M.ans (M.refuse (takesB k0 1) k0 n0 [(k1, n1)]) (M.fit true k0 (wrap64 (n0 + n1)))) := ⟨_, rfl⟩
  have hA1 : (A.1 == 6) = true := by rw [hA.out, M.sum_bad (.inr (.inr (.inl hv1)))]; rfl
  have h1 := first2 w k0 n0 k1 n1 hK _ rfl
  have tok1 : True := trivial
  go_enter Tryd.func8, Tryd.ntmps8
  go_wp2_with (first | (go_at_call 13; refine (known_true _ ((hK.alloc _).alloc _)).mono ?_; rintro e w1 ⟨rfl, hb1⟩; have hS1 := keep2 h1 hb1; obtain ⟨a0, a1, a2, a3, hK1, hB1⟩ := id hS1; clear hb1) | (go_at_call 19; refine (add_any k0 n0 k1 n1 _ hK1 A hA).mono ?_; rintro e w2 ⟨rfl, hb2⟩; have hS2 := keep2 hS1 (over_alloc2 hb2 (cellsV A.1 A.2)); obtain ⟨b0, b1, b2, b3, hK2, hB2⟩ := id hS2; obtain ⟨s0, s1, -, -⟩ := Box.new w2 (.int .i64 A.1) (.int .i64 A.2) 23; clear hb2) | (go_at_call 20; have _u := tok1; clear tok1; refine (valid_any k0 n0 _ hK2).mono ?_; rintro e w3 ⟨rfl, hb3⟩; have hS3 := keep2 hS2 hb3; obtain ⟨c0, c1, c2, c3, hK3, hB3⟩ := id hS3; have t0 := (hb3.cell (p := ⟨w2.heap.size, 0, none⟩) (by simp)).trans s0; have t1 := (hb3.cell (p := ⟨w2.heap.size, 1, none⟩) (by simp)).trans s1; have hz3 := hb3.size; clear hb3) | (go_at_call 20; refine (valid_any k1 n1 _ hK3).mono ?_; rintro e w4 ⟨rfl, hb4⟩; have hS4 := keep2 hS3 hb4; obtain ⟨d0, d1, d2, d3, hK4, hB4⟩ := id hS4; have u0 := (hb4.cell (p := ⟨w2.heap.size, 0, none⟩) (World.block_lt_of_cell? _ _ t0)).trans t0; have u1 := (hb4.cell (p := ⟨w2.heap.size, 1, none⟩) (World.block_lt_of_cell? _ _ t1)).trans t1; clear hb4))
  go_ret
  exact ⟨rfl, hB4⟩

set_option maxHeartbeats 2000000 in
theorem back_kk (k0 n0 k1 n1 : Int) (w : World) (hK : Kinds w) (hv0 : M.valid k0 n0 = true) (hv1 : M.valid k1 n1 = true) (hk : (k0 != k1) = true) :
    Calls Tryd.prog 8 #[.agg #[.int .i64 k0, .int .i64 n0], .agg #[.int .i64 k1, .int .i64 n1]] w fun e w' => e = .returned (.bool true) ∧ Below w.heap.size w w' := by
  obtain ⟨A, hA⟩ : ∃ A, Hid (A = M.ans (M.refuse (takesB k0 1) k0 n0 [(k1, n1)]) (M.fit true k0 (wrap64 (n0 + n1)))) := ⟨_, rfl⟩
  have hA1 : (A.1 == 6) = true := by rw [hA.out, M.sum_bad (.inr (.inr (.inr (by simpa using hk))))]; rfl
  have h1 := first2 w k0 n0 k1 n1 hK _ rfl
  have tok1 : True := trivial
  go_enter Tryd.func8, Tryd.ntmps8
  go_wp2_with (first | (go_at_call 13; refine (known_true _ ((hK.alloc _).alloc _)).mono ?_; rintro e w1 ⟨rfl, hb1⟩; have hS1 := keep2 h1 hb1; obtain ⟨a0, a1, a2, a3, hK1, hB1⟩ := id hS1; clear hb1) | (go_at_call 19; refine (add_any k0 n0 k1 n1 _ hK1 A hA).mono ?_; rintro e w2 ⟨rfl, hb2⟩; have hS2 := keep2 hS1 (over_alloc2 hb2 (cellsV A.1 A.2)); obtain ⟨b0, b1, b2, b3, hK2, hB2⟩ := id hS2; obtain ⟨s0, s1, -, -⟩ := Box.new w2 (.int .i64 A.1) (.int .i64 A.2) 23; clear hb2) | (go_at_call 20; have _u := tok1; clear tok1; refine (valid_any k0 n0 _ hK2).mono ?_; rintro e w3 ⟨rfl, hb3⟩; have hS3 := keep2 hS2 hb3; obtain ⟨c0, c1, c2, c3, hK3, hB3⟩ := id hS3; have t0 := (hb3.cell (p := ⟨w2.heap.size, 0, none⟩) (by simp)).trans s0; have t1 := (hb3.cell (p := ⟨w2.heap.size, 1, none⟩) (by simp)).trans s1; have hz3 := hb3.size; clear hb3) | (go_at_call 20; refine (valid_any k1 n1 _ hK3).mono ?_; rintro e w4 ⟨rfl, hb4⟩; have hS4 := keep2 hS3 hb4; obtain ⟨d0, d1, d2, d3, hK4, hB4⟩ := id hS4; have u0 := (hb4.cell (p := ⟨w2.heap.size, 0, none⟩) (World.block_lt_of_cell? _ _ t0)).trans t0; have u1 := (hb4.cell (p := ⟨w2.heap.size, 1, none⟩) (World.block_lt_of_cell? _ _ t1)).trans t1; clear hb4))
  go_ret
  exact ⟨rfl, hB4⟩

set_option maxHeartbeats 2000000 in
theorem back_12 (k n0 n1 : Int) (w : World) (hK : Kinds w) (hv0 : M.valid k n0 = true) (hv1 : M.valid k n1 = true) (hk1 : (k != 1) = true) (hk2 : (k != 2) = true) :
    Calls Tryd.prog 8 #[.agg #[.int .i64 k, .int .i64 n0], .agg #[.int .i64 k, .int .i64 n1]] w fun e w' => e = .returned (.bool true) ∧ Below w.heap.size w w' := by
  obtain ⟨A, hA⟩ : ∃ A, Hid (A = M.ans (M.refuse (takesB k 1) k n0 [(k, n1)]) (M.fit true k (wrap64 (n0 + n1)))) := ⟨_, rfl⟩
  have hA1 : (A.1 == 6) = true := by
    have e : takesB k 1 = false := by rw [takes_1]; simp at *; omega
    rw [hA.out, M.sum_bad (.inl e)]; rfl
  have h1 := first2 w k n0 k n1 hK _ rfl
  have tok1 : True := trivial
  go_enter Tryd.func8, Tryd.ntmps8
  go_wp2_with (first | (go_at_call 13; refine (known_true _ ((hK.alloc _).alloc _)).mono ?_; rintro e w1 ⟨rfl, hb1⟩; have hS1 := keep2 h1 hb1; obtain ⟨a0, a1, a2, a3, hK1, hB1⟩ := id hS1; clear hb1) | (go_at_call 19; refine (add_any k n0 k n1 _ hK1 A hA).mono ?_; rintro e w2 ⟨rfl, hb2⟩; have hS2 := keep2 hS1 (over_alloc2 hb2 (cellsV A.1 A.2)); obtain ⟨b0, b1, b2, b3, hK2, hB2⟩ := id hS2; obtain ⟨s0, s1, -, -⟩ := Box.new w2 (.int .i64 A.1) (.int .i64 A.2) 23; clear hb2) | (go_at_call 20; have _u := tok1; clear tok1; refine (valid_any k n0 _ hK2).mono ?_; rintro e w3 ⟨rfl, hb3⟩; have hS3 := keep2 hS2 hb3; obtain ⟨c0, c1, c2, c3, hK3, hB3⟩ := id hS3; have t0 := (hb3.cell (p := ⟨w2.heap.size, 0, none⟩) (by simp)).trans s0; have t1 := (hb3.cell (p := ⟨w2.heap.size, 1, none⟩) (by simp)).trans s1; have hz3 := hb3.size; clear hb3) | (go_at_call 20; refine (valid_any k n1 _ hK3).mono ?_; rintro e w4 ⟨rfl, hb4⟩; have hS4 := keep2 hS3 hb4; obtain ⟨d0, d1, d2, d3, hK4, hB4⟩ := id hS4; have u0 := (hb4.cell (p := ⟨w2.heap.size, 0, none⟩) (World.block_lt_of_cell? _ _ t0)).trans t0; have u1 := (hb4.cell (p := ⟨w2.heap.size, 1, none⟩) (World.block_lt_of_cell? _ _ t1)).trans t1; clear hb4))
  go_ret
  exact ⟨rfl, hB4⟩

end Go.Proofs.YtjllbepecfajeabDoor
