import Derived.Test.YtnmcniibcjjflaaDoorJoin6
import Derived.Test.YtnmcniibcjjflaaDoorJoin25
import Derived.Test.YtnmcniibcjjflaaDoorJoin5
namespace Go.Proofs.YtnmcniibcjjflaaDoor
open Go.RowKit

/-- Further blocks, then a call. -/
theorem over2 {X w1 : World} (o o' o2 : Obj) (hb : Below (((X.alloc o).alloc o').alloc o2).heap.size (((X.alloc o).alloc o').alloc o2) w1) : Below X.heap.size X w1 := over_alloc o (over_alloc o' (over_alloc o2 hb))

set_option maxHeartbeats 1000000 in
theorem rcompare_some (op k0 n0 k1 n1 : Int) (w : World) (x y : Int) (h1 : M.mish [(k0, n0), (k1, n1)] = some (x, y)) :
    Calls Tryd.prog 47 #[.int .i64 op, .agg #[.int .i64 k0, .int .i64 n0], .agg #[.int .i64 k1, .int .i64 n1]] w fun e w' => e = .returned (.agg #[.int .i64 x, .int .i64 y]) ∧ Below w.heap.size w w' := by
  have hlook := looked_any (some ⟨w.heap.size + 1 + 1 + 1, 0, none⟩) 2 [(k0, n0), (k1, n1)] ((((w.alloc (cellsV k0 n0)).alloc (cellsV k1 n1)).alloc (cellsV 0 0)).alloc (cellsV2 k0 n0 k1 n1)) ((row_two _ k0 n0 k1 n1).of (by simp)).vals
  rw [h1] at hlook
  dsimp only [M.vk, M.vn, Option.isSome, List.length] at hlook
  clear h1
  go_enter Tryd.func47, Tryd.ntmps47
  go_wp2_with (go_at_call 64; refine hlook.mono ?_; clear hlook; rintro e w1 ⟨rfl, hb1⟩; obtain ⟨-, -, hR1, hB1⟩ := start2 w k0 n0 k1 n1 (over_alloc _ hb1); obtain ⟨r0, r1, q0, q1⟩ := hR1.alloc (cellsV x y); clear hb1)
  exact bodyPost_ret (v := .agg #[.int .i64 x, .int .i64 y]) (by simp [results, Tryd.results47, go_sem, r0, r1]) rfl ⟨rfl, ((hB1.alloc hB1.size _).setCell (by simp; omega) _).setCell (by simp; omega) _⟩

set_option maxHeartbeats 1000000 in
theorem rcompare_lo (op k0 n0 k1 n1 : Int) (w : World) (ho : op < 25) (h1 : M.mish [(k0, n0), (k1, n1)] = none) :
    Calls Tryd.prog 47 #[.int .i64 op, .agg #[.int .i64 k0, .int .i64 n0], .agg #[.int .i64 k1, .int .i64 n1]] w fun e w' => e = .returned (.agg #[.int .i64 6, .int .i64 5]) ∧ Below w.heap.size w w' := by
  have hlook := looked_any (some ⟨w.heap.size + 1 + 1 + 1, 0, none⟩) 2 [(k0, n0), (k1, n1)] ((((w.alloc (cellsV k0 n0)).alloc (cellsV k1 n1)).alloc (cellsV 0 0)).alloc (cellsV2 k0 n0 k1 n1)) ((row_two _ k0 n0 k1 n1).of (by simp)).vals
  rw [h1] at hlook
  dsimp only [M.vk, M.vn, Option.isSome, List.length] at hlook
  clear h1
  go_enter Tryd.func47, Tryd.ntmps47
  go_wp2_with (first | (go_at_call 64; refine hlook.mono ?_; clear hlook; rintro e w1 ⟨rfl, hb1⟩; obtain ⟨hX, hY, hR1, hB1⟩ := start2 w k0 n0 k1 n1 (over_alloc _ hb1); obtain ⟨x0, x1, -, -⟩ := hX.alloc (cellsV 0 0); obtain ⟨y0, y1, -, -⟩ := hY.alloc (cellsV 0 0); clear hb1) | (go_at_call 14; refine (bad_any _ _).mono ?_; rintro e w3 ⟨rfl, hb3⟩; have hb3' := over_alloc _ (over_alloc _ hb3); obtain ⟨s0, s1, t0, t1⟩ := hR1.later hb3'; have hB3 := below_step hB1 hb3'; clear hb3 hb3'))
  exact bodyPost_ret (v := .agg #[.int .i64 6, .int .i64 5]) (by simp [results, Tryd.results47, go_sem, s0, s1]) rfl ⟨rfl, (hB3.setCell (by simp; omega) _).setCell (by simp; omega) _⟩

set_option maxHeartbeats 1000000 in
theorem rcompare_hi (op k0 n0 k1 n1 : Int) (w : World) (ho : 30 < op) (h1 : M.mish [(k0, n0), (k1, n1)] = none) :
    Calls Tryd.prog 47 #[.int .i64 op, .agg #[.int .i64 k0, .int .i64 n0], .agg #[.int .i64 k1, .int .i64 n1]] w fun e w' => e = .returned (.agg #[.int .i64 6, .int .i64 5]) ∧ Below w.heap.size w w' := by
  have hlook := looked_any (some ⟨w.heap.size + 1 + 1 + 1, 0, none⟩) 2 [(k0, n0), (k1, n1)] ((((w.alloc (cellsV k0 n0)).alloc (cellsV k1 n1)).alloc (cellsV 0 0)).alloc (cellsV2 k0 n0 k1 n1)) ((row_two _ k0 n0 k1 n1).of (by simp)).vals
  rw [h1] at hlook
  dsimp only [M.vk, M.vn, Option.isSome, List.length] at hlook
  clear h1
  have ho' : ¬ op < 25 := by omega
  go_enter Tryd.func47, Tryd.ntmps47
  go_wp2_with (first | (go_at_call 64; refine hlook.mono ?_; clear hlook; rintro e w1 ⟨rfl, hb1⟩; obtain ⟨hX, hY, hR1, hB1⟩ := start2 w k0 n0 k1 n1 (over_alloc _ hb1); obtain ⟨x0, x1, -, -⟩ := hX.alloc (cellsV 0 0); obtain ⟨y0, y1, -, -⟩ := hY.alloc (cellsV 0 0); clear hb1) | (go_at_call 14; refine (bad_any _ _).mono ?_; rintro e w3 ⟨rfl, hb3⟩; have hb3' := over_alloc _ (over_alloc _ hb3); obtain ⟨s0, s1, t0, t1⟩ := hR1.later hb3'; have hB3 := below_step hB1 hb3'; clear hb3 hb3'))
  exact bodyPost_ret (v := .agg #[.int .i64 6, .int .i64 5]) (by simp [results, Tryd.results47, go_sem, s0, s1]) rfl ⟨rfl, (hB3.setCell (by simp; omega) _).setCell (by simp; omega) _⟩

set_option maxHeartbeats 1000000 in
theorem rcompare_25_no (k0 n0 k1 n1 : Int) (w : World) (h1 : M.mish [(k0, n0), (k1, n1)] = none) (h2 : M.alike k0 [(k0, n0), (k1, n1)] [1, 2, 3, 4, 5] = false) :
    Calls Tryd.prog 47 #[.int .i64 25, .agg #[.int .i64 k0, .int .i64 n0], .agg #[.int .i64 k1, .int .i64 n1]] w fun e w' => e = .returned (.agg #[.int .i64 6, .int .i64 5]) ∧ Below w.heap.size w w' := by
  have hlook := looked_any (some ⟨w.heap.size + 1 + 1 + 1, 0, none⟩) 2 [(k0, n0), (k1, n1)] ((((w.alloc (cellsV k0 n0)).alloc (cellsV k1 n1)).alloc (cellsV 0 0)).alloc (cellsV2 k0 n0 k1 n1)) ((row_two _ k0 n0 k1 n1).of (by simp)).vals
  rw [h1] at hlook
  dsimp only [M.vk, M.vn, Option.isSome, List.length] at hlook
  have hal0 := fun w1 : World => alike_any (w1.heap.size + 1) (w1.heap.size + 1 + 1) k0 n0 [(k1, n1)] [1, 2, 3, 4, 5] 2 5 (((w1.alloc (cellsV 0 0)).alloc (cellsV2 k0 n0 k1 n1)).alloc (ints5 1 2 3 4 5)) (((row_two _ k0 n0 k1 n1).alloc _).of (by simp)) ((ints_five _ 1 2 3 4 5).of (by simp))
  rw [h2] at hal0
  dsimp only [List.length] at hal0
  clear h1 h2
  go_enter Tryd.func47, Tryd.ntmps47
  go_wp2_with (first | (go_at_call 64; refine hlook.mono ?_; clear hlook; rintro e w1 ⟨rfl, hb1⟩; obtain ⟨hX, hY, hR1, hB1⟩ := start2 w k0 n0 k1 n1 (over_alloc _ hb1); obtain ⟨x0, x1, -, -⟩ := hX.alloc (cellsV 0 0); obtain ⟨y0, y1, -, -⟩ := hY.alloc (cellsV 0 0); have hal := hal0 w1; clear hb1 hal0) | (go_at_call 70; refine hal.mono ?_; clear hal; rintro e w2 ⟨rfl, hb2⟩; have hb2' := over2 _ _ _ hb2; have hR2 := hR1.later hb2'; have hX2 := hX.later hb2'; have hY2 := hY.later hb2'; have hB2 := below_step hB1 hb2'; obtain ⟨r0, r1, q0, q1⟩ := id hR2; obtain ⟨x2, x3, -, -⟩ := id hX2; obtain ⟨y2, y3, -, -⟩ := id hY2; clear hb2 hb2') | (go_at_call 14; refine (bad_any _ _).mono ?_; rintro e w3 ⟨rfl, hb3⟩; obtain ⟨s0, s1, t0, t1⟩ := hR2.later hb3; have hB3 := below_step hB2 hb3; clear hb3))
  exact bodyPost_ret (v := .agg #[.int .i64 6, .int .i64 5]) (by simp [results, Tryd.results47, go_sem, s0, s1]) rfl ⟨rfl, (hB3.setCell (by simp; omega) _).setCell (by simp; omega) _⟩

set_option maxHeartbeats 1000000 in
theorem rcompare_25_true (k0 n0 k1 n1 : Int) (w : World) (h1 : M.mish [(k0, n0), (k1, n1)] = none) (h2 : M.alike k0 [(k0, n0), (k1, n1)] [1, 2, 3, 4, 5] = true) (hy : (n0 == n1) = true) :
    Calls Tryd.prog 47 #[.int .i64 25, .agg #[.int .i64 k0, .int .i64 n0], .agg #[.int .i64 k1, .int .i64 n1]] w fun e w' => e = .returned (.agg #[.int .i64 3, .int .i64 1]) ∧ Below w.heap.size w w' := by
  have hlook := looked_any (some ⟨w.heap.size + 1 + 1 + 1, 0, none⟩) 2 [(k0, n0), (k1, n1)] ((((w.alloc (cellsV k0 n0)).alloc (cellsV k1 n1)).alloc (cellsV 0 0)).alloc (cellsV2 k0 n0 k1 n1)) ((row_two _ k0 n0 k1 n1).of (by simp)).vals
  rw [h1] at hlook
  dsimp only [M.vk, M.vn, Option.isSome, List.length] at hlook
  have hal0 := fun w1 : World => alike_any (w1.heap.size + 1) (w1.heap.size + 1 + 1) k0 n0 [(k1, n1)] [1, 2, 3, 4, 5] 2 5 (((w1.alloc (cellsV 0 0)).alloc (cellsV2 k0 n0 k1 n1)).alloc (ints5 1 2 3 4 5)) (((row_two _ k0 n0 k1 n1).alloc _).of (by simp)) ((ints_five _ 1 2 3 4 5).of (by simp))
  rw [h2] at hal0
  dsimp only [List.length] at hal0
  clear h1 h2
  go_enter Tryd.func47, Tryd.ntmps47
  go_wp2_with (first | (go_at_call 64; refine hlook.mono ?_; clear hlook; rintro e w1 ⟨rfl, hb1⟩; obtain ⟨hX, hY, hR1, hB1⟩ := start2 w k0 n0 k1 n1 (over_alloc _ hb1); obtain ⟨x0, x1, -, -⟩ := hX.alloc (cellsV 0 0); obtain ⟨y0, y1, -, -⟩ := hY.alloc (cellsV 0 0); have hal := hal0 w1; clear hb1 hal0) | (go_at_call 70; refine hal.mono ?_; clear hal; rintro e w2 ⟨rfl, hb2⟩; have hb2' := over2 _ _ _ hb2; have hR2 := hR1.later hb2'; have hX2 := hX.later hb2'; have hY2 := hY.later hb2'; have hB2 := below_step hB1 hb2'; obtain ⟨r0, r1, q0, q1⟩ := id hR2; obtain ⟨x2, x3, -, -⟩ := id hX2; obtain ⟨y2, y3, -, -⟩ := id hY2; clear hb2 hb2'))
  exact bodyPost_ret (v := .agg #[.int .i64 3, .int .i64 1]) (by simp [results, Tryd.results47, go_sem, r0, r1]) rfl ⟨rfl, (hB2.setCell (by simp; omega) _).setCell (by simp; omega) _⟩

set_option maxHeartbeats 1000000 in
theorem rcompare_25_false (k0 n0 k1 n1 : Int) (w : World) (h1 : M.mish [(k0, n0), (k1, n1)] = none) (h2 : M.alike k0 [(k0, n0), (k1, n1)] [1, 2, 3, 4, 5] = true) (hy : (n0 == n1) = false) :
    Calls Tryd.prog 47 #[.int .i64 25, .agg #[.int .i64 k0, .int .i64 n0], .agg #[.int .i64 k1, .int .i64 n1]] w fun e w' => e = .returned (.agg #[.int .i64 3, .int .i64 0]) ∧ Below w.heap.size w w' := by
  have hlook := looked_any (some ⟨w.heap.size + 1 + 1 + 1, 0, none⟩) 2 [(k0, n0), (k1, n1)] ((((w.alloc (cellsV k0 n0)).alloc (cellsV k1 n1)).alloc (cellsV 0 0)).alloc (cellsV2 k0 n0 k1 n1)) ((row_two _ k0 n0 k1 n1).of (by simp)).vals
  rw [h1] at hlook
  dsimp only [M.vk, M.vn, Option.isSome, List.length] at hlook
  have hal0 := fun w1 : World => alike_any (w1.heap.size + 1) (w1.heap.size + 1 + 1) k0 n0 [(k1, n1)] [1, 2, 3, 4, 5] 2 5 (((w1.alloc (cellsV 0 0)).alloc (cellsV2 k0 n0 k1 n1)).alloc (ints5 1 2 3 4 5)) (((row_two _ k0 n0 k1 n1).alloc _).of (by simp)) ((ints_five _ 1 2 3 4 5).of (by simp))
  rw [h2] at hal0
  dsimp only [List.length] at hal0
  clear h1 h2
  go_enter Tryd.func47, Tryd.ntmps47
  go_wp2_with (first | (go_at_call 64; refine hlook.mono ?_; clear hlook; rintro e w1 ⟨rfl, hb1⟩; obtain ⟨hX, hY, hR1, hB1⟩ := start2 w k0 n0 k1 n1 (over_alloc _ hb1); obtain ⟨x0, x1, -, -⟩ := hX.alloc (cellsV 0 0); obtain ⟨y0, y1, -, -⟩ := hY.alloc (cellsV 0 0); have hal := hal0 w1; clear hb1 hal0) | (go_at_call 70; refine hal.mono ?_; clear hal; rintro e w2 ⟨rfl, hb2⟩; have hb2' := over2 _ _ _ hb2; have hR2 := hR1.later hb2'; have hX2 := hX.later hb2'; have hY2 := hY.later hb2'; have hB2 := below_step hB1 hb2'; obtain ⟨r0, r1, q0, q1⟩ := id hR2; obtain ⟨x2, x3, -, -⟩ := id hX2; obtain ⟨y2, y3, -, -⟩ := id hY2; clear hb2 hb2'))
  exact bodyPost_ret (v := .agg #[.int .i64 3, .int .i64 0]) (by simp [results, Tryd.results47, go_sem, r0, r1]) rfl ⟨rfl, (hB2.setCell (by simp; omega) _).setCell (by simp; omega) _⟩

set_option maxHeartbeats 1000000 in
theorem rcompare_26_no (k0 n0 k1 n1 : Int) (w : World) (h1 : M.mish [(k0, n0), (k1, n1)] = none) (h2 : M.alike k0 [(k0, n0), (k1, n1)] [1, 2, 3, 4, 5] = false) :
    Calls Tryd.prog 47 #[.int .i64 26, .agg #[.int .i64 k0, .int .i64 n0], .agg #[.int .i64 k1, .int .i64 n1]] w fun e w' => e = .returned (.agg #[.int .i64 6, .int .i64 5]) ∧ Below w.heap.size w w' := by
  have hlook := looked_any (some ⟨w.heap.size + 1 + 1 + 1, 0, none⟩) 2 [(k0, n0), (k1, n1)] ((((w.alloc (cellsV k0 n0)).alloc (cellsV k1 n1)).alloc (cellsV 0 0)).alloc (cellsV2 k0 n0 k1 n1)) ((row_two _ k0 n0 k1 n1).of (by simp)).vals
  rw [h1] at hlook
  dsimp only [M.vk, M.vn, Option.isSome, List.length] at hlook
  have hal0 := fun w1 : World => alike_any (w1.heap.size + 1) (w1.heap.size + 1 + 1) k0 n0 [(k1, n1)] [1, 2, 3, 4, 5] 2 5 (((w1.alloc (cellsV 0 0)).alloc (cellsV2 k0 n0 k1 n1)).alloc (ints5 1 2 3 4 5)) (((row_two _ k0 n0 k1 n1).alloc _).of (by simp)) ((ints_five _ 1 2 3 4 5).of (by simp))
  rw [h2] at hal0
  dsimp only [List.length] at hal0
  clear h1 h2
  go_enter Tryd.func47, Tryd.ntmps47
  go_wp2_with (first | (go_at_call 64; refine hlook.mono ?_; clear hlook; rintro e w1 ⟨rfl, hb1⟩; obtain ⟨hX, hY, hR1, hB1⟩ := start2 w k0 n0 k1 n1 (over_alloc _ hb1); obtain ⟨x0, x1, -, -⟩ := hX.alloc (cellsV 0 0); obtain ⟨y0, y1, -, -⟩ := hY.alloc (cellsV 0 0); have hal := hal0 w1; clear hb1 hal0) | (go_at_call 70; refine hal.mono ?_; clear hal; rintro e w2 ⟨rfl, hb2⟩; have hb2' := over2 _ _ _ hb2; have hR2 := hR1.later hb2'; have hX2 := hX.later hb2'; have hY2 := hY.later hb2'; have hB2 := below_step hB1 hb2'; obtain ⟨r0, r1, q0, q1⟩ := id hR2; obtain ⟨x2, x3, -, -⟩ := id hX2; obtain ⟨y2, y3, -, -⟩ := id hY2; clear hb2 hb2') | (go_at_call 14; refine (bad_any _ _).mono ?_; rintro e w3 ⟨rfl, hb3⟩; obtain ⟨s0, s1, t0, t1⟩ := hR2.later hb3; have hB3 := below_step hB2 hb3; clear hb3))
  exact bodyPost_ret (v := .agg #[.int .i64 6, .int .i64 5]) (by simp [results, Tryd.results47, go_sem, s0, s1]) rfl ⟨rfl, (hB3.setCell (by simp; omega) _).setCell (by simp; omega) _⟩

set_option maxHeartbeats 1000000 in
theorem rcompare_26_true (k0 n0 k1 n1 : Int) (w : World) (h1 : M.mish [(k0, n0), (k1, n1)] = none) (h2 : M.alike k0 [(k0, n0), (k1, n1)] [1, 2, 3, 4, 5] = true) (hy : (n0 != n1) = true) :
    Calls Tryd.prog 47 #[.int .i64 26, .agg #[.int .i64 k0, .int .i64 n0], .agg #[.int .i64 k1, .int .i64 n1]] w fun e w' => e = .returned (.agg #[.int .i64 3, .int .i64 1]) ∧ Below w.heap.size w w' := by
  have hlook := looked_any (some ⟨w.heap.size + 1 + 1 + 1, 0, none⟩) 2 [(k0, n0), (k1, n1)] ((((w.alloc (cellsV k0 n0)).alloc (cellsV k1 n1)).alloc (cellsV 0 0)).alloc (cellsV2 k0 n0 k1 n1)) ((row_two _ k0 n0 k1 n1).of (by simp)).vals
  rw [h1] at hlook
  dsimp only [M.vk, M.vn, Option.isSome, List.length] at hlook
  have hal0 := fun w1 : World => alike_any (w1.heap.size + 1) (w1.heap.size + 1 + 1) k0 n0 [(k1, n1)] [1, 2, 3, 4, 5] 2 5 (((w1.alloc (cellsV 0 0)).alloc (cellsV2 k0 n0 k1 n1)).alloc (ints5 1 2 3 4 5)) (((row_two _ k0 n0 k1 n1).alloc _).of (by simp)) ((ints_five _ 1 2 3 4 5).of (by simp))
  rw [h2] at hal0
  dsimp only [List.length] at hal0
  clear h1 h2
  go_enter Tryd.func47, Tryd.ntmps47
  go_wp2_with (first | (go_at_call 64; refine hlook.mono ?_; clear hlook; rintro e w1 ⟨rfl, hb1⟩; obtain ⟨hX, hY, hR1, hB1⟩ := start2 w k0 n0 k1 n1 (over_alloc _ hb1); obtain ⟨x0, x1, -, -⟩ := hX.alloc (cellsV 0 0); obtain ⟨y0, y1, -, -⟩ := hY.alloc (cellsV 0 0); have hal := hal0 w1; clear hb1 hal0) | (go_at_call 70; refine hal.mono ?_; clear hal; rintro e w2 ⟨rfl, hb2⟩; have hb2' := over2 _ _ _ hb2; have hR2 := hR1.later hb2'; have hX2 := hX.later hb2'; have hY2 := hY.later hb2'; have hB2 := below_step hB1 hb2'; obtain ⟨r0, r1, q0, q1⟩ := id hR2; obtain ⟨x2, x3, -, -⟩ := id hX2; obtain ⟨y2, y3, -, -⟩ := id hY2; clear hb2 hb2'))
  exact bodyPost_ret (v := .agg #[.int .i64 3, .int .i64 1]) (by simp [results, Tryd.results47, go_sem, r0, r1]) rfl ⟨rfl, (hB2.setCell (by simp; omega) _).setCell (by simp; omega) _⟩

set_option maxHeartbeats 1000000 in
theorem rcompare_26_false (k0 n0 k1 n1 : Int) (w : World) (h1 : M.mish [(k0, n0), (k1, n1)] = none) (h2 : M.alike k0 [(k0, n0), (k1, n1)] [1, 2, 3, 4, 5] = true) (hy : (n0 != n1) = false) :
    Calls Tryd.prog 47 #[.int .i64 26, .agg #[.int .i64 k0, .int .i64 n0], .agg #[.int .i64 k1, .int .i64 n1]] w fun e w' => e = .returned (.agg #[.int .i64 3, .int .i64 0]) ∧ Below w.heap.size w w' := by
  have hlook := looked_any (some ⟨w.heap.size + 1 + 1 + 1, 0, none⟩) 2 [(k0, n0), (k1, n1)] ((((w.alloc (cellsV k0 n0)).alloc (cellsV k1 n1)).alloc (cellsV 0 0)).alloc (cellsV2 k0 n0 k1 n1)) ((row_two _ k0 n0 k1 n1).of (by simp)).vals
  rw [h1] at hlook
  dsimp only [M.vk, M.vn, Option.isSome, List.length] at hlook
  have hal0 := fun w1 : World => alike_any (w1.heap.size + 1) (w1.heap.size + 1 + 1) k0 n0 [(k1, n1)] [1, 2, 3, 4, 5] 2 5 (((w1.alloc (cellsV 0 0)).alloc (cellsV2 k0 n0 k1 n1)).alloc (ints5 1 2 3 4 5)) (((row_two _ k0 n0 k1 n1).alloc _).of (by simp)) ((ints_five _ 1 2 3 4 5).of (by simp))
  rw [h2] at hal0
  dsimp only [List.length] at hal0
  clear h1 h2
  go_enter Tryd.func47, Tryd.ntmps47
  go_wp2_with (first | (go_at_call 64; refine hlook.mono ?_; clear hlook; rintro e w1 ⟨rfl, hb1⟩; obtain ⟨hX, hY, hR1, hB1⟩ := start2 w k0 n0 k1 n1 (over_alloc _ hb1); obtain ⟨x0, x1, -, -⟩ := hX.alloc (cellsV 0 0); obtain ⟨y0, y1, -, -⟩ := hY.alloc (cellsV 0 0); have hal := hal0 w1; clear hb1 hal0) | (go_at_call 70; refine hal.mono ?_; clear hal; rintro e w2 ⟨rfl, hb2⟩; have hb2' := over2 _ _ _ hb2; have hR2 := hR1.later hb2'; have hX2 := hX.later hb2'; have hY2 := hY.later hb2'; have hB2 := below_step hB1 hb2'; obtain ⟨r0, r1, q0, q1⟩ := id hR2; obtain ⟨x2, x3, -, -⟩ := id hX2; obtain ⟨y2, y3, -, -⟩ := id hY2; clear hb2 hb2'))
  exact bodyPost_ret (v := .agg #[.int .i64 3, .int .i64 0]) (by simp [results, Tryd.results47, go_sem, r0, r1]) rfl ⟨rfl, (hB2.setCell (by simp; omega) _).setCell (by simp; omega) _⟩

set_option maxHeartbeats 1000000 in
theorem rcompare_27_no (k0 n0 k1 n1 : Int) (w : World) (h1 : M.mish [(k0, n0), (k1, n1)] = none) (h2 : M.alike k0 [(k0, n0), (k1, n1)] [1, 2, 4] = false) :
    Calls Tryd.prog 47 #[.int .i64 27, .agg #[.int .i64 k0, .int .i64 n0], .agg #[.int .i64 k1, .int .i64 n1]] w fun e w' => e = .returned (.agg #[.int .i64 6, .int .i64 5]) ∧ Below w.heap.size w w' := by
  have hlook := looked_any (some ⟨w.heap.size + 1 + 1 + 1, 0, none⟩) 2 [(k0, n0), (k1, n1)] ((((w.alloc (cellsV k0 n0)).alloc (cellsV k1 n1)).alloc (cellsV 0 0)).alloc (cellsV2 k0 n0 k1 n1)) ((row_two _ k0 n0 k1 n1).of (by simp)).vals
  rw [h1] at hlook
  dsimp only [M.vk, M.vn, Option.isSome, List.length] at hlook
  have hal0 := fun w1 : World => alike_any (w1.heap.size + 1) (w1.heap.size + 1 + 1) k0 n0 [(k1, n1)] [1, 2, 4] 2 3 (((w1.alloc (cellsV 0 0)).alloc (cellsV2 k0 n0 k1 n1)).alloc (ints3 1 2 4)) (((row_two _ k0 n0 k1 n1).alloc _).of (by simp)) ((ints_three _ 1 2 4).of (by simp))
  rw [h2] at hal0
  dsimp only [List.length] at hal0
  clear h1 h2
  go_enter Tryd.func47, Tryd.ntmps47
  go_wp2_with (first | (go_at_call 64; refine hlook.mono ?_; clear hlook; rintro e w1 ⟨rfl, hb1⟩; obtain ⟨hX, hY, hR1, hB1⟩ := start2 w k0 n0 k1 n1 (over_alloc _ hb1); obtain ⟨x0, x1, -, -⟩ := hX.alloc (cellsV 0 0); obtain ⟨y0, y1, -, -⟩ := hY.alloc (cellsV 0 0); have hal := hal0 w1; clear hb1 hal0) | (go_at_call 70; refine hal.mono ?_; clear hal; rintro e w2 ⟨rfl, hb2⟩; have hb2' := over2 _ _ _ hb2; have hR2 := hR1.later hb2'; have hX2 := hX.later hb2'; have hY2 := hY.later hb2'; have hB2 := below_step hB1 hb2'; obtain ⟨r0, r1, q0, q1⟩ := id hR2; obtain ⟨x2, x3, -, -⟩ := id hX2; obtain ⟨y2, y3, -, -⟩ := id hY2; clear hb2 hb2') | (go_at_call 14; refine (bad_any _ _).mono ?_; rintro e w3 ⟨rfl, hb3⟩; obtain ⟨s0, s1, t0, t1⟩ := hR2.later hb3; have hB3 := below_step hB2 hb3; clear hb3))
  exact bodyPost_ret (v := .agg #[.int .i64 6, .int .i64 5]) (by simp [results, Tryd.results47, go_sem, s0, s1]) rfl ⟨rfl, (hB3.setCell (by simp; omega) _).setCell (by simp; omega) _⟩

set_option maxHeartbeats 1000000 in
theorem rcompare_27_true (k0 n0 k1 n1 : Int) (w : World) (h1 : M.mish [(k0, n0), (k1, n1)] = none) (h2 : M.alike k0 [(k0, n0), (k1, n1)] [1, 2, 4] = true) (hy : n0 < n1) :
    Calls Tryd.prog 47 #[.int .i64 27, .agg #[.int .i64 k0, .int .i64 n0], .agg #[.int .i64 k1, .int .i64 n1]] w fun e w' => e = .returned (.agg #[.int .i64 3, .int .i64 1]) ∧ Below w.heap.size w w' := by
  have hlook := looked_any (some ⟨w.heap.size + 1 + 1 + 1, 0, none⟩) 2 [(k0, n0), (k1, n1)] ((((w.alloc (cellsV k0 n0)).alloc (cellsV k1 n1)).alloc (cellsV 0 0)).alloc (cellsV2 k0 n0 k1 n1)) ((row_two _ k0 n0 k1 n1).of (by simp)).vals
  rw [h1] at hlook
  dsimp only [M.vk, M.vn, Option.isSome, List.length] at hlook
  have hal0 := fun w1 : World => alike_any (w1.heap.size + 1) (w1.heap.size + 1 + 1) k0 n0 [(k1, n1)] [1, 2, 4] 2 3 (((w1.alloc (cellsV 0 0)).alloc (cellsV2 k0 n0 k1 n1)).alloc (ints3 1 2 4)) (((row_two _ k0 n0 k1 n1).alloc _).of (by simp)) ((ints_three _ 1 2 4).of (by simp))
  rw [h2] at hal0
  dsimp only [List.length] at hal0
  clear h1 h2
  go_enter Tryd.func47, Tryd.ntmps47
  go_wp2_with (first | (go_at_call 64; refine hlook.mono ?_; clear hlook; rintro e w1 ⟨rfl, hb1⟩; obtain ⟨hX, hY, hR1, hB1⟩ := start2 w k0 n0 k1 n1 (over_alloc _ hb1); obtain ⟨x0, x1, -, -⟩ := hX.alloc (cellsV 0 0); obtain ⟨y0, y1, -, -⟩ := hY.alloc (cellsV 0 0); have hal := hal0 w1; clear hb1 hal0) | (go_at_call 70; refine hal.mono ?_; clear hal; rintro e w2 ⟨rfl, hb2⟩; have hb2' := over2 _ _ _ hb2; have hR2 := hR1.later hb2'; have hX2 := hX.later hb2'; have hY2 := hY.later hb2'; have hB2 := below_step hB1 hb2'; obtain ⟨r0, r1, q0, q1⟩ := id hR2; obtain ⟨x2, x3, -, -⟩ := id hX2; obtain ⟨y2, y3, -, -⟩ := id hY2; clear hb2 hb2'))
  exact bodyPost_ret (v := .agg #[.int .i64 3, .int .i64 1]) (by simp [results, Tryd.results47, go_sem, r0, r1]) rfl ⟨rfl, (hB2.setCell (by simp; omega) _).setCell (by simp; omega) _⟩

set_option maxHeartbeats 1000000 in
theorem rcompare_27_false (k0 n0 k1 n1 : Int) (w : World) (h1 : M.mish [(k0, n0), (k1, n1)] = none) (h2 : M.alike k0 [(k0, n0), (k1, n1)] [1, 2, 4] = true) (hy : ¬ n0 < n1) :
    Calls Tryd.prog 47 #[.int .i64 27, .agg #[.int .i64 k0, .int .i64 n0], .agg #[.int .i64 k1, .int .i64 n1]] w fun e w' => e = .returned (.agg #[.int .i64 3, .int .i64 0]) ∧ Below w.heap.size w w' := by
  have hlook := looked_any (some ⟨w.heap.size + 1 + 1 + 1, 0, none⟩) 2 [(k0, n0), (k1, n1)] ((((w.alloc (cellsV k0 n0)).alloc (cellsV k1 n1)).alloc (cellsV 0 0)).alloc (cellsV2 k0 n0 k1 n1)) ((row_two _ k0 n0 k1 n1).of (by simp)).vals
  rw [h1] at hlook
  dsimp only [M.vk, M.vn, Option.isSome, List.length] at hlook
  have hal0 := fun w1 : World => alike_any (w1.heap.size + 1) (w1.heap.size + 1 + 1) k0 n0 [(k1, n1)] [1, 2, 4] 2 3 (((w1.alloc (cellsV 0 0)).alloc (cellsV2 k0 n0 k1 n1)).alloc (ints3 1 2 4)) (((row_two _ k0 n0 k1 n1).alloc _).of (by simp)) ((ints_three _ 1 2 4).of (by simp))
  rw [h2] at hal0
  dsimp only [List.length] at hal0
  clear h1 h2
  go_enter Tryd.func47, Tryd.ntmps47
  go_wp2_with (first | (go_at_call 64; refine hlook.mono ?_; clear hlook; rintro e w1 ⟨rfl, hb1⟩; obtain ⟨hX, hY, hR1, hB1⟩ := start2 w k0 n0 k1 n1 (over_alloc _ hb1); obtain ⟨x0, x1, -, -⟩ := hX.alloc (cellsV 0 0); obtain ⟨y0, y1, -, -⟩ := hY.alloc (cellsV 0 0); have hal := hal0 w1; clear hb1 hal0) | (go_at_call 70; refine hal.mono ?_; clear hal; rintro e w2 ⟨rfl, hb2⟩; have hb2' := over2 _ _ _ hb2; have hR2 := hR1.later hb2'; have hX2 := hX.later hb2'; have hY2 := hY.later hb2'; have hB2 := below_step hB1 hb2'; obtain ⟨r0, r1, q0, q1⟩ := id hR2; obtain ⟨x2, x3, -, -⟩ := id hX2; obtain ⟨y2, y3, -, -⟩ := id hY2; clear hb2 hb2'))
  exact bodyPost_ret (v := .agg #[.int .i64 3, .int .i64 0]) (by simp [results, Tryd.results47, go_sem, r0, r1]) rfl ⟨rfl, (hB2.setCell (by simp; omega) _).setCell (by simp; omega) _⟩

set_option maxHeartbeats 1000000 in
theorem rcompare_28_no (k0 n0 k1 n1 : Int) (w : World) (h1 : M.mish [(k0, n0), (k1, n1)] = none) (h2 : M.alike k0 [(k0, n0), (k1, n1)] [1, 2, 4] = false) :
    Calls Tryd.prog 47 #[.int .i64 28, .agg #[.int .i64 k0, .int .i64 n0], .agg #[.int .i64 k1, .int .i64 n1]] w fun e w' => e = .returned (.agg #[.int .i64 6, .int .i64 5]) ∧ Below w.heap.size w w' := by
  have hlook := looked_any (some ⟨w.heap.size + 1 + 1 + 1, 0, none⟩) 2 [(k0, n0), (k1, n1)] ((((w.alloc (cellsV k0 n0)).alloc (cellsV k1 n1)).alloc (cellsV 0 0)).alloc (cellsV2 k0 n0 k1 n1)) ((row_two _ k0 n0 k1 n1).of (by simp)).vals
  rw [h1] at hlook
  dsimp only [M.vk, M.vn, Option.isSome, List.length] at hlook
  have hal0 := fun w1 : World => alike_any (w1.heap.size + 1) (w1.heap.size + 1 + 1) k0 n0 [(k1, n1)] [1, 2, 4] 2 3 (((w1.alloc (cellsV 0 0)).alloc (cellsV2 k0 n0 k1 n1)).alloc (ints3 1 2 4)) (((row_two _ k0 n0 k1 n1).alloc _).of (by simp)) ((ints_three _ 1 2 4).of (by simp))
  rw [h2] at hal0
  dsimp only [List.length] at hal0
  clear h1 h2
  go_enter Tryd.func47, Tryd.ntmps47
  go_wp2_with (first | (go_at_call 64; refine hlook.mono ?_; clear hlook; rintro e w1 ⟨rfl, hb1⟩; obtain ⟨hX, hY, hR1, hB1⟩ := start2 w k0 n0 k1 n1 (over_alloc _ hb1); obtain ⟨x0, x1, -, -⟩ := hX.alloc (cellsV 0 0); obtain ⟨y0, y1, -, -⟩ := hY.alloc (cellsV 0 0); have hal := hal0 w1; clear hb1 hal0) | (go_at_call 70; refine hal.mono ?_; clear hal; rintro e w2 ⟨rfl, hb2⟩; have hb2' := over2 _ _ _ hb2; have hR2 := hR1.later hb2'; have hX2 := hX.later hb2'; have hY2 := hY.later hb2'; have hB2 := below_step hB1 hb2'; obtain ⟨r0, r1, q0, q1⟩ := id hR2; obtain ⟨x2, x3, -, -⟩ := id hX2; obtain ⟨y2, y3, -, -⟩ := id hY2; clear hb2 hb2') | (go_at_call 14; refine (bad_any _ _).mono ?_; rintro e w3 ⟨rfl, hb3⟩; obtain ⟨s0, s1, t0, t1⟩ := hR2.later hb3; have hB3 := below_step hB2 hb3; clear hb3))
  exact bodyPost_ret (v := .agg #[.int .i64 6, .int .i64 5]) (by simp [results, Tryd.results47, go_sem, s0, s1]) rfl ⟨rfl, (hB3.setCell (by simp; omega) _).setCell (by simp; omega) _⟩

set_option maxHeartbeats 1000000 in
theorem rcompare_28_true (k0 n0 k1 n1 : Int) (w : World) (h1 : M.mish [(k0, n0), (k1, n1)] = none) (h2 : M.alike k0 [(k0, n0), (k1, n1)] [1, 2, 4] = true) (hy : n0 ≤ n1) :
    Calls Tryd.prog 47 #[.int .i64 28, .agg #[.int .i64 k0, .int .i64 n0], .agg #[.int .i64 k1, .int .i64 n1]] w fun e w' => e = .returned (.agg #[.int .i64 3, .int .i64 1]) ∧ Below w.heap.size w w' := by
  have hlook := looked_any (some ⟨w.heap.size + 1 + 1 + 1, 0, none⟩) 2 [(k0, n0), (k1, n1)] ((((w.alloc (cellsV k0 n0)).alloc (cellsV k1 n1)).alloc (cellsV 0 0)).alloc (cellsV2 k0 n0 k1 n1)) ((row_two _ k0 n0 k1 n1).of (by simp)).vals
  rw [h1] at hlook
  dsimp only [M.vk, M.vn, Option.isSome, List.length] at hlook
  have hal0 := fun w1 : World => alike_any (w1.heap.size + 1) (w1.heap.size + 1 + 1) k0 n0 [(k1, n1)] [1, 2, 4] 2 3 (((w1.alloc (cellsV 0 0)).alloc (cellsV2 k0 n0 k1 n1)).alloc (ints3 1 2 4)) (((row_two _ k0 n0 k1 n1).alloc _).of (by simp)) ((ints_three _ 1 2 4).of (by simp))
  rw [h2] at hal0
  dsimp only [List.length] at hal0
  clear h1 h2
  go_enter Tryd.func47, Tryd.ntmps47
  go_wp2_with (first | (go_at_call 64; refine hlook.mono ?_; clear hlook; rintro e w1 ⟨rfl, hb1⟩; obtain ⟨hX, hY, hR1, hB1⟩ := start2 w k0 n0 k1 n1 (over_alloc _ hb1); obtain ⟨x0, x1, -, -⟩ := hX.alloc (cellsV 0 0); obtain ⟨y0, y1, -, -⟩ := hY.alloc (cellsV 0 0); have hal := hal0 w1; clear hb1 hal0) | (go_at_call 70; refine hal.mono ?_; clear hal; rintro e w2 ⟨rfl, hb2⟩; have hb2' := over2 _ _ _ hb2; have hR2 := hR1.later hb2'; have hX2 := hX.later hb2'; have hY2 := hY.later hb2'; have hB2 := below_step hB1 hb2'; obtain ⟨r0, r1, q0, q1⟩ := id hR2; obtain ⟨x2, x3, -, -⟩ := id hX2; obtain ⟨y2, y3, -, -⟩ := id hY2; clear hb2 hb2'))
  exact bodyPost_ret (v := .agg #[.int .i64 3, .int .i64 1]) (by simp [results, Tryd.results47, go_sem, r0, r1]) rfl ⟨rfl, (hB2.setCell (by simp; omega) _).setCell (by simp; omega) _⟩

set_option maxHeartbeats 1000000 in
theorem rcompare_28_false (k0 n0 k1 n1 : Int) (w : World) (h1 : M.mish [(k0, n0), (k1, n1)] = none) (h2 : M.alike k0 [(k0, n0), (k1, n1)] [1, 2, 4] = true) (hy : ¬ n0 ≤ n1) :
    Calls Tryd.prog 47 #[.int .i64 28, .agg #[.int .i64 k0, .int .i64 n0], .agg #[.int .i64 k1, .int .i64 n1]] w fun e w' => e = .returned (.agg #[.int .i64 3, .int .i64 0]) ∧ Below w.heap.size w w' := by
  have hlook := looked_any (some ⟨w.heap.size + 1 + 1 + 1, 0, none⟩) 2 [(k0, n0), (k1, n1)] ((((w.alloc (cellsV k0 n0)).alloc (cellsV k1 n1)).alloc (cellsV 0 0)).alloc (cellsV2 k0 n0 k1 n1)) ((row_two _ k0 n0 k1 n1).of (by simp)).vals
  rw [h1] at hlook
  dsimp only [M.vk, M.vn, Option.isSome, List.length] at hlook
  have hal0 := fun w1 : World => alike_any (w1.heap.size + 1) (w1.heap.size + 1 + 1) k0 n0 [(k1, n1)] [1, 2, 4] 2 3 (((w1.alloc (cellsV 0 0)).alloc (cellsV2 k0 n0 k1 n1)).alloc (ints3 1 2 4)) (((row_two _ k0 n0 k1 n1).alloc _).of (by simp)) ((ints_three _ 1 2 4).of (by simp))
  rw [h2] at hal0
  dsimp only [List.length] at hal0
  clear h1 h2
  go_enter Tryd.func47, Tryd.ntmps47
  go_wp2_with (first | (go_at_call 64; refine hlook.mono ?_; clear hlook; rintro e w1 ⟨rfl, hb1⟩; obtain ⟨hX, hY, hR1, hB1⟩ := start2 w k0 n0 k1 n1 (over_alloc _ hb1); obtain ⟨x0, x1, -, -⟩ := hX.alloc (cellsV 0 0); obtain ⟨y0, y1, -, -⟩ := hY.alloc (cellsV 0 0); have hal := hal0 w1; clear hb1 hal0) | (go_at_call 70; refine hal.mono ?_; clear hal; rintro e w2 ⟨rfl, hb2⟩; have hb2' := over2 _ _ _ hb2; have hR2 := hR1.later hb2'; have hX2 := hX.later hb2'; have hY2 := hY.later hb2'; have hB2 := below_step hB1 hb2'; obtain ⟨r0, r1, q0, q1⟩ := id hR2; obtain ⟨x2, x3, -, -⟩ := id hX2; obtain ⟨y2, y3, -, -⟩ := id hY2; clear hb2 hb2'))
  exact bodyPost_ret (v := .agg #[.int .i64 3, .int .i64 0]) (by simp [results, Tryd.results47, go_sem, r0, r1]) rfl ⟨rfl, (hB2.setCell (by simp; omega) _).setCell (by simp; omega) _⟩

set_option maxHeartbeats 1000000 in
theorem rcompare_29_no (k0 n0 k1 n1 : Int) (w : World) (h1 : M.mish [(k0, n0), (k1, n1)] = none) (h2 : M.alike k0 [(k0, n0), (k1, n1)] [1, 2, 4] = false) :
    Calls Tryd.prog 47 #[.int .i64 29, .agg #[.int .i64 k0, .int .i64 n0], .agg #[.int .i64 k1, .int .i64 n1]] w fun e w' => e = .returned (.agg #[.int .i64 6, .int .i64 5]) ∧ Below w.heap.size w w' := by
  have hlook := looked_any (some ⟨w.heap.size + 1 + 1 + 1, 0, none⟩) 2 [(k0, n0), (k1, n1)] ((((w.alloc (cellsV k0 n0)).alloc (cellsV k1 n1)).alloc (cellsV 0 0)).alloc (cellsV2 k0 n0 k1 n1)) ((row_two _ k0 n0 k1 n1).of (by simp)).vals
  rw [h1] at hlook
  dsimp only [M.vk, M.vn, Option.isSome, List.length] at hlook
  have hal0 := fun w1 : World => alike_any (w1.heap.size + 1) (w1.heap.size + 1 + 1) k0 n0 [(k1, n1)] [1, 2, 4] 2 3 (((w1.alloc (cellsV 0 0)).alloc (cellsV2 k0 n0 k1 n1)).alloc (ints3 1 2 4)) (((row_two _ k0 n0 k1 n1).alloc _).of (by simp)) ((ints_three _ 1 2 4).of (by simp))
  rw [h2] at hal0
  dsimp only [List.length] at hal0
  clear h1 h2
  go_enter Tryd.func47, Tryd.ntmps47
  go_wp2_with (first | (go_at_call 64; refine hlook.mono ?_; clear hlook; rintro e w1 ⟨rfl, hb1⟩; obtain ⟨hX, hY, hR1, hB1⟩ := start2 w k0 n0 k1 n1 (over_alloc _ hb1); obtain ⟨x0, x1, -, -⟩ := hX.alloc (cellsV 0 0); obtain ⟨y0, y1, -, -⟩ := hY.alloc (cellsV 0 0); have hal := hal0 w1; clear hb1 hal0) | (go_at_call 70; refine hal.mono ?_; clear hal; rintro e w2 ⟨rfl, hb2⟩; have hb2' := over2 _ _ _ hb2; have hR2 := hR1.later hb2'; have hX2 := hX.later hb2'; have hY2 := hY.later hb2'; have hB2 := below_step hB1 hb2'; obtain ⟨r0, r1, q0, q1⟩ := id hR2; obtain ⟨x2, x3, -, -⟩ := id hX2; obtain ⟨y2, y3, -, -⟩ := id hY2; clear hb2 hb2') | (go_at_call 14; refine (bad_any _ _).mono ?_; rintro e w3 ⟨rfl, hb3⟩; obtain ⟨s0, s1, t0, t1⟩ := hR2.later hb3; have hB3 := below_step hB2 hb3; clear hb3))
  exact bodyPost_ret (v := .agg #[.int .i64 6, .int .i64 5]) (by simp [results, Tryd.results47, go_sem, s0, s1]) rfl ⟨rfl, (hB3.setCell (by simp; omega) _).setCell (by simp; omega) _⟩

set_option maxHeartbeats 1000000 in
theorem rcompare_29_true (k0 n0 k1 n1 : Int) (w : World) (h1 : M.mish [(k0, n0), (k1, n1)] = none) (h2 : M.alike k0 [(k0, n0), (k1, n1)] [1, 2, 4] = true) (hy : n1 < n0) :
    Calls Tryd.prog 47 #[.int .i64 29, .agg #[.int .i64 k0, .int .i64 n0], .agg #[.int .i64 k1, .int .i64 n1]] w fun e w' => e = .returned (.agg #[.int .i64 3, .int .i64 1]) ∧ Below w.heap.size w w' := by
  have hlook := looked_any (some ⟨w.heap.size + 1 + 1 + 1, 0, none⟩) 2 [(k0, n0), (k1, n1)] ((((w.alloc (cellsV k0 n0)).alloc (cellsV k1 n1)).alloc (cellsV 0 0)).alloc (cellsV2 k0 n0 k1 n1)) ((row_two _ k0 n0 k1 n1).of (by simp)).vals
  rw [h1] at hlook
  dsimp only [M.vk, M.vn, Option.isSome, List.length] at hlook
  have hal0 := fun w1 : World => alike_any (w1.heap.size + 1) (w1.heap.size + 1 + 1) k0 n0 [(k1, n1)] [1, 2, 4] 2 3 (((w1.alloc (cellsV 0 0)).alloc (cellsV2 k0 n0 k1 n1)).alloc (ints3 1 2 4)) (((row_two _ k0 n0 k1 n1).alloc _).of (by simp)) ((ints_three _ 1 2 4).of (by simp))
  rw [h2] at hal0
  dsimp only [List.length] at hal0
  clear h1 h2
  go_enter Tryd.func47, Tryd.ntmps47
  go_wp2_with (first | (go_at_call 64; refine hlook.mono ?_; clear hlook; rintro e w1 ⟨rfl, hb1⟩; obtain ⟨hX, hY, hR1, hB1⟩ := start2 w k0 n0 k1 n1 (over_alloc _ hb1); obtain ⟨x0, x1, -, -⟩ := hX.alloc (cellsV 0 0); obtain ⟨y0, y1, -, -⟩ := hY.alloc (cellsV 0 0); have hal := hal0 w1; clear hb1 hal0) | (go_at_call 70; refine hal.mono ?_; clear hal; rintro e w2 ⟨rfl, hb2⟩; have hb2' := over2 _ _ _ hb2; have hR2 := hR1.later hb2'; have hX2 := hX.later hb2'; have hY2 := hY.later hb2'; have hB2 := below_step hB1 hb2'; obtain ⟨r0, r1, q0, q1⟩ := id hR2; obtain ⟨x2, x3, -, -⟩ := id hX2; obtain ⟨y2, y3, -, -⟩ := id hY2; clear hb2 hb2'))
  exact bodyPost_ret (v := .agg #[.int .i64 3, .int .i64 1]) (by simp [results, Tryd.results47, go_sem, r0, r1]) rfl ⟨rfl, (hB2.setCell (by simp; omega) _).setCell (by simp; omega) _⟩

set_option maxHeartbeats 1000000 in
theorem rcompare_29_false (k0 n0 k1 n1 : Int) (w : World) (h1 : M.mish [(k0, n0), (k1, n1)] = none) (h2 : M.alike k0 [(k0, n0), (k1, n1)] [1, 2, 4] = true) (hy : ¬ n1 < n0) :
    Calls Tryd.prog 47 #[.int .i64 29, .agg #[.int .i64 k0, .int .i64 n0], .agg #[.int .i64 k1, .int .i64 n1]] w fun e w' => e = .returned (.agg #[.int .i64 3, .int .i64 0]) ∧ Below w.heap.size w w' := by
  have hlook := looked_any (some ⟨w.heap.size + 1 + 1 + 1, 0, none⟩) 2 [(k0, n0), (k1, n1)] ((((w.alloc (cellsV k0 n0)).alloc (cellsV k1 n1)).alloc (cellsV 0 0)).alloc (cellsV2 k0 n0 k1 n1)) ((row_two _ k0 n0 k1 n1).of (by simp)).vals
  rw [h1] at hlook
  dsimp only [M.vk, M.vn, Option.isSome, List.length] at hlook
  have hal0 := fun w1 : World => alike_any (w1.heap.size + 1) (w1.heap.size + 1 + 1) k0 n0 [(k1, n1)] [1, 2, 4] 2 3 (((w1.alloc (cellsV 0 0)).alloc (cellsV2 k0 n0 k1 n1)).alloc (ints3 1 2 4)) (((row_two _ k0 n0 k1 n1).alloc _).of (by simp)) ((ints_three _ 1 2 4).of (by simp))
  rw [h2] at hal0
  dsimp only [List.length] at hal0
  clear h1 h2
  go_enter Tryd.func47, Tryd.ntmps47
  go_wp2_with (first | (go_at_call 64; refine hlook.mono ?_; clear hlook; rintro e w1 ⟨rfl, hb1⟩; obtain ⟨hX, hY, hR1, hB1⟩ := start2 w k0 n0 k1 n1 (over_alloc _ hb1); obtain ⟨x0, x1, -, -⟩ := hX.alloc (cellsV 0 0); obtain ⟨y0, y1, -, -⟩ := hY.alloc (cellsV 0 0); have hal := hal0 w1; clear hb1 hal0) | (go_at_call 70; refine hal.mono ?_; clear hal; rintro e w2 ⟨rfl, hb2⟩; have hb2' := over2 _ _ _ hb2; have hR2 := hR1.later hb2'; have hX2 := hX.later hb2'; have hY2 := hY.later hb2'; have hB2 := below_step hB1 hb2'; obtain ⟨r0, r1, q0, q1⟩ := id hR2; obtain ⟨x2, x3, -, -⟩ := id hX2; obtain ⟨y2, y3, -, -⟩ := id hY2; clear hb2 hb2'))
  exact bodyPost_ret (v := .agg #[.int .i64 3, .int .i64 0]) (by simp [results, Tryd.results47, go_sem, r0, r1]) rfl ⟨rfl, (hB2.setCell (by simp; omega) _).setCell (by simp; omega) _⟩

set_option maxHeartbeats 1000000 in
theorem rcompare_30_no (k0 n0 k1 n1 : Int) (w : World) (h1 : M.mish [(k0, n0), (k1, n1)] = none) (h2 : M.alike k0 [(k0, n0), (k1, n1)] [1, 2, 4] = false) :
    Calls Tryd.prog 47 #[.int .i64 30, .agg #[.int .i64 k0, .int .i64 n0], .agg #[.int .i64 k1, .int .i64 n1]] w fun e w' => e = .returned (.agg #[.int .i64 6, .int .i64 5]) ∧ Below w.heap.size w w' := by
  have hlook := looked_any (some ⟨w.heap.size + 1 + 1 + 1, 0, none⟩) 2 [(k0, n0), (k1, n1)] ((((w.alloc (cellsV k0 n0)).alloc (cellsV k1 n1)).alloc (cellsV 0 0)).alloc (cellsV2 k0 n0 k1 n1)) ((row_two _ k0 n0 k1 n1).of (by simp)).vals
  rw [h1] at hlook
  dsimp only [M.vk, M.vn, Option.isSome, List.length] at hlook
  have hal0 := fun w1 : World => alike_any (w1.heap.size + 1) (w1.heap.size + 1 + 1) k0 n0 [(k1, n1)] [1, 2, 4] 2 3 (((w1.alloc (cellsV 0 0)).alloc (cellsV2 k0 n0 k1 n1)).alloc (ints3 1 2 4)) (((row_two _ k0 n0 k1 n1).alloc _).of (by simp)) ((ints_three _ 1 2 4).of (by simp))
  rw [h2] at hal0
  dsimp only [List.length] at hal0
  clear h1 h2
  go_enter Tryd.func47, Tryd.ntmps47
  go_wp2_with (first | (go_at_call 64; refine hlook.mono ?_; clear hlook; rintro e w1 ⟨rfl, hb1⟩; obtain ⟨hX, hY, hR1, hB1⟩ := start2 w k0 n0 k1 n1 (over_alloc _ hb1); obtain ⟨x0, x1, -, -⟩ := hX.alloc (cellsV 0 0); obtain ⟨y0, y1, -, -⟩ := hY.alloc (cellsV 0 0); have hal := hal0 w1; clear hb1 hal0) | (go_at_call 70; refine hal.mono ?_; clear hal; rintro e w2 ⟨rfl, hb2⟩; have hb2' := over2 _ _ _ hb2; have hR2 := hR1.later hb2'; have hX2 := hX.later hb2'; have hY2 := hY.later hb2'; have hB2 := below_step hB1 hb2'; obtain ⟨r0, r1, q0, q1⟩ := id hR2; obtain ⟨x2, x3, -, -⟩ := id hX2; obtain ⟨y2, y3, -, -⟩ := id hY2; clear hb2 hb2') | (go_at_call 14; refine (bad_any _ _).mono ?_; rintro e w3 ⟨rfl, hb3⟩; obtain ⟨s0, s1, t0, t1⟩ := hR2.later hb3; have hB3 := below_step hB2 hb3; clear hb3))
  exact bodyPost_ret (v := .agg #[.int .i64 6, .int .i64 5]) (by simp [results, Tryd.results47, go_sem, s0, s1]) rfl ⟨rfl, (hB3.setCell (by simp; omega) _).setCell (by simp; omega) _⟩

set_option maxHeartbeats 1000000 in
theorem rcompare_30_true (k0 n0 k1 n1 : Int) (w : World) (h1 : M.mish [(k0, n0), (k1, n1)] = none) (h2 : M.alike k0 [(k0, n0), (k1, n1)] [1, 2, 4] = true) (hy : n1 ≤ n0) :
    Calls Tryd.prog 47 #[.int .i64 30, .agg #[.int .i64 k0, .int .i64 n0], .agg #[.int .i64 k1, .int .i64 n1]] w fun e w' => e = .returned (.agg #[.int .i64 3, .int .i64 1]) ∧ Below w.heap.size w w' := by
  have hlook := looked_any (some ⟨w.heap.size + 1 + 1 + 1, 0, none⟩) 2 [(k0, n0), (k1, n1)] ((((w.alloc (cellsV k0 n0)).alloc (cellsV k1 n1)).alloc (cellsV 0 0)).alloc (cellsV2 k0 n0 k1 n1)) ((row_two _ k0 n0 k1 n1).of (by simp)).vals
  rw [h1] at hlook
  dsimp only [M.vk, M.vn, Option.isSome, List.length] at hlook
  have hal0 := fun w1 : World => alike_any (w1.heap.size + 1) (w1.heap.size + 1 + 1) k0 n0 [(k1, n1)] [1, 2, 4] 2 3 (((w1.alloc (cellsV 0 0)).alloc (cellsV2 k0 n0 k1 n1)).alloc (ints3 1 2 4)) (((row_two _ k0 n0 k1 n1).alloc _).of (by simp)) ((ints_three _ 1 2 4).of (by simp))
  rw [h2] at hal0
  dsimp only [List.length] at hal0
  clear h1 h2
  go_enter Tryd.func47, Tryd.ntmps47
  go_wp2_with (first | (go_at_call 64; refine hlook.mono ?_; clear hlook; rintro e w1 ⟨rfl, hb1⟩; obtain ⟨hX, hY, hR1, hB1⟩ := start2 w k0 n0 k1 n1 (over_alloc _ hb1); obtain ⟨x0, x1, -, -⟩ := hX.alloc (cellsV 0 0); obtain ⟨y0, y1, -, -⟩ := hY.alloc (cellsV 0 0); have hal := hal0 w1; clear hb1 hal0) | (go_at_call 70; refine hal.mono ?_; clear hal; rintro e w2 ⟨rfl, hb2⟩; have hb2' := over2 _ _ _ hb2; have hR2 := hR1.later hb2'; have hX2 := hX.later hb2'; have hY2 := hY.later hb2'; have hB2 := below_step hB1 hb2'; obtain ⟨r0, r1, q0, q1⟩ := id hR2; obtain ⟨x2, x3, -, -⟩ := id hX2; obtain ⟨y2, y3, -, -⟩ := id hY2; clear hb2 hb2'))
  exact bodyPost_ret (v := .agg #[.int .i64 3, .int .i64 1]) (by simp [results, Tryd.results47, go_sem, r0, r1]) rfl ⟨rfl, (hB2.setCell (by simp; omega) _).setCell (by simp; omega) _⟩

set_option maxHeartbeats 1000000 in
theorem rcompare_30_false (k0 n0 k1 n1 : Int) (w : World) (h1 : M.mish [(k0, n0), (k1, n1)] = none) (h2 : M.alike k0 [(k0, n0), (k1, n1)] [1, 2, 4] = true) (hy : ¬ n1 ≤ n0) :
    Calls Tryd.prog 47 #[.int .i64 30, .agg #[.int .i64 k0, .int .i64 n0], .agg #[.int .i64 k1, .int .i64 n1]] w fun e w' => e = .returned (.agg #[.int .i64 3, .int .i64 0]) ∧ Below w.heap.size w w' := by
  have hlook := looked_any (some ⟨w.heap.size + 1 + 1 + 1, 0, none⟩) 2 [(k0, n0), (k1, n1)] ((((w.alloc (cellsV k0 n0)).alloc (cellsV k1 n1)).alloc (cellsV 0 0)).alloc (cellsV2 k0 n0 k1 n1)) ((row_two _ k0 n0 k1 n1).of (by simp)).vals
  rw [h1] at hlook
  dsimp only [M.vk, M.vn, Option.isSome, List.length] at hlook
  have hal0 := fun w1 : World => alike_any (w1.heap.size + 1) (w1.heap.size + 1 + 1) k0 n0 [(k1, n1)] [1, 2, 4] 2 3 (((w1.alloc (cellsV 0 0)).alloc (cellsV2 k0 n0 k1 n1)).alloc (ints3 1 2 4)) (((row_two _ k0 n0 k1 n1).alloc _).of (by simp)) ((ints_three _ 1 2 4).of (by simp))
  rw [h2] at hal0
  dsimp only [List.length] at hal0
  clear h1 h2
  go_enter Tryd.func47, Tryd.ntmps47
  go_wp2_with (first | (go_at_call 64; refine hlook.mono ?_; clear hlook; rintro e w1 ⟨rfl, hb1⟩; obtain ⟨hX, hY, hR1, hB1⟩ := start2 w k0 n0 k1 n1 (over_alloc _ hb1); obtain ⟨x0, x1, -, -⟩ := hX.alloc (cellsV 0 0); obtain ⟨y0, y1, -, -⟩ := hY.alloc (cellsV 0 0); have hal := hal0 w1; clear hb1 hal0) | (go_at_call 70; refine hal.mono ?_; clear hal; rintro e w2 ⟨rfl, hb2⟩; have hb2' := over2 _ _ _ hb2; have hR2 := hR1.later hb2'; have hX2 := hX.later hb2'; have hY2 := hY.later hb2'; have hB2 := below_step hB1 hb2'; obtain ⟨r0, r1, q0, q1⟩ := id hR2; obtain ⟨x2, x3, -, -⟩ := id hX2; obtain ⟨y2, y3, -, -⟩ := id hY2; clear hb2 hb2'))
  exact bodyPost_ret (v := .agg #[.int .i64 3, .int .i64 0]) (by simp [results, Tryd.results47, go_sem, r0, r1]) rfl ⟨rfl, (hB2.setCell (by simp; omega) _).setCell (by simp; omega) _⟩

end Go.Proofs.YtnmcniibcjjflaaDoor
