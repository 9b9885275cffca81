import Derived.Test.YtnmcniibcjjflaaDoorJoin9
import Derived.Test.YtnmcniibcjjflaaDoorJoin6
namespace Go.Proofs.YtnmcniibcjjflaaDoor
open Go.RowKit

set_option maxHeartbeats 1000000 in
theorem rsplit_some (k0 n0 k1 n1 mode : Int) (w : World) (x y : Int) (h1 : M.mish [(k0, n0), (k1, n1)] = some (x, y)) :
    Calls Tryd.prog 45 #[.agg #[.int .i64 k0, .int .i64 n0], .agg #[.int .i64 k1, .int .i64 n1], .int .i64 mode] w fun e w' => e = .returned (.agg #[.int .i64 x, .int .i64 y]) ∧ Below w.heap.size w w' := by
  have hlook := looked_any (some ⟨w.heap.size + 1 + 1 + 1, 0, none⟩) 2 [(k0, n0), (k1, n1)] ((((w.alloc (cellsV k0 n0)).alloc (cellsV k1 n1)).alloc (cellsV 0 0)).alloc (cellsV2 k0 n0 k1 n1)) ((row_two _ k0 n0 k1 n1).of (by simp)).vals
  rw [h1] at hlook
  dsimp only [M.vk, M.vn, Option.isSome, List.length] at hlook
  clear h1
  go_enter Tryd.func45, Tryd.ntmps45
  go_wp2_with (go_at_call 64; refine hlook.mono ?_; clear hlook; rintro e w1 ⟨rfl, hb1⟩; obtain ⟨-, -, hR1, hB1⟩ := start2 w k0 n0 k1 n1 (over_alloc _ hb1); obtain ⟨r0, r1, q0, q1⟩ := hR1.alloc (cellsV x y); clear hb1)
  exact bodyPost_ret (v := .agg #[.int .i64 x, .int .i64 y]) (by simp [results, Tryd.results45, go_sem, r0, r1]) rfl ⟨rfl, ((hB1.alloc hB1.size _).setCell (by simp; omega) _).setCell (by simp; omega) _⟩

set_option maxHeartbeats 1000000 in
theorem rsplit_k0 (k0 n0 k1 n1 mode : Int) (w : World) (h1 : M.mish [(k0, n0), (k1, n1)] = none) (c1 : (k0 != 1) = true) :
    Calls Tryd.prog 45 #[.agg #[.int .i64 k0, .int .i64 n0], .agg #[.int .i64 k1, .int .i64 n1], .int .i64 mode] w fun e w' => e = .returned (.agg #[.int .i64 6, .int .i64 5]) ∧ Below w.heap.size w w' := by
  have hlook := looked_any (some ⟨w.heap.size + 1 + 1 + 1, 0, none⟩) 2 [(k0, n0), (k1, n1)] ((((w.alloc (cellsV k0 n0)).alloc (cellsV k1 n1)).alloc (cellsV 0 0)).alloc (cellsV2 k0 n0 k1 n1)) ((row_two _ k0 n0 k1 n1).of (by simp)).vals
  rw [h1] at hlook
  dsimp only [M.vk, M.vn, Option.isSome, List.length] at hlook
  clear h1
  go_enter Tryd.func45, Tryd.ntmps45
  go_wp2_with (first | (go_at_call 64; refine hlook.mono ?_; clear hlook; rintro e w1 ⟨rfl, hb1⟩; obtain ⟨hX, hY, hR1, hB1⟩ := start2 w k0 n0 k1 n1 (over_alloc _ hb1); obtain ⟨x0, x1, -, -⟩ := hX.alloc (cellsV 0 0); obtain ⟨y0, y1, -, -⟩ := hY.alloc (cellsV 0 0); clear hb1) | (go_at_call 14; refine (bad_any _ _).mono ?_; rintro e w3 ⟨rfl, hb3⟩; have hb3' := over_alloc _ hb3; obtain ⟨s0, s1, t0, t1⟩ := hR1.later hb3'; have hB3 := below_step hB1 hb3'; clear hb3 hb3'))
  exact bodyPost_ret (v := .agg #[.int .i64 6, .int .i64 5]) (by simp [results, Tryd.results45, go_sem, s0, s1]) rfl ⟨rfl, (hB3.setCell (by simp; omega) _).setCell (by simp; omega) _⟩

set_option maxHeartbeats 1000000 in
theorem rsplit_k1 (n0 k1 n1 mode : Int) (w : World) (h1 : M.mish [(1, n0), (k1, n1)] = none) (c1 : (k1 != 2) = true) :
    Calls Tryd.prog 45 #[.agg #[.int .i64 1, .int .i64 n0], .agg #[.int .i64 k1, .int .i64 n1], .int .i64 mode] w fun e w' => e = .returned (.agg #[.int .i64 6, .int .i64 5]) ∧ Below w.heap.size w w' := by
  have hlook := looked_any (some ⟨w.heap.size + 1 + 1 + 1, 0, none⟩) 2 [(1, n0), (k1, n1)] ((((w.alloc (cellsV 1 n0)).alloc (cellsV k1 n1)).alloc (cellsV 0 0)).alloc (cellsV2 1 n0 k1 n1)) ((row_two _ 1 n0 k1 n1).of (by simp)).vals
  rw [h1] at hlook
  dsimp only [M.vk, M.vn, Option.isSome, List.length] at hlook
  clear h1
  go_enter Tryd.func45, Tryd.ntmps45
  go_wp2_with (first | (go_at_call 64; refine hlook.mono ?_; clear hlook; rintro e w1 ⟨rfl, hb1⟩; obtain ⟨hX, hY, hR1, hB1⟩ := start2 w 1 n0 k1 n1 (over_alloc _ hb1); obtain ⟨x0, x1, -, -⟩ := hX.alloc (cellsV 0 0); obtain ⟨y0, y1, -, -⟩ := hY.alloc (cellsV 0 0); clear hb1) | (go_at_call 14; refine (bad_any _ _).mono ?_; rintro e w3 ⟨rfl, hb3⟩; have hb3' := over_alloc _ hb3; obtain ⟨s0, s1, t0, t1⟩ := hR1.later hb3'; have hB3 := below_step hB1 hb3'; clear hb3 hb3'))
  exact bodyPost_ret (v := .agg #[.int .i64 6, .int .i64 5]) (by simp [results, Tryd.results45, go_sem, s0, s1]) rfl ⟨rfl, (hB3.setCell (by simp; omega) _).setCell (by simp; omega) _⟩

set_option maxHeartbeats 1000000 in
theorem rsplit_mode (n0 n1 mode : Int) (w : World) (h1 : M.mish [(1, n0), (2, n1)] = none) (hmd : ¬ (1 ≤ mode ∧ mode ≤ 5)) :
    Calls Tryd.prog 45 #[.agg #[.int .i64 1, .int .i64 n0], .agg #[.int .i64 2, .int .i64 n1], .int .i64 mode] w fun e w' => e = .returned (.agg #[.int .i64 6, .int .i64 5]) ∧ Below w.heap.size w w' := by
  have hlook := looked_any (some ⟨w.heap.size + 1 + 1 + 1, 0, none⟩) 2 [(1, n0), (2, n1)] ((((w.alloc (cellsV 1 n0)).alloc (cellsV 2 n1)).alloc (cellsV 0 0)).alloc (cellsV2 1 n0 2 n1)) ((row_two _ 1 n0 2 n1).of (by simp)).vals
  rw [h1] at hlook
  dsimp only [M.vk, M.vn, Option.isSome, List.length] at hlook
  clear h1
  go_enter Tryd.func45, Tryd.ntmps45
  go_wp2_with (first | (go_at_call 64; refine hlook.mono ?_; clear hlook; rintro e w1 ⟨rfl, hb1⟩; obtain ⟨hX, hY, hR1, hB1⟩ := start2 w 1 n0 2 n1 (over_alloc _ hb1); obtain ⟨x0, x1, -, -⟩ := hX.alloc (cellsV 0 0); obtain ⟨y0, y1, -, -⟩ := hY.alloc (cellsV 0 0); clear hb1) | (go_at_call 65; refine (risMode_no _ _ hmd).mono ?_; rintro e w' ⟨rfl, rfl⟩) | (go_at_call 14; refine (bad_any _ _).mono ?_; rintro e w3 ⟨rfl, hb3⟩; have hb3' := over_alloc _ hb3; obtain ⟨s0, s1, t0, t1⟩ := hR1.later hb3'; have hB3 := below_step hB1 hb3'; clear hb3 hb3'))
  exact bodyPost_ret (v := .agg #[.int .i64 6, .int .i64 5]) (by simp [results, Tryd.results45, go_sem, s0, s1]) rfl ⟨rfl, (hB3.setCell (by simp; omega) _).setCell (by simp; omega) _⟩

set_option maxHeartbeats 1000000 in
theorem rsplit_zero (n0 mode : Int) (w : World) (h1 : M.mish [(1, n0), (2, 0)] = none) (hmd : 1 ≤ mode ∧ mode ≤ 5) :
    Calls Tryd.prog 45 #[.agg #[.int .i64 1, .int .i64 n0], .agg #[.int .i64 2, .int .i64 0], .int .i64 mode] w fun e w' => e = .returned (.agg #[.int .i64 6, .int .i64 2]) ∧ Below w.heap.size w w' := by
  have hlook := looked_any (some ⟨w.heap.size + 1 + 1 + 1, 0, none⟩) 2 [(1, n0), (2, 0)] ((((w.alloc (cellsV 1 n0)).alloc (cellsV 2 0)).alloc (cellsV 0 0)).alloc (cellsV2 1 n0 2 0)) ((row_two _ 1 n0 2 0).of (by simp)).vals
  rw [h1] at hlook
  dsimp only [M.vk, M.vn, Option.isSome, List.length] at hlook
  clear h1
  go_enter Tryd.func45, Tryd.ntmps45
  go_wp2_with (first | (go_at_call 64; refine hlook.mono ?_; clear hlook; rintro e w1 ⟨rfl, hb1⟩; obtain ⟨hX, hY, hR1, hB1⟩ := start2 w 1 n0 2 0 (over_alloc _ hb1); obtain ⟨x0, x1, -, -⟩ := hX.alloc (cellsV 0 0); obtain ⟨y0, y1, -, -⟩ := hY.alloc (cellsV 0 0); clear hb1) | (go_at_call 65; refine (risMode_yes _ _ hmd).mono ?_; rintro e w' ⟨rfl, rfl⟩) | (go_at_call 14; refine (bad_any _ _).mono ?_; rintro e w3 ⟨rfl, hb3⟩; have hb3' := over_alloc _ hb3; obtain ⟨s0, s1, t0, t1⟩ := hR1.later hb3'; have hB3 := below_step hB1 hb3'; clear hb3 hb3'))
  exact bodyPost_ret (v := .agg #[.int .i64 6, .int .i64 2]) (by simp [results, Tryd.results45, go_sem, s0, s1]) rfl ⟨rfl, (hB3.setCell (by simp; omega) _).setCell (by simp; omega) _⟩

end Go.Proofs.YtnmcniibcjjflaaDoor
