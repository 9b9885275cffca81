import Derived.Test.YtoeabponjdkpjaaDoorMishap
import Derived.Test.YtoeabponjdkpjaaDoorTakes
import Derived.Test.YtoeabponjdkpjaaDoorRows2
import Derived.Test.YtoeabponjdkpjaaDoorPlain5
namespace Go.Proofs.YtoeabponjdkpjaaDoor
open Go.RowKit

set_option maxHeartbeats 1000000 in
theorem pair_some (k0 n0 k1 n1 : Int) (w : World) (hK : Kinds w) (x y : Int) (h1 : M.mish [(k0, n0), (k1, n1)] = some (x, y)) :
    Calls Tryd.prog 94 #[.agg #[.int .i64 k0, .int .i64 n0], .agg #[.int .i64 k1, .int .i64 n1]] w fun e w' => e = .returned (.tuple #[.agg #[.int .i64 x, .int .i64 y], .bool true]) ∧ Below w.heap.size w w' := by
  have hc := mishap_any (some ⟨w.heap.size + 1 + 1 + 1, 0, none⟩) 2 [(k0, n0), (k1, n1)] ((((w.alloc (cellsV k0 n0)).alloc (cellsV k1 n1)).alloc (cellsV 0 0)).alloc (cellsV2 k0 n0 k1 n1)) ((((hK.alloc _).alloc _).alloc _).alloc _) ((row_two _ k0 n0 k1 n1).of (by simp)).vals
  rw [h1] at hc
  dsimp only [M.vk, M.vn, Option.isSome, List.length] at hc
  clear h1
  go_enter Tryd.func94, Tryd.ntmps94
  go_wp2_with (go_at_call 95; refine hc.mono ?_; clear hc; rintro e w1 ⟨rfl, hb1⟩; obtain ⟨-, -, hR1, hB1⟩ := start2 w k0 n0 k1 n1 (over_alloc _ hb1); obtain ⟨r0, r1, q0, q1⟩ := hR1.alloc (cellsV x y); clear hb1)
  exact bodyPost_ret (v := .tuple #[.agg #[.int .i64 x, .int .i64 y], .bool true]) (by simp [results, Tryd.results94, go_sem, r0, r1]) rfl ⟨rfl, ((hB1.alloc hB1.size _).setCell (by simp; omega) _).setCell (by simp; omega) _⟩

set_option maxHeartbeats 1000000 in
theorem pair_no8 (k0 n0 k1 n1 : Int) (w : World) (hK : Kinds w) (h1 : M.mish [(k0, n0), (k1, n1)] = none) (e8 : takesB k0 8 = false) :
    Calls Tryd.prog 94 #[.agg #[.int .i64 k0, .int .i64 n0], .agg #[.int .i64 k1, .int .i64 n1]] w fun e w' => e = .returned (.tuple #[.agg #[.int .i64 6, .int .i64 5], .bool true]) ∧ Below w.heap.size w w' := by
  have hc := mishap_any (some ⟨w.heap.size + 1 + 1 + 1, 0, none⟩) 2 [(k0, n0), (k1, n1)] ((((w.alloc (cellsV k0 n0)).alloc (cellsV k1 n1)).alloc (cellsV 0 0)).alloc (cellsV2 k0 n0 k1 n1)) ((((hK.alloc _).alloc _).alloc _).alloc _) ((row_two _ k0 n0 k1 n1).of (by simp)).vals
  rw [h1] at hc
  dsimp only [M.vk, M.vn, Option.isSome, List.length] at hc
  clear h1
  have tok1 : True := trivial
  go_enter Tryd.func94, Tryd.ntmps94
  go_wp2_with (first | (go_at_call 95; refine hc.mono ?_; clear hc; rintro e w1 ⟨rfl, hb1⟩; obtain ⟨hX, hY, hR1, hB1⟩ := start2 w k0 n0 k1 n1 (over_alloc _ hb1); obtain ⟨r0, r1, q0, q1⟩ := hR1.alloc (cellsV 0 0); obtain ⟨x0, x1, -, -⟩ := hX.alloc (cellsV 0 0); obtain ⟨y0, y1, -, -⟩ := hY.alloc (cellsV 0 0); have hK1 := (hK.later hB1).alloc (cellsV 0 0); have ht8 := takes_any k0 8 _ hK1; clear hb1) | (go_at_call 27; have _u := tok1; clear tok1; rw [e8] at ht8; refine ht8.mono ?_; clear ht8; rintro e w' ⟨rfl, rfl⟩) | (go_at_call 28; refine (fault_any _ _).mono ?_; rintro e w2 ⟨rfl, hb2⟩; obtain ⟨s0, s1, t0, t1⟩ := (hR1.alloc _).later hb2; have hB2 := below_step (hB1.alloc hB1.size _) hb2; clear hb2))
  exact bodyPost_ret (v := .tuple #[.agg #[.int .i64 6, .int .i64 5], .bool true]) (by simp [results, Tryd.results94, go_sem, s0, s1]) rfl ⟨rfl, (hB2.setCell (by simp; omega) _).setCell (by simp; omega) _⟩

set_option maxHeartbeats 1000000 in
theorem pair_no16 (k0 n0 k1 n1 : Int) (w : World) (hK : Kinds w) (h1 : M.mish [(k0, n0), (k1, n1)] = none) (e8 : takesB k0 8 = true) (e6 : takesB k1 16 = false) :
    Calls Tryd.prog 94 #[.agg #[.int .i64 k0, .int .i64 n0], .agg #[.int .i64 k1, .int .i64 n1]] w fun e w' => e = .returned (.tuple #[.agg #[.int .i64 6, .int .i64 5], .bool true]) ∧ Below w.heap.size w w' := by
  have hc := mishap_any (some ⟨w.heap.size + 1 + 1 + 1, 0, none⟩) 2 [(k0, n0), (k1, n1)] ((((w.alloc (cellsV k0 n0)).alloc (cellsV k1 n1)).alloc (cellsV 0 0)).alloc (cellsV2 k0 n0 k1 n1)) ((((hK.alloc _).alloc _).alloc _).alloc _) ((row_two _ k0 n0 k1 n1).of (by simp)).vals
  rw [h1] at hc
  dsimp only [M.vk, M.vn, Option.isSome, List.length] at hc
  clear h1
  have tok1 : True := trivial
  go_enter Tryd.func94, Tryd.ntmps94
  go_wp2_with (first | (go_at_call 95; refine hc.mono ?_; clear hc; rintro e w1 ⟨rfl, hb1⟩; obtain ⟨hX, hY, hR1, hB1⟩ := start2 w k0 n0 k1 n1 (over_alloc _ hb1); obtain ⟨r0, r1, q0, q1⟩ := hR1.alloc (cellsV 0 0); obtain ⟨x0, x1, -, -⟩ := hX.alloc (cellsV 0 0); obtain ⟨y0, y1, -, -⟩ := hY.alloc (cellsV 0 0); have hK1 := (hK.later hB1).alloc (cellsV 0 0); have ht8 := takes_any k0 8 _ hK1; have ht6 := takes_any k1 16 _ hK1; clear hb1) | (go_at_call 27; have _u := tok1; clear tok1; rw [e8] at ht8; refine ht8.mono ?_; clear ht8; rintro e w' ⟨rfl, rfl⟩) | (go_at_call 27; rw [e6] at ht6; refine ht6.mono ?_; clear ht6; rintro e w' ⟨rfl, rfl⟩) | (go_at_call 28; refine (fault_any _ _).mono ?_; rintro e w2 ⟨rfl, hb2⟩; obtain ⟨s0, s1, t0, t1⟩ := (hR1.alloc _).later hb2; have hB2 := below_step (hB1.alloc hB1.size _) hb2; clear hb2))
  exact bodyPost_ret (v := .tuple #[.agg #[.int .i64 6, .int .i64 5], .bool true]) (by simp [results, Tryd.results94, go_sem, s0, s1]) rfl ⟨rfl, (hB2.setCell (by simp; omega) _).setCell (by simp; omega) _⟩

set_option maxHeartbeats 1000000 in
theorem pair_ok (k0 n0 k1 n1 : Int) (w : World) (hK : Kinds w) (h1 : M.mish [(k0, n0), (k1, n1)] = none) (e8 : takesB k0 8 = true) (e6 : takesB k1 16 = true) :
    Calls Tryd.prog 94 #[.agg #[.int .i64 k0, .int .i64 n0], .agg #[.int .i64 k1, .int .i64 n1]] w fun e w' => e = .returned (.tuple #[.agg #[.int .i64 0, .int .i64 0], .bool false]) ∧ Below w.heap.size w w' := by
  have hc := mishap_any (some ⟨w.heap.size + 1 + 1 + 1, 0, none⟩) 2 [(k0, n0), (k1, n1)] ((((w.alloc (cellsV k0 n0)).alloc (cellsV k1 n1)).alloc (cellsV 0 0)).alloc (cellsV2 k0 n0 k1 n1)) ((((hK.alloc _).alloc _).alloc _).alloc _) ((row_two _ k0 n0 k1 n1).of (by simp)).vals
  rw [h1] at hc
  dsimp only [M.vk, M.vn, Option.isSome, List.length] at hc
  clear h1
  have tok1 : True := trivial
  go_enter Tryd.func94, Tryd.ntmps94
  go_wp2_with (first | (go_at_call 95; refine hc.mono ?_; clear hc; rintro e w1 ⟨rfl, hb1⟩; obtain ⟨hX, hY, hR1, hB1⟩ := start2 w k0 n0 k1 n1 (over_alloc _ hb1); obtain ⟨r0, r1, q0, q1⟩ := hR1.alloc (cellsV 0 0); obtain ⟨x0, x1, -, -⟩ := hX.alloc (cellsV 0 0); obtain ⟨y0, y1, -, -⟩ := hY.alloc (cellsV 0 0); have hK1 := (hK.later hB1).alloc (cellsV 0 0); have ht8 := takes_any k0 8 _ hK1; have ht6 := takes_any k1 16 _ hK1; clear hb1) | (go_at_call 27; have _u := tok1; clear tok1; rw [e8] at ht8; refine ht8.mono ?_; clear ht8; rintro e w' ⟨rfl, rfl⟩) | (go_at_call 27; rw [e6] at ht6; refine ht6.mono ?_; clear ht6; rintro e w' ⟨rfl, rfl⟩))
  exact bodyPost_ret (v := .tuple #[.agg #[.int .i64 0, .int .i64 0], .bool false]) (by simp [results, Tryd.results94, go_sem, r0, r1]) rfl ⟨rfl, ((hB1.alloc hB1.size _).setCell (by simp; omega) _).setCell (by simp; omega) _⟩

theorem pair_any (k0 n0 k1 n1 : Int) (w : World) (hK : Kinds w) (r : Option (Int × Int)) (hr : r = M.pair (takesB k0 8) (takesB k1 16) k0 n0 k1 n1) :
    Calls Tryd.prog 94 #[.agg #[.int .i64 k0, .int .i64 n0], .agg #[.int .i64 k1, .int .i64 n1]] w fun e w' => e = .returned (.tuple #[.agg #[.int .i64 (M.vk r), .int .i64 (M.vn r)], .bool r.isSome]) ∧ Below w.heap.size w w' := by
  cases h1 : M.mish [(k0, n0), (k1, n1)] with
  | some v =>
    have e : r = some (v.1, v.2) := by rw [hr]; simp [M.pair, h1]
    rw [e]
    exact pair_some k0 n0 k1 n1 w hK v.1 v.2 h1
  | none =>
    cases e8 : takesB k0 8 with
    | false =>
      have e : r = some (6, 5) := by rw [hr]; simp [M.pair, h1, e8]
      rw [e]
      exact pair_no8 k0 n0 k1 n1 w hK h1 e8
    | true =>
      cases e6 : takesB k1 16 with
      | false =>
        have e : r = some (6, 5) := by rw [hr]; simp [M.pair, h1, e6]
        rw [e]
        exact pair_no16 k0 n0 k1 n1 w hK h1 e8 e6
      | true =>
        have e : r = none := by rw [hr]; simp [M.pair, h1, e8, e6]
        rw [e]
        exact pair_ok k0 n0 k1 n1 w hK h1 e8 e6

end Go.Proofs.YtoeabponjdkpjaaDoor
