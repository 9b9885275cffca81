import Derived.Test.YtnmcniibcjjflaaDoorTurnPlus
import Derived.Test.YtnmcniibcjjflaaDoorJoin16
import Derived.Test.YtnmcniibcjjflaaDoorJoin10
namespace Go.Proofs.YtnmcniibcjjflaaDoor
open Go.RowKit

set_option maxHeartbeats 1000000 in
theorem rbr_some (a : Option Addr) (cap : Nat) (bs : List (Int × Int)) (k0 n0 : Int) (w : World) (x y : Int) (h1 : M.mish [(k0, n0)] = some (x, y)) :
    Calls Tryd.prog 48 #[.slice a bs.length cap, .agg #[.int .i64 k0, .int .i64 n0]] w fun e w' => e = .returned (.agg #[.int .i64 x, .int .i64 y]) ∧ Below w.heap.size w w' := by
  have hlook := looked_any (some ⟨w.heap.size + 1 + 1, 0, none⟩) 1 [(k0, n0)] (((w.alloc (cellsV k0 n0)).alloc (cellsV 0 0)).alloc (cellsV k0 n0)) ((row_one _ k0 n0).of (by simp)).vals
  rw [h1] at hlook
  dsimp only [M.vk, M.vn, Option.isSome, List.length] at hlook
  clear h1
  go_enter Tryd.func48, Tryd.ntmps48
  go_wp2_with (go_at_call 64; refine hlook.mono ?_; clear hlook; rintro e w1 ⟨rfl, hb1⟩; obtain ⟨-, hR1, hB1⟩ := start1 w k0 n0 (over_alloc _ hb1); obtain ⟨r0, r1, q0, q1⟩ := hR1.alloc (cellsV x y); clear hb1)
  exact bodyPost_ret (v := .agg #[.int .i64 x, .int .i64 y]) (by simp [results, Tryd.results48, go_sem, r0, r1]) rfl ⟨rfl, ((hB1.alloc hB1.size _).setCell (by simp) _).setCell (by simp) _⟩

set_option maxHeartbeats 1000000 in
theorem rbr_k0 (a : Option Addr) (cap : Nat) (bs : List (Int × Int)) (k0 n0 : Int) (w : World) (h1 : M.mish [(k0, n0)] = none) (c1 : (k0 != 1) = true) :
    Calls Tryd.prog 48 #[.slice a bs.length cap, .agg #[.int .i64 k0, .int .i64 n0]] w fun e w' => e = .returned (.agg #[.int .i64 6, .int .i64 5]) ∧ Below w.heap.size w w' := by
  have hlook := looked_any (some ⟨w.heap.size + 1 + 1, 0, none⟩) 1 [(k0, n0)] (((w.alloc (cellsV k0 n0)).alloc (cellsV 0 0)).alloc (cellsV k0 n0)) ((row_one _ k0 n0).of (by simp)).vals
  rw [h1] at hlook
  dsimp only [M.vk, M.vn, Option.isSome, List.length] at hlook
  clear h1
  go_enter Tryd.func48, Tryd.ntmps48
  go_wp2_with (first | (go_at_call 64; refine hlook.mono ?_; clear hlook; rintro e w1 ⟨rfl, hb1⟩; obtain ⟨hX, hR1, hB1⟩ := start1 w k0 n0 (over_alloc _ hb1); obtain ⟨x0, x1, -, -⟩ := hX.alloc (cellsV 0 0); clear hb1) | (go_at_call 14; refine (bad_any _ _).mono ?_; rintro e w3 ⟨rfl, hb3⟩; have hb3' := over_alloc _ hb3; obtain ⟨s0, s1, t0, t1⟩ := hR1.later hb3'; have hB3 := below_step hB1 hb3'; clear hb3 hb3'))
  exact bodyPost_ret (v := .agg #[.int .i64 6, .int .i64 5]) (by simp [results, Tryd.results48, go_sem, s0, s1]) rfl ⟨rfl, (hB3.setCell (by simp) _).setCell (by simp) _⟩

set_option maxHeartbeats 1000000 in
theorem rbr_len (a : Option Addr) (cap : Nat) (bs : List (Int × Int)) (n0 : Int) (w : World) (h1 : M.mish [(1, n0)] = none) (c1 : ¬ (1 ≤ bs.length ∧ bs.length ≤ 8)) :
    Calls Tryd.prog 48 #[.slice a bs.length cap, .agg #[.int .i64 1, .int .i64 n0]] w fun e w' => e = .returned (.agg #[.int .i64 6, .int .i64 5]) ∧ Below w.heap.size w w' := by
  have hlook := looked_any (some ⟨w.heap.size + 1 + 1, 0, none⟩) 1 [(1, n0)] (((w.alloc (cellsV 1 n0)).alloc (cellsV 0 0)).alloc (cellsV 1 n0)) ((row_one _ 1 n0).of (by simp)).vals
  rw [h1] at hlook
  dsimp only [M.vk, M.vn, Option.isSome, List.length] at hlook
  clear h1
  by_cases c2 : (bs.length : Int) < 1
  · clear c1
    go_enter Tryd.func48, Tryd.ntmps48
    go_wp2_with (first | (go_at_call 64; refine hlook.mono ?_; clear hlook; rintro e w1 ⟨rfl, hb1⟩; obtain ⟨hX, hR1, hB1⟩ := start1 w 1 n0 (over_alloc _ hb1); obtain ⟨x0, x1, -, -⟩ := hX.alloc (cellsV 0 0); clear hb1) | (go_at_call 14; refine (bad_any _ _).mono ?_; rintro e w3 ⟨rfl, hb3⟩; have hb3' := over_alloc _ hb3; obtain ⟨s0, s1, t0, t1⟩ := hR1.later hb3'; have hB3 := below_step hB1 hb3'; clear hb3 hb3'))
    exact bodyPost_ret (v := .agg #[.int .i64 6, .int .i64 5]) (by simp [results, Tryd.results48, go_sem, s0, s1]) rfl ⟨rfl, (hB3.setCell (by simp) _).setCell (by simp) _⟩
  · have c3 : (8 : Int) < bs.length := by omega
    clear c1
    go_enter Tryd.func48, Tryd.ntmps48
    go_wp2_with (first | (go_at_call 64; refine hlook.mono ?_; clear hlook; rintro e w1 ⟨rfl, hb1⟩; obtain ⟨hX, hR1, hB1⟩ := start1 w 1 n0 (over_alloc _ hb1); obtain ⟨x0, x1, -, -⟩ := hX.alloc (cellsV 0 0); clear hb1) | (go_at_call 14; refine (bad_any _ _).mono ?_; rintro e w3 ⟨rfl, hb3⟩; have hb3' := over_alloc _ hb3; obtain ⟨s0, s1, t0, t1⟩ := hR1.later hb3'; have hB3 := below_step hB1 hb3'; clear hb3 hb3'))
    exact bodyPost_ret (v := .agg #[.int .i64 6, .int .i64 5]) (by simp [results, Tryd.results48, go_sem, s0, s1]) rfl ⟨rfl, (hB3.setCell (by simp) _).setCell (by simp) _⟩

theorem Vals.at {w : World} {a : Option Addr} {vs : List (Int × Int)} (h : Vals w a vs) {i : Nat} (hi : i < vs.length) : ∃ b off, a = some ⟨b, off, none⟩ ∧ b < w.heap.size ∧ ∀ i, i < vs.length → w.cell? ⟨b, off + i * 2, none⟩ = some (.int .i64 (vs.getD i (0, 0)).1) ∧ w.cell? ⟨b, off + i * 2 + 1, none⟩ = some (.int .i64 (vs.getD i (0, 0)).2) := by
  obtain ⟨-, h | h⟩ := h
  · subst h; simp at hi
  · exact h

set_option maxHeartbeats 1000000 in
theorem rbr_from (a : Option Addr) (cap : Nat) (bs : List (Int × Int)) (n0 : Int) (w : World) (hV : Vals w a bs) (h1 : M.mish [(1, n0)] = none) (c1 : 1 ≤ bs.length) (c2 : bs.length ≤ 8) (c3 : (bs.getD 0 (0, 0)).1 ≠ 0) :
    Calls Tryd.prog 48 #[.slice a bs.length cap, .agg #[.int .i64 1, .int .i64 n0]] w fun e w' => e = .returned (.agg #[.int .i64 6, .int .i64 5]) ∧ Below w.heap.size w w' := by
  have hlook := looked_any (some ⟨w.heap.size + 1 + 1, 0, none⟩) 1 [(1, n0)] (((w.alloc (cellsV 1 n0)).alloc (cellsV 0 0)).alloc (cellsV 1 n0)) ((row_one _ 1 n0).of (by simp)).vals
  rw [h1] at hlook
  dsimp only [M.vk, M.vn, Option.isSome, List.length] at hlook
  clear h1
  have g1 : decide ((bs.length : Int) < 1) = false := by simp; omega
  have g2 : decide ((8 : Int) < bs.length) = false := by simp; omega
  have g3 : (0 : Int) < bs.length := by omega
  obtain ⟨gb, off, rfl, hbw, hcs⟩ := hV.at (i := 0) (by omega)
  have hc0 := (hcs 0 (by omega)).1
  have g4 : ((bs.getD 0 (0, 0)).1 != 0) = true := by simpa using c3
  generalize (bs.getD 0 (0, 0)).1 = f at *
  have tok : True := trivial
  clear hcs hV c3
  go_enter Tryd.func48, Tryd.ntmps48
  go_wp2_with (first | (go_at_call 64; refine hlook.mono ?_; clear hlook; rintro e w1 ⟨rfl, hb1⟩; obtain ⟨hX, hR1, hB1⟩ := start1 w 1 n0 (over_alloc _ hb1); obtain ⟨x0, x1, -, -⟩ := hX.alloc (cellsV 0 0); have hc1 := ((hB1.alloc hB1.size (cellsV 0 0)).cell (p := ⟨gb, off + 0 * 2, none⟩) hbw).trans hc0; simp only [Nat.zero_mul, Nat.add_zero] at hc1; clear hb1) | (go_at_call 14; refine (bad_any _ _).mono ?_; rintro e w3 ⟨rfl, hb3⟩; have hb3' := over_alloc _ hb3; obtain ⟨s0, s1, t0, t1⟩ := hR1.later hb3'; have hB3 := below_step hB1 hb3'; clear hb3 hb3'))
  exact bodyPost_ret (v := .agg #[.int .i64 6, .int .i64 5]) (by simp [results, Tryd.results48, go_sem, s0, s1]) rfl ⟨rfl, (hB3.setCell (by simp) _).setCell (by simp) _⟩

end Go.Proofs.YtnmcniibcjjflaaDoor
