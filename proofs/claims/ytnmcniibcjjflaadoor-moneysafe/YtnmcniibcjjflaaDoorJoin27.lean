import Derived.Test.YtnmcniibcjjflaaDoorTurnRefusal
import Derived.Test.YtnmcniibcjjflaaDoorJoin6
import Derived.Test.YtnmcniibcjjflaaDoorJoin5
namespace Go.Proofs.YtnmcniibcjjflaaDoor
open Go.RowKit

theorem order_any (x y : Int) (w : World) : Calls Tryd.prog 61 #[.int .i64 x, .int .i64 y] w fun e w' => e = .returned (.int .i64 (M.ord x y)) ∧ w' = w := by
  by_cases h : x < y
  · rw [M.ord_lt h]
    go_enter Tryd.func61, Tryd.ntmps61
    go_wp2
    go_ret
    exact ⟨rfl, rfl⟩
  · by_cases h' : y < x
    · rw [M.ord_gt h']
      go_enter Tryd.func61, Tryd.ntmps61
      go_wp2
      go_ret
      exact ⟨rfl, rfl⟩
    · obtain rfl : x = y := by omega
      rw [M.ord_eq]
      go_enter Tryd.func61, Tryd.ntmps61
      go_wp2
      go_ret
      exact ⟨rfl, rfl⟩

theorem flag_any (b : Bool) (w : World) : Calls Tryd.prog 62 #[.bool b] w fun e w' => e = .returned (.agg #[.int .i64 3, .int .i64 (M.bit b)]) ∧ Below w.heap.size w w' := by
  cases b
  · go_enter Tryd.func62, Tryd.ntmps62
    go_wp2
    exact bodyPost_ret (v := .agg #[.int .i64 3, .int .i64 0]) (by simp [results, Tryd.results62, go_sem]) rfl ⟨rfl, by simpa using (Below.refl w.heap.size w).alloc (Nat.le_refl _) _⟩
  · go_enter Tryd.func62, Tryd.ntmps62
    go_wp2
    exact bodyPost_ret (v := .agg #[.int .i64 3, .int .i64 1]) (by simp [results, Tryd.results62, go_sem]) rfl ⟨rfl, by simpa using (Below.refl w.heap.size w).alloc (Nat.le_refl _) _⟩

/-- Compare, where it takes its operands by a use (4 for OpEq and OpNe, 2 else). -/
def useOf (op : Int) : Int := if op = 25 ∨ op = 26 then 4 else 2

set_option maxHeartbeats 2000000 in
theorem compare_some (op k0 n0 k1 n1 : Int) (w : World) (hK : Kinds w) (x y : Int) (h1 : M.refuse (takesB k0 (useOf op)) k0 n0 [(k1, n1)] = some (x, y)) :
    Calls Tryd.prog 33 #[.int .i64 op, .agg #[.int .i64 k0, .int .i64 n0], .agg #[.int .i64 k1, .int .i64 n1]] w fun e w' => e = .returned (.agg #[.int .i64 x, .int .i64 y]) ∧ Below w.heap.size w w' := by
  have hc := refusal_any (useOf op) k0 n0 (some ⟨w.heap.size + 1 + 1 + 1, 0, none⟩) 1 [(k1, n1)] ((((w.alloc (cellsV k0 n0)).alloc (cellsV k1 n1)).alloc (cellsV 0 0)).alloc (cellsV k1 n1)) ((((hK.alloc _).alloc _).alloc _).alloc _) (vals_one ((Box.new _ _ _ _).of (by simp)))
  rw [h1] at hc
  dsimp only [M.vk, M.vn, Option.isSome, List.length] at hc
  clear h1
  by_cases c5 : op = 25
  · subst c5
    have e : useOf 25 = 4 := rfl
    rw [e] at hc
    clear e
    go_enter Tryd.func33, Tryd.ntmps33
    go_wp2_with (go_at_call 54; refine hc.mono ?_; clear hc; rintro e w1 ⟨rfl, hb1⟩; obtain ⟨-, -, hR1, hB1⟩ := start2 w k0 n0 k1 n1 (over_alloc _ hb1); obtain ⟨r0, r1, q0, q1⟩ := hR1.alloc (cellsV x y); clear hb1)
    exact bodyPost_ret (v := .agg #[.int .i64 x, .int .i64 y]) (by simp [results, Tryd.results33, go_sem, r0, r1]) rfl ⟨rfl, ((hB1.alloc hB1.size _).setCell (by simp; omega) _).setCell (by simp; omega) _⟩
  · by_cases c6 : op = 26
    · subst c6
      have e : useOf 26 = 4 := rfl
      rw [e] at hc
      clear e
      go_enter Tryd.func33, Tryd.ntmps33
      go_wp2_with (go_at_call 54; refine hc.mono ?_; clear hc; rintro e w1 ⟨rfl, hb1⟩; obtain ⟨-, -, hR1, hB1⟩ := start2 w k0 n0 k1 n1 (over_alloc _ hb1); obtain ⟨r0, r1, q0, q1⟩ := hR1.alloc (cellsV x y); clear hb1)
      exact bodyPost_ret (v := .agg #[.int .i64 x, .int .i64 y]) (by simp [results, Tryd.results33, go_sem, r0, r1]) rfl ⟨rfl, ((hB1.alloc hB1.size _).setCell (by simp; omega) _).setCell (by simp; omega) _⟩
    · have e : useOf op = 2 := by simp [useOf, c5, c6]
      rw [e] at hc
      have e5 : (op == 25) = false := by simpa using c5
      have e6 : (op == 26) = false := by simpa using c6
      clear e c5 c6
      go_enter Tryd.func33, Tryd.ntmps33
      go_wp2_with (go_at_call 54; refine hc.mono ?_; clear hc; rintro e w1 ⟨rfl, hb1⟩; obtain ⟨-, -, hR1, hB1⟩ := start2 w k0 n0 k1 n1 (over_alloc _ hb1); obtain ⟨r0, r1, q0, q1⟩ := hR1.alloc (cellsV x y); clear hb1)
      exact bodyPost_ret (v := .agg #[.int .i64 x, .int .i64 y]) (by simp [results, Tryd.results33, go_sem, r0, r1]) rfl ⟨rfl, ((hB1.alloc hB1.size _).setCell (by simp; omega) _).setCell (by simp; omega) _⟩

end Go.Proofs.YtnmcniibcjjflaaDoor


namespace Go.Proofs.YtnmcniibcjjflaaDoor
open Go.RowKit

set_option maxHeartbeats 1000000 in
theorem compare_25 (k0 n0 k1 n1 : Int) (w : World) (hK : Kinds w) (h1 : M.refuse (takesB k0 4) k0 n0 [(k1, n1)] = none) :
    Calls Tryd.prog 33 #[.int .i64 25, .agg #[.int .i64 k0, .int .i64 n0], .agg #[.int .i64 k1, .int .i64 n1]] w fun e w' => e = .returned (.agg #[.int .i64 3, .int .i64 (M.bit (M.ord n0 n1 == 0))]) ∧ Below w.heap.size w w' := by
  have hc := refusal_any 4 k0 n0 (some ⟨w.heap.size + 1 + 1 + 1, 0, none⟩) 1 [(k1, n1)] ((((w.alloc (cellsV k0 n0)).alloc (cellsV k1 n1)).alloc (cellsV 0 0)).alloc (cellsV k1 n1)) ((((hK.alloc _).alloc _).alloc _).alloc _) (vals_one ((Box.new _ _ _ _).of (by simp)))
  rw [h1] at hc
  dsimp only [M.vk, M.vn, Option.isSome, List.length] at hc
  clear h1
  go_enter Tryd.func33, Tryd.ntmps33
  go_wp2_with (first | (go_at_call 54; refine hc.mono ?_; clear hc; rintro e w1 ⟨rfl, hb1⟩; obtain ⟨hX, hY, hR1, hB1⟩ := start2 w k0 n0 k1 n1 (over_alloc _ hb1); obtain ⟨x0, x1, -, -⟩ := hX.alloc (cellsV 0 0); obtain ⟨y0, y1, -, -⟩ := hY.alloc (cellsV 0 0); clear hb1 hX hY) | (go_at_call 61; refine (order_any _ _ _).mono ?_; rintro e w' ⟨rfl, rfl⟩) | (go_at_call 62; refine (flag_any _ _).mono ?_; rintro e w2 ⟨rfl, hb2⟩; obtain ⟨r0, r1, q0, q1⟩ := (hR1.alloc _).later hb2; have hB2 := below_step (hB1.alloc hB1.size _) hb2; clear hb2))
  exact bodyPost_ret (v := .agg #[.int .i64 3, .int .i64 (M.bit (M.ord n0 n1 == 0))]) (by simp [results, Tryd.results33, go_sem, r0, r1]) rfl ⟨rfl, (hB2.setCell (by simp; omega) _).setCell (by simp; omega) _⟩

set_option maxHeartbeats 1000000 in
theorem compare_26 (k0 n0 k1 n1 : Int) (w : World) (hK : Kinds w) (h1 : M.refuse (takesB k0 4) k0 n0 [(k1, n1)] = none) :
    Calls Tryd.prog 33 #[.int .i64 26, .agg #[.int .i64 k0, .int .i64 n0], .agg #[.int .i64 k1, .int .i64 n1]] w fun e w' => e = .returned (.agg #[.int .i64 3, .int .i64 (M.bit (M.ord n0 n1 != 0))]) ∧ Below w.heap.size w w' := by
  have hc := refusal_any 4 k0 n0 (some ⟨w.heap.size + 1 + 1 + 1, 0, none⟩) 1 [(k1, n1)] ((((w.alloc (cellsV k0 n0)).alloc (cellsV k1 n1)).alloc (cellsV 0 0)).alloc (cellsV k1 n1)) ((((hK.alloc _).alloc _).alloc _).alloc _) (vals_one ((Box.new _ _ _ _).of (by simp)))
  rw [h1] at hc
  dsimp only [M.vk, M.vn, Option.isSome, List.length] at hc
  clear h1
  go_enter Tryd.func33, Tryd.ntmps33
  go_wp2_with (first | (go_at_call 54; refine hc.mono ?_; clear hc; rintro e w1 ⟨rfl, hb1⟩; obtain ⟨hX, hY, hR1, hB1⟩ := start2 w k0 n0 k1 n1 (over_alloc _ hb1); obtain ⟨x0, x1, -, -⟩ := hX.alloc (cellsV 0 0); obtain ⟨y0, y1, -, -⟩ := hY.alloc (cellsV 0 0); clear hb1 hX hY) | (go_at_call 61; refine (order_any _ _ _).mono ?_; rintro e w' ⟨rfl, rfl⟩) | (go_at_call 62; refine (flag_any _ _).mono ?_; rintro e w2 ⟨rfl, hb2⟩; obtain ⟨r0, r1, q0, q1⟩ := (hR1.alloc _).later hb2; have hB2 := below_step (hB1.alloc hB1.size _) hb2; clear hb2))
  exact bodyPost_ret (v := .agg #[.int .i64 3, .int .i64 (M.bit (M.ord n0 n1 != 0))]) (by simp [results, Tryd.results33, go_sem, r0, r1]) rfl ⟨rfl, (hB2.setCell (by simp; omega) _).setCell (by simp; omega) _⟩

set_option maxHeartbeats 1000000 in
theorem compare_27 (k0 n0 k1 n1 : Int) (w : World) (hK : Kinds w) (h1 : M.refuse (takesB k0 2) k0 n0 [(k1, n1)] = none) :
    Calls Tryd.prog 33 #[.int .i64 27, .agg #[.int .i64 k0, .int .i64 n0], .agg #[.int .i64 k1, .int .i64 n1]] w fun e w' => e = .returned (.agg #[.int .i64 3, .int .i64 (M.bit (decide (M.ord n0 n1 < 0)))]) ∧ Below w.heap.size w w' := by
  have hc := refusal_any 2 k0 n0 (some ⟨w.heap.size + 1 + 1 + 1, 0, none⟩) 1 [(k1, n1)] ((((w.alloc (cellsV k0 n0)).alloc (cellsV k1 n1)).alloc (cellsV 0 0)).alloc (cellsV k1 n1)) ((((hK.alloc _).alloc _).alloc _).alloc _) (vals_one ((Box.new _ _ _ _).of (by simp)))
  rw [h1] at hc
  dsimp only [M.vk, M.vn, Option.isSome, List.length] at hc
  clear h1
  go_enter Tryd.func33, Tryd.ntmps33
  go_wp2_with (first | (go_at_call 54; refine hc.mono ?_; clear hc; rintro e w1 ⟨rfl, hb1⟩; obtain ⟨hX, hY, hR1, hB1⟩ := start2 w k0 n0 k1 n1 (over_alloc _ hb1); obtain ⟨x0, x1, -, -⟩ := hX.alloc (cellsV 0 0); obtain ⟨y0, y1, -, -⟩ := hY.alloc (cellsV 0 0); clear hb1 hX hY) | (go_at_call 61; refine (order_any _ _ _).mono ?_; rintro e w' ⟨rfl, rfl⟩) | (go_at_call 62; refine (flag_any _ _).mono ?_; rintro e w2 ⟨rfl, hb2⟩; obtain ⟨r0, r1, q0, q1⟩ := (hR1.alloc _).later hb2; have hB2 := below_step (hB1.alloc hB1.size _) hb2; clear hb2))
  exact bodyPost_ret (v := .agg #[.int .i64 3, .int .i64 (M.bit (decide (M.ord n0 n1 < 0)))]) (by simp [results, Tryd.results33, go_sem, r0, r1]) rfl ⟨rfl, (hB2.setCell (by simp; omega) _).setCell (by simp; omega) _⟩

set_option maxHeartbeats 1000000 in
theorem compare_28 (k0 n0 k1 n1 : Int) (w : World) (hK : Kinds w) (h1 : M.refuse (takesB k0 2) k0 n0 [(k1, n1)] = none) :
    Calls Tryd.prog 33 #[.int .i64 28, .agg #[.int .i64 k0, .int .i64 n0], .agg #[.int .i64 k1, .int .i64 n1]] w fun e w' => e = .returned (.agg #[.int .i64 3, .int .i64 (M.bit (decide (M.ord n0 n1 ≤ 0)))]) ∧ Below w.heap.size w w' := by
  have hc := refusal_any 2 k0 n0 (some ⟨w.heap.size + 1 + 1 + 1, 0, none⟩) 1 [(k1, n1)] ((((w.alloc (cellsV k0 n0)).alloc (cellsV k1 n1)).alloc (cellsV 0 0)).alloc (cellsV k1 n1)) ((((hK.alloc _).alloc _).alloc _).alloc _) (vals_one ((Box.new _ _ _ _).of (by simp)))
  rw [h1] at hc
  dsimp only [M.vk, M.vn, Option.isSome, List.length] at hc
  clear h1
  go_enter Tryd.func33, Tryd.ntmps33
  go_wp2_with (first | (go_at_call 54; refine hc.mono ?_; clear hc; rintro e w1 ⟨rfl, hb1⟩; obtain ⟨hX, hY, hR1, hB1⟩ := start2 w k0 n0 k1 n1 (over_alloc _ hb1); obtain ⟨x0, x1, -, -⟩ := hX.alloc (cellsV 0 0); obtain ⟨y0, y1, -, -⟩ := hY.alloc (cellsV 0 0); clear hb1 hX hY) | (go_at_call 61; refine (order_any _ _ _).mono ?_; rintro e w' ⟨rfl, rfl⟩) | (go_at_call 62; refine (flag_any _ _).mono ?_; rintro e w2 ⟨rfl, hb2⟩; obtain ⟨r0, r1, q0, q1⟩ := (hR1.alloc _).later hb2; have hB2 := below_step (hB1.alloc hB1.size _) hb2; clear hb2))
  exact bodyPost_ret (v := .agg #[.int .i64 3, .int .i64 (M.bit (decide (M.ord n0 n1 ≤ 0)))]) (by simp [results, Tryd.results33, go_sem, r0, r1]) rfl ⟨rfl, (hB2.setCell (by simp; omega) _).setCell (by simp; omega) _⟩

set_option maxHeartbeats 1000000 in
theorem compare_29 (k0 n0 k1 n1 : Int) (w : World) (hK : Kinds w) (h1 : M.refuse (takesB k0 2) k0 n0 [(k1, n1)] = none) :
    Calls Tryd.prog 33 #[.int .i64 29, .agg #[.int .i64 k0, .int .i64 n0], .agg #[.int .i64 k1, .int .i64 n1]] w fun e w' => e = .returned (.agg #[.int .i64 3, .int .i64 (M.bit (decide (0 < M.ord n0 n1)))]) ∧ Below w.heap.size w w' := by
  have hc := refusal_any 2 k0 n0 (some ⟨w.heap.size + 1 + 1 + 1, 0, none⟩) 1 [(k1, n1)] ((((w.alloc (cellsV k0 n0)).alloc (cellsV k1 n1)).alloc (cellsV 0 0)).alloc (cellsV k1 n1)) ((((hK.alloc _).alloc _).alloc _).alloc _) (vals_one ((Box.new _ _ _ _).of (by simp)))
  rw [h1] at hc
  dsimp only [M.vk, M.vn, Option.isSome, List.length] at hc
  clear h1
  go_enter Tryd.func33, Tryd.ntmps33
  go_wp2_with (first | (go_at_call 54; refine hc.mono ?_; clear hc; rintro e w1 ⟨rfl, hb1⟩; obtain ⟨hX, hY, hR1, hB1⟩ := start2 w k0 n0 k1 n1 (over_alloc _ hb1); obtain ⟨x0, x1, -, -⟩ := hX.alloc (cellsV 0 0); obtain ⟨y0, y1, -, -⟩ := hY.alloc (cellsV 0 0); clear hb1 hX hY) | (go_at_call 61; refine (order_any _ _ _).mono ?_; rintro e w' ⟨rfl, rfl⟩) | (go_at_call 62; refine (flag_any _ _).mono ?_; rintro e w2 ⟨rfl, hb2⟩; obtain ⟨r0, r1, q0, q1⟩ := (hR1.alloc _).later hb2; have hB2 := below_step (hB1.alloc hB1.size _) hb2; clear hb2))
  exact bodyPost_ret (v := .agg #[.int .i64 3, .int .i64 (M.bit (decide (0 < M.ord n0 n1)))]) (by simp [results, Tryd.results33, go_sem, r0, r1]) rfl ⟨rfl, (hB2.setCell (by simp; omega) _).setCell (by simp; omega) _⟩

set_option maxHeartbeats 1000000 in
theorem compare_30 (k0 n0 k1 n1 : Int) (w : World) (hK : Kinds w) (h1 : M.refuse (takesB k0 2) k0 n0 [(k1, n1)] = none) :
    Calls Tryd.prog 33 #[.int .i64 30, .agg #[.int .i64 k0, .int .i64 n0], .agg #[.int .i64 k1, .int .i64 n1]] w fun e w' => e = .returned (.agg #[.int .i64 3, .int .i64 (M.bit (decide (0 ≤ M.ord n0 n1)))]) ∧ Below w.heap.size w w' := by
  have hc := refusal_any 2 k0 n0 (some ⟨w.heap.size + 1 + 1 + 1, 0, none⟩) 1 [(k1, n1)] ((((w.alloc (cellsV k0 n0)).alloc (cellsV k1 n1)).alloc (cellsV 0 0)).alloc (cellsV k1 n1)) ((((hK.alloc _).alloc _).alloc _).alloc _) (vals_one ((Box.new _ _ _ _).of (by simp)))
  rw [h1] at hc
  dsimp only [M.vk, M.vn, Option.isSome, List.length] at hc
  clear h1
  go_enter Tryd.func33, Tryd.ntmps33
  go_wp2_with (first | (go_at_call 54; refine hc.mono ?_; clear hc; rintro e w1 ⟨rfl, hb1⟩; obtain ⟨hX, hY, hR1, hB1⟩ := start2 w k0 n0 k1 n1 (over_alloc _ hb1); obtain ⟨x0, x1, -, -⟩ := hX.alloc (cellsV 0 0); obtain ⟨y0, y1, -, -⟩ := hY.alloc (cellsV 0 0); clear hb1 hX hY) | (go_at_call 61; refine (order_any _ _ _).mono ?_; rintro e w' ⟨rfl, rfl⟩) | (go_at_call 62; refine (flag_any _ _).mono ?_; rintro e w2 ⟨rfl, hb2⟩; obtain ⟨r0, r1, q0, q1⟩ := (hR1.alloc _).later hb2; have hB2 := below_step (hB1.alloc hB1.size _) hb2; clear hb2))
  exact bodyPost_ret (v := .agg #[.int .i64 3, .int .i64 (M.bit (decide (0 ≤ M.ord n0 n1)))]) (by simp [results, Tryd.results33, go_sem, r0, r1]) rfl ⟨rfl, (hB2.setCell (by simp; omega) _).setCell (by simp; omega) _⟩

set_option maxHeartbeats 1000000 in
theorem compare_no (op k0 n0 k1 n1 : Int) (w : World) (hK : Kinds w) (ho : op < 25 ∨ 30 < op) (h1 : M.refuse (takesB k0 2) k0 n0 [(k1, n1)] = none) :
    Calls Tryd.prog 33 #[.int .i64 op, .agg #[.int .i64 k0, .int .i64 n0], .agg #[.int .i64 k1, .int .i64 n1]] w fun e w' => e = .returned (.agg #[.int .i64 6, .int .i64 5]) ∧ Below w.heap.size w w' := by
  have hc := refusal_any 2 k0 n0 (some ⟨w.heap.size + 1 + 1 + 1, 0, none⟩) 1 [(k1, n1)] ((((w.alloc (cellsV k0 n0)).alloc (cellsV k1 n1)).alloc (cellsV 0 0)).alloc (cellsV k1 n1)) ((((hK.alloc _).alloc _).alloc _).alloc _) (vals_one ((Box.new _ _ _ _).of (by simp)))
  rw [h1] at hc
  dsimp only [M.vk, M.vn, Option.isSome, List.length] at hc
  clear h1
  have e25 : (op == 25) = false := by simp; omega
  have e26 : (op == 26) = false := by simp; omega
  have e27 : (op == 27) = false := by simp; omega
  have e28 : (op == 28) = false := by simp; omega
  have e29 : (op == 29) = false := by simp; omega
  have e30 : (op == 30) = false := by simp; omega
  clear ho
  go_enter Tryd.func33, Tryd.ntmps33
  go_wp2_with (first | (go_at_call 54; refine hc.mono ?_; clear hc; rintro e w1 ⟨rfl, hb1⟩; obtain ⟨hX, hY, hR1, hB1⟩ := start2 w k0 n0 k1 n1 (over_alloc _ hb1); obtain ⟨x0, x1, -, -⟩ := hX.alloc (cellsV 0 0); obtain ⟨y0, y1, -, -⟩ := hY.alloc (cellsV 0 0); clear hb1 hX hY) | (go_at_call 61; refine (order_any _ _ _).mono ?_; rintro e w' ⟨rfl, rfl⟩) | (go_at_call 18; refine (fault_any _ _).mono ?_; rintro e w2 ⟨rfl, hb2⟩; obtain ⟨r0, r1, q0, q1⟩ := (hR1.alloc _).later hb2; have hB2 := below_step (hB1.alloc hB1.size _) hb2; clear hb2))
  exact bodyPost_ret (v := .agg #[.int .i64 6, .int .i64 5]) (by simp [results, Tryd.results33, go_sem, r0, r1]) rfl ⟨rfl, (hB2.setCell (by simp; omega) _).setCell (by simp; omega) _⟩

theorem compare_any (op k0 n0 k1 n1 : Int) (w : World) (hK : Kinds w) (r : Int × Int) (hr : r = M.ans (M.refuse (takesB k0 (useOf op)) k0 n0 [(k1, n1)]) (M.cmpn op n0 n1)) :
    Calls Tryd.prog 33 #[.int .i64 op, .agg #[.int .i64 k0, .int .i64 n0], .agg #[.int .i64 k1, .int .i64 n1]] w fun e w' => e = .returned (.agg #[.int .i64 r.1, .int .i64 r.2]) ∧ Below w.heap.size w w' := by
  cases h1 : M.refuse (takesB k0 (useOf op)) k0 n0 [(k1, n1)] with
  | some v =>
    rw [hr, h1]
    exact compare_some op k0 n0 k1 n1 w hK v.1 v.2 h1
  | none =>
    rw [hr, h1, M.ans_none, ← M.cmp_same]
    by_cases ho : op < 25 ∨ 30 < op
    · have e : useOf op = 2 := by unfold useOf; rw [if_neg (by omega)]
      have e2 : M.cmpo op (M.ord n0 n1) = (6, 5) := by unfold M.cmpo; rw [if_neg (by omega), if_neg (by omega), if_neg (by omega), if_neg (by omega), if_neg (by omega), if_neg (by omega)]
      rw [e] at h1
      rw [e2]
      exact compare_no op k0 n0 k1 n1 w hK ho h1
    · have : op = 25 ∨ op = 26 ∨ op = 27 ∨ op = 28 ∨ op = 29 ∨ op = 30 := by omega
      rcases this with rfl | rfl | rfl | rfl | rfl | rfl
      · exact compare_25 k0 n0 k1 n1 w hK h1
      · exact compare_26 k0 n0 k1 n1 w hK h1
      · exact compare_27 k0 n0 k1 n1 w hK h1
      · exact compare_28 k0 n0 k1 n1 w hK h1
      · exact compare_29 k0 n0 k1 n1 w hK h1
      · exact compare_30 k0 n0 k1 n1 w hK h1

end Go.Proofs.YtnmcniibcjjflaaDoor
