import Derived.Test.YtjllbepecfajeaaDoorRefusal
import Derived.Test.YtjllbepecfajeaaDoorRows2
import Derived.Test.YtjllbepecfajeaaDoorPlain4
namespace Go.Proofs.YtjllbepecfajeaaDoor
open Go.RowKit

theorem order_any (x y : Int) (w : World) : Calls Tryd.prog 42 #[.int .i64 x, .int .i64 y] w fun e w' => e = .returned (.int .i64 (M.ord x y)) ∧ w' = w := by
  by_cases h : x < y
  · rw [M.ord_lt h]
    go_enter Tryd.func42, Tryd.ntmps42
    go_wp2
    go_ret
    exact ⟨rfl, rfl⟩
  · by_cases h' : y < x
    · rw [M.ord_gt h']
      go_enter Tryd.func42, Tryd.ntmps42
      go_wp2
      go_ret
      exact ⟨rfl, rfl⟩
    · obtain rfl : x = y := by omega
      rw [M.ord_eq]
      go_enter Tryd.func42, Tryd.ntmps42
      go_wp2
      go_ret
      exact ⟨rfl, rfl⟩

theorem flag_any (b : Bool) (w : World) : Calls Tryd.prog 43 #[.bool b] w fun e w' => e = .returned (.agg #[.int .i64 3, .int .i64 (M.bit b)]) ∧ Below w.heap.size w w' := by
  cases b
  · go_enter Tryd.func43, Tryd.ntmps43
    go_wp2
    exact bodyPost_ret (v := .agg #[.int .i64 3, .int .i64 0]) (by simp [results, Tryd.results43, go_sem]) rfl ⟨rfl, by simpa using (Below.refl w.heap.size w).alloc (Nat.le_refl _) _⟩
  · go_enter Tryd.func43, Tryd.ntmps43
    go_wp2
    exact bodyPost_ret (v := .agg #[.int .i64 3, .int .i64 1]) (by simp [results, Tryd.results43, go_sem]) rfl ⟨rfl, by simpa using (Below.refl w.heap.size w).alloc (Nat.le_refl _) _⟩

/-- Compare, where it takes its operands by a use (4 for OpEq and OpNe, 2 else). -/
def useOf (op : Int) : Int := if op = 25 ∨ op = 26 then 4 else 2

set_option maxHeartbeats 2000000 in
theorem compare_some (op k0 n0 k1 n1 : Int) (w : World) (hK : Kinds w) (x y : Int) (h1 : M.refuse (takesB k0 (useOf op)) k0 n0 [(k1, n1)] = some (x, y)) :
    Calls Tryd.prog 14 #[.int .i64 op, .agg #[.int .i64 k0, .int .i64 n0], .agg #[.int .i64 k1, .int .i64 n1]] w fun e w' => e = .returned (.agg #[.int .i64 x, .int .i64 y]) ∧ Below w.heap.size w w' := by
  have hc := refusal_any (useOf op) k0 n0 (some ⟨w.heap.size + 1 + 1 + 1, 0, none⟩) 1 [(k1, n1)] ((((w.alloc (cellsV k0 n0)).alloc (cellsV k1 n1)).alloc (cellsV 0 0)).alloc (cellsV k1 n1)) ((((hK.alloc _).alloc _).alloc _).alloc _) (vals_one ((Box.new _ _ _ _).of (by simp)))
  rw [h1] at hc
  dsimp only [M.vk, M.vn, Option.isSome, List.length] at hc
  clear h1
  by_cases c5 : op = 25
  · subst c5
    have e : useOf 25 = 4 := rfl
    rw [e] at hc
    clear e
    go_enter Tryd.func14, Tryd.ntmps14
    go_wp2_with (go_at_call 41; refine hc.mono ?_; clear hc; rintro e w1 ⟨rfl, hb1⟩; obtain ⟨-, -, hR1, hB1⟩ := start2 w k0 n0 k1 n1 (over_alloc _ hb1); obtain ⟨r0, r1, q0, q1⟩ := hR1.alloc (cellsV x y); clear hb1)
    exact bodyPost_ret (v := .agg #[.int .i64 x, .int .i64 y]) (by simp [results, Tryd.results14, go_sem, r0, r1]) rfl ⟨rfl, ((hB1.alloc hB1.size _).setCell (by simp; omega) _).setCell (by simp; omega) _⟩
  · by_cases c6 : op = 26
    · subst c6
      have e : useOf 26 = 4 := rfl
      rw [e] at hc
      clear e
      go_enter Tryd.func14, Tryd.ntmps14
      go_wp2_with (go_at_call 41; refine hc.mono ?_; clear hc; rintro e w1 ⟨rfl, hb1⟩; obtain ⟨-, -, hR1, hB1⟩ := start2 w k0 n0 k1 n1 (over_alloc _ hb1); obtain ⟨r0, r1, q0, q1⟩ := hR1.alloc (cellsV x y); clear hb1)
      exact bodyPost_ret (v := .agg #[.int .i64 x, .int .i64 y]) (by simp [results, Tryd.results14, go_sem, r0, r1]) rfl ⟨rfl, ((hB1.alloc hB1.size _).setCell (by simp; omega) _).setCell (by simp; omega) _⟩
    · have e : useOf op = 2 := by simp [useOf, c5, c6]
      rw [e] at hc
      have e5 : (op == 25) = false := by simpa using c5
      have e6 : (op == 26) = false := by simpa using c6
      clear e c5 c6
      go_enter Tryd.func14, Tryd.ntmps14
      go_wp2_with (go_at_call 41; refine hc.mono ?_; clear hc; rintro e w1 ⟨rfl, hb1⟩; obtain ⟨-, -, hR1, hB1⟩ := start2 w k0 n0 k1 n1 (over_alloc _ hb1); obtain ⟨r0, r1, q0, q1⟩ := hR1.alloc (cellsV x y); clear hb1)
      exact bodyPost_ret (v := .agg #[.int .i64 x, .int .i64 y]) (by simp [results, Tryd.results14, go_sem, r0, r1]) rfl ⟨rfl, ((hB1.alloc hB1.size _).setCell (by simp; omega) _).setCell (by simp; omega) _⟩

end Go.Proofs.YtjllbepecfajeaaDoor
