import Derived.Test.YtoeabponjdkpjaaDoorRHoldAll
import Derived.Test.YtoeabponjdkpjaaDoorRow2
import Derived.Test.YtoeabponjdkpjaaDoorBox
namespace Go.Proofs.YtoeabponjdkpjaaDoor
open Go.RowKit

/-- The marks behind a list, in turns. -/
def markB (k : Nat) : Int := if k % 2 = 0 then -7701 else -7702

set_option maxRecDepth 100000 in
set_option maxHeartbeats 600000 in
theorem holdBands_one (R g2 g cap2 capN N : Nat) (W : World) (c : W.cell? ⟨R, 6, none⟩ = some (.slice (some ⟨g2, 0, none⟩) 1 cap2)) (d : W.cell? ⟨g2, 0, none⟩ = some (.slice (some ⟨g, 0, none⟩) (N + 40) capN)) (hN : N ≤ 20000000000000)
    (m : Hid (∀ k, k < 40 → W.cell? ⟨g, (N + k) * 2, none⟩ = some (.int .i64 (markB k)) ∧ W.cell? ⟨g, (N + k) * 2 + 1, none⟩ = some (.int .i64 0))) :
    Calls Tryd.prog 65 #[.pointer (some ⟨R, 0, none⟩)] W fun e W' => e = .returned (.bool true) ∧ Below W.heap.size W W' := by
  have hB : Below W.heap.size W (W.alloc (.cells #[.int .i64 (-7701), .int .i64 0, .int .i64 (-7702), .int .i64 0] 39)) := (Below.refl _ _).alloc (Nat.le_refl _) _
  have c1 := (hB.cell (p := ⟨R, 6, none⟩) (World.block_lt_of_cell? _ _ c)).trans c
  have d1 := (hB.cell (p := ⟨g2, 0, none⟩) (World.block_lt_of_cell? _ _ d)).trans d
  have hgW : g < W.heap.size := World.block_lt_of_cell? _ _ (m.out 0 (by omega)).1
  have m1 : Hid (∀ X, Below W.heap.size W X → ∀ k, k < 40 → X.cell? ⟨g, (N + k) * 2, none⟩ = some (.int .i64 (markB k)) ∧ X.cell? ⟨g, (N + k) * 2 + 1, none⟩ = some (.int .i64 0)) := fun X hb k hk => ⟨(hb.cell (p := ⟨g, (N + k) * 2, none⟩) hgW).trans (m.out k hk).1, (hb.cell (p := ⟨g, (N + k) * 2 + 1, none⟩) hgW).trans (m.out k hk).2⟩
  have n0 : (W.alloc (.cells #[.int .i64 (-7701), .int .i64 0, .int .i64 (-7702), .int .i64 0] 39)).cell? ⟨W.heap.size, 0, none⟩ = some (.int .i64 (-7701)) := by simp
  have n1 : (W.alloc (.cells #[.int .i64 (-7701), .int .i64 0, .int .i64 (-7702), .int .i64 0] 39)).cell? ⟨W.heap.size, 1, none⟩ = some (.int .i64 0) := by simp
  have n2 : (W.alloc (.cells #[.int .i64 (-7701), .int .i64 0, .int .i64 (-7702), .int .i64 0] 39)).cell? ⟨W.heap.size, 2, none⟩ = some (.int .i64 (-7702)) := by simp
  have n3 : (W.alloc (.cells #[.int .i64 (-7701), .int .i64 0, .int .i64 (-7702), .int .i64 0] 39)).cell? ⟨W.heap.size, 3, none⟩ = some (.int .i64 0) := by simp
  have hXs : (W.alloc (.cells #[.int .i64 (-7701), .int .i64 0, .int .i64 (-7702), .int .i64 0] 39)).heap.size = W.heap.size + 1 := by simp
  go_enter Tryd.func65, Tryd.ntmps65
  go_wp2
  generalize W.alloc (.cells #[.int .i64 (-7701), .int .i64 0, .int .i64 (-7702), .int .i64 0] 39) = X at *
  refine wp_loop_rounds 2 ?_
  rw [rounds_succ]
  go_wp2
  have HX : Hid (X.cell? ⟨W.heap.size, 0, none⟩ = some (.int .i64 (-7701)) ∧ X.cell? ⟨W.heap.size, 1, none⟩ = some (.int .i64 0) ∧ X.cell? ⟨W.heap.size, 2, none⟩ = some (.int .i64 (-7702)) ∧ X.cell? ⟨W.heap.size, 3, none⟩ = some (.int .i64 0)) := ⟨n0, n1, n2, n3⟩
  have HC : Hid (X.cell? ⟨R, 6, none⟩ = some (.slice (some ⟨g2, 0, none⟩) 1 cap2) ∧ X.cell? ⟨g2, 0, none⟩ = some (.slice (some ⟨g, 0, none⟩) (N + 40) capN)) := ⟨c1, d1⟩
  clear n0 n1 n2 n3 c d c1 d1
  go_loopw [6] (fun v wr => ∃ k : Nat, k ≤ 40 ∧ v = .int .i64 k ∧ Below X.heap.size X wr) (fun v _ => (41 - intOf v).toNat)
  case atStart => exact ⟨0, by omega, rfl, Below.refl _ _⟩
  case round =>
    obtain ⟨k, hk, rfl, hb⟩ := hrel
    have c1 := (hb.cell (p := ⟨R, 6, none⟩) (World.block_lt_of_cell? _ _ HC.out.1)).trans HC.out.1
    have d1 := (hb.cell (p := ⟨g2, 0, none⟩) (World.block_lt_of_cell? _ _ HC.out.2)).trans HC.out.2
    by_cases hk2 : k < 40
    · obtain ⟨mk, mz⟩ := m1.out wr (below_of hB hb) k hk2
      have hlX : W.heap.size < X.heap.size := by omega
      rcases (show k % 2 = 0 ∨ k % 2 = 1 by omega) with hp | hp
      · have em : markB k = -7701 := by unfold markB; rw [if_pos hp]
        rw [em] at mk
        have hp' : (k : Int) % 2 = 0 := by omega
        have n0 : ∀ o, (wr.alloc o).cell? ⟨W.heap.size, 0, none⟩ = some (.int .i64 (-7701)) := fun o => ((hb.alloc hb.size o).cell (p := ⟨W.heap.size, 0, none⟩) hlX).trans HX.out.1
        have n1 : ∀ o, (wr.alloc o).cell? ⟨W.heap.size, 1, none⟩ = some (.int .i64 0) := fun o => ((hb.alloc hb.size o).cell (p := ⟨W.heap.size, 1, none⟩) hlX).trans HX.out.2.1
        go_wp2
        go_roundw
        case rel => exact ⟨k + 1, by omega, by go_num, (hb.alloc hb.size _).alloc (by simp; have := hb.size; omega) _⟩
        case measure => simp [intOf]; omega
      · have em : markB k = -7702 := by unfold markB; rw [if_neg (by omega)]
        rw [em] at mk
        have hp' : (k : Int) % 2 = 1 := by omega
        have n0 : ∀ o, (wr.alloc o).cell? ⟨W.heap.size, 2, none⟩ = some (.int .i64 (-7702)) := fun o => ((hb.alloc hb.size o).cell (p := ⟨W.heap.size, 2, none⟩) hlX).trans HX.out.2.2.1
        have n1 : ∀ o, (wr.alloc o).cell? ⟨W.heap.size, 3, none⟩ = some (.int .i64 0) := fun o => ((hb.alloc hb.size o).cell (p := ⟨W.heap.size, 3, none⟩) hlX).trans HX.out.2.2.2
        go_wp2
        go_roundw
        case rel => exact ⟨k + 1, by omega, by go_num, (hb.alloc hb.size _).alloc (by simp; have := hb.size; omega) _⟩
        case measure => simp [intOf]; omega
    · obtain rfl : k = 40 := by omega
      go_wp2
      rw [rounds_succ]
      go_wp2
      go_ret
      exact ⟨rfl, below_of hB hb⟩

end Go.Proofs.YtoeabponjdkpjaaDoor
