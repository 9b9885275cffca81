import Derived.Test.YtaecodgmfmijlaaRHold
namespace Go.Proofs.Ytaecodgmfmijlaa
open Go.RowKit

/-- The marks behind a list, in turns. -/
def markI (k : Nat) : Int := if k % 2 = 0 then -7701 else -7702

set_option maxRecDepth 100000 in
set_option maxHeartbeats 2000000 in
theorem holdInts_one (R g2 g cap2 capN N : Nat) (W : World) (c : W.cell? ⟨R, 1, none⟩ = some (.slice (some ⟨g2, 0, none⟩) 1 cap2)) (d : W.cell? ⟨g2, 0, none⟩ = some (.slice (some ⟨g, 0, none⟩) (N + 40) capN)) (hN : N ≤ 20000000000000)
    (m : ∀ k, k < 40 → W.cell? ⟨g, N + k, none⟩ = some (.int .i64 (markI k))) :
    Calls Try.prog 14 #[.pointer (some ⟨R, 0, none⟩)] W fun e W' => e = .returned (.bool true) ∧ Below W.heap.size W W' := by
  have hB : Below W.heap.size W (W.alloc (.cells #[.int .i64 (-7701), .int .i64 (-7702)] 3)) := (Below.refl _ _).alloc (Nat.le_refl _) _
  have c1 := (hB.cell (p := ⟨R, 1, none⟩) (World.block_lt_of_cell? _ _ c)).trans c
  have d1 := (hB.cell (p := ⟨g2, 0, none⟩) (World.block_lt_of_cell? _ _ d)).trans d
  have m1 : ∀ k, k < 40 → (W.alloc (.cells #[.int .i64 (-7701), .int .i64 (-7702)] 3)).cell? ⟨g, N + k, none⟩ = some (.int .i64 (markI k)) := fun k hk => (hB.cell (p := ⟨g, N + k, none⟩) (World.block_lt_of_cell? _ _ (m k hk))).trans (m k hk)
  have n0 : (W.alloc (.cells #[.int .i64 (-7701), .int .i64 (-7702)] 3)).cell? ⟨W.heap.size, 0, none⟩ = some (.int .i64 (-7701)) := by simp
  have n1 : (W.alloc (.cells #[.int .i64 (-7701), .int .i64 (-7702)] 3)).cell? ⟨W.heap.size, 1, none⟩ = some (.int .i64 (-7702)) := by simp
  go_enter Try.func14, Try.ntmps14
  go_wp2
  generalize hX : W.alloc (.cells #[.int .i64 (-7701), .int .i64 (-7702)] 3) = X at *
  refine wp_loop_rounds 2 ?_
  rw [rounds_succ]
  go_wp2
  go_loopw [6] (fun v wr => ∃ k : Nat, k ≤ 40 ∧ v = .int .i64 k ∧ wr = X) (fun v _ => (41 - intOf v).toNat)
  case atStart => exact ⟨0, by omega, rfl, rfl⟩
  case round =>
    obtain ⟨k, hk, rfl, rfl⟩ := hrel
    by_cases hk2 : k < 40
    · have mk := m1 k hk2
      rcases (show k % 2 = 0 ∨ k % 2 = 1 by omega) with hp | hp
      · have em : markI k = -7701 := by unfold markI; rw [if_pos hp]
        rw [em] at mk
        have hp' : (k : Int) % 2 = 0 := by omega
        go_wp2
        go_roundw
        case rel => exact ⟨k + 1, by omega, by go_num, by trivial⟩
        case measure => simp [intOf]; omega
      · have em : markI k = -7702 := by unfold markI; rw [if_neg (by omega)]
        rw [em] at mk
        have hp' : (k : Int) % 2 = 1 := by omega
        go_wp2
        go_roundw
        case rel => exact ⟨k + 1, by omega, by go_num, by trivial⟩
        case measure => simp [intOf]; omega
    · obtain rfl : k = 40 := by omega
      go_wp2
      rw [rounds_succ]
      go_wp2
      go_ret
      exact ⟨rfl, hB⟩

end Go.Proofs.Ytaecodgmfmijlaa
