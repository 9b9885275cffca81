import Derived.Test.YtaecodgmfmijlaaProg
import Derived.WalkKit
import Derived.WalkSpells
import Derived.WalkLawsBesides
import Derived.Deep.QuietTactic
import Derived.BigQuiet
namespace Go.Proofs.Ytaecodgmfmijlaa
open Go.RowKit

set_option maxHeartbeats 1000000 in
theorem holdBytes_nil (R : Nat) (W : World) (c : W.cell? ⟨R, 0, none⟩ = some (.slice none 0 0)) : Calls Try.prog 13 #[.pointer (some ⟨R, 0, none⟩)] W fun e W' => e = .returned (.bool true) ∧ Below W.heap.size W W' := by
  go_enter Try.func13, Try.ntmps13
  go_wp2
  refine wp_loop_rounds 1 ?_
  rw [rounds_succ]
  have c2 := fun o => ((Below.refl W.heap.size W).alloc (Nat.le_refl _) o).cell (p := ⟨R, 0, none⟩) (World.block_lt_of_cell? _ _ c)
  simp only [c] at c2
  go_wp2
  go_ret
  exact ⟨rfl, (Below.refl _ _).alloc (Nat.le_refl _) _⟩

set_option maxHeartbeats 1000000 in
theorem holdInts_nil (R : Nat) (W : World) (c : W.cell? ⟨R, 1, none⟩ = some (.slice none 0 0)) : Calls Try.prog 14 #[.pointer (some ⟨R, 0, none⟩)] W fun e W' => e = .returned (.bool true) ∧ Below W.heap.size W W' := by
  go_enter Try.func14, Try.ntmps14
  go_wp2
  refine wp_loop_rounds 1 ?_
  rw [rounds_succ]
  have c2 := fun o => ((Below.refl W.heap.size W).alloc (Nat.le_refl _) o).cell (p := ⟨R, 1, none⟩) (World.block_lt_of_cell? _ _ c)
  simp only [c] at c2
  go_wp2
  go_ret
  exact ⟨rfl, (Below.refl _ _).alloc (Nat.le_refl _) _⟩

set_option maxHeartbeats 1000000 in
theorem holdCells_nil (R : Nat) (W : World) (c : W.cell? ⟨R, 2, none⟩ = some (.slice none 0 0)) : Calls Try.prog 15 #[.pointer (some ⟨R, 0, none⟩)] W fun e W' => e = .returned (.bool true) ∧ Below W.heap.size W W' := by
  go_enter Try.func15, Try.ntmps15
  go_wp2
  refine wp_loop_rounds 1 ?_
  rw [rounds_succ]
  have c2 := fun o => ((Below.refl W.heap.size W).alloc (Nat.le_refl _) o).cell (p := ⟨R, 2, none⟩) (World.block_lt_of_cell? _ _ c)
  simp only [c] at c2
  go_wp2
  go_ret
  exact ⟨rfl, (Below.refl _ _).alloc (Nat.le_refl _) _⟩

set_option maxHeartbeats 1000000 in
theorem holdBools_nil (R : Nat) (W : World) (c : W.cell? ⟨R, 3, none⟩ = some (.slice none 0 0)) : Calls Try.prog 16 #[.pointer (some ⟨R, 0, none⟩)] W fun e W' => e = .returned (.bool true) ∧ Below W.heap.size W W' := by
  go_enter Try.func16, Try.ntmps16
  go_wp2
  refine wp_loop_rounds 1 ?_
  rw [rounds_succ]
  have c2 := fun o => ((Below.refl W.heap.size W).alloc (Nat.le_refl _) o).cell (p := ⟨R, 3, none⟩) (World.block_lt_of_cell? _ _ c)
  simp only [c] at c2
  go_wp2
  go_ret
  exact ⟨rfl, (Below.refl _ _).alloc (Nat.le_refl _) _⟩

set_option maxHeartbeats 1000000 in
theorem holdTexts_nil (R : Nat) (W : World) (c : W.cell? ⟨R, 4, none⟩ = some (.slice none 0 0)) : Calls Try.prog 17 #[.pointer (some ⟨R, 0, none⟩)] W fun e W' => e = .returned (.bool true) ∧ Below W.heap.size W W' := by
  go_enter Try.func17, Try.ntmps17
  go_wp2
  refine wp_loop_rounds 1 ?_
  rw [rounds_succ]
  have c2 := fun o => ((Below.refl W.heap.size W).alloc (Nat.le_refl _) o).cell (p := ⟨R, 4, none⟩) (World.block_lt_of_cell? _ _ c)
  simp only [c] at c2
  go_wp2
  go_ret
  exact ⟨rfl, (Below.refl _ _).alloc (Nat.le_refl _) _⟩

set_option maxHeartbeats 1000000 in
theorem holdValues_nil (R : Nat) (W : World) (c : W.cell? ⟨R, 5, none⟩ = some (.slice none 0 0)) : Calls Try.prog 18 #[.pointer (some ⟨R, 0, none⟩)] W fun e W' => e = .returned (.bool true) ∧ Below W.heap.size W W' := by
  go_enter Try.func18, Try.ntmps18
  go_wp2
  refine wp_loop_rounds 1 ?_
  rw [rounds_succ]
  have c2 := fun o => ((Below.refl W.heap.size W).alloc (Nat.le_refl _) o).cell (p := ⟨R, 5, none⟩) (World.block_lt_of_cell? _ _ c)
  simp only [c] at c2
  go_wp2
  go_ret
  exact ⟨rfl, (Below.refl _ _).alloc (Nat.le_refl _) _⟩

set_option maxHeartbeats 1000000 in
theorem holdBands_nil (R : Nat) (W : World) (c : W.cell? ⟨R, 6, none⟩ = some (.slice none 0 0)) : Calls Try.prog 19 #[.pointer (some ⟨R, 0, none⟩)] W fun e W' => e = .returned (.bool true) ∧ Below W.heap.size W W' := by
  go_enter Try.func19, Try.ntmps19
  go_wp2
  refine wp_loop_rounds 1 ?_
  rw [rounds_succ]
  have c2 := fun o => ((Below.refl W.heap.size W).alloc (Nat.le_refl _) o).cell (p := ⟨R, 6, none⟩) (World.block_lt_of_cell? _ _ c)
  simp only [c] at c2
  go_wp2
  go_ret
  exact ⟨rfl, (Below.refl _ _).alloc (Nat.le_refl _) _⟩

set_option maxHeartbeats 1000000 in
theorem holdTokens_nil (R : Nat) (W : World) (c : W.cell? ⟨R, 7, none⟩ = some (.slice none 0 0)) : Calls Try.prog 20 #[.pointer (some ⟨R, 0, none⟩)] W fun e W' => e = .returned (.bool true) ∧ Below W.heap.size W W' := by
  go_enter Try.func20, Try.ntmps20
  go_wp2
  refine wp_loop_rounds 1 ?_
  rw [rounds_succ]
  have c2 := fun o => ((Below.refl W.heap.size W).alloc (Nat.le_refl _) o).cell (p := ⟨R, 7, none⟩) (World.block_lt_of_cell? _ _ c)
  simp only [c] at c2
  go_wp2
  go_ret
  exact ⟨rfl, (Below.refl _ _).alloc (Nat.le_refl _) _⟩

set_option maxHeartbeats 1000000 in
theorem holdReads_nil (R : Nat) (W : World) (c : W.cell? ⟨R, 8, none⟩ = some (.slice none 0 0)) : Calls Try.prog 21 #[.pointer (some ⟨R, 0, none⟩)] W fun e W' => e = .returned (.bool true) ∧ Below W.heap.size W W' := by
  go_enter Try.func21, Try.ntmps21
  go_wp2
  refine wp_loop_rounds 1 ?_
  rw [rounds_succ]
  have c2 := fun o => ((Below.refl W.heap.size W).alloc (Nat.le_refl _) o).cell (p := ⟨R, 8, none⟩) (World.block_lt_of_cell? _ _ c)
  simp only [c] at c2
  go_wp2
  go_ret
  exact ⟨rfl, (Below.refl _ _).alloc (Nat.le_refl _) _⟩

set_option maxHeartbeats 1000000 in
theorem holdConflicts_nil (R : Nat) (W : World) (c : W.cell? ⟨R, 9, none⟩ = some (.slice none 0 0)) : Calls Try.prog 22 #[.pointer (some ⟨R, 0, none⟩)] W fun e W' => e = .returned (.bool true) ∧ Below W.heap.size W W' := by
  go_enter Try.func22, Try.ntmps22
  go_wp2
  refine wp_loop_rounds 1 ?_
  rw [rounds_succ]
  have c2 := fun o => ((Below.refl W.heap.size W).alloc (Nat.le_refl _) o).cell (p := ⟨R, 9, none⟩) (World.block_lt_of_cell? _ _ c)
  simp only [c] at c2
  go_wp2
  go_ret
  exact ⟨rfl, (Below.refl _ _).alloc (Nat.le_refl _) _⟩

set_option maxHeartbeats 1000000 in
theorem holdPoints_nil (R : Nat) (W : World) (c : W.cell? ⟨R, 10, none⟩ = some (.slice none 0 0)) : Calls Try.prog 23 #[.pointer (some ⟨R, 0, none⟩)] W fun e W' => e = .returned (.bool true) ∧ Below W.heap.size W W' := by
  go_enter Try.func23, Try.ntmps23
  go_wp2
  refine wp_loop_rounds 1 ?_
  rw [rounds_succ]
  have c2 := fun o => ((Below.refl W.heap.size W).alloc (Nat.le_refl _) o).cell (p := ⟨R, 10, none⟩) (World.block_lt_of_cell? _ _ c)
  simp only [c] at c2
  go_wp2
  go_ret
  exact ⟨rfl, (Below.refl _ _).alloc (Nat.le_refl _) _⟩

set_option maxHeartbeats 1000000 in
theorem holdNodes_nil (R : Nat) (W : World) (c : W.cell? ⟨R, 11, none⟩ = some (.slice none 0 0)) : Calls Try.prog 24 #[.pointer (some ⟨R, 0, none⟩)] W fun e W' => e = .returned (.bool true) ∧ Below W.heap.size W W' := by
  go_enter Try.func24, Try.ntmps24
  go_wp2
  refine wp_loop_rounds 1 ?_
  rw [rounds_succ]
  have c2 := fun o => ((Below.refl W.heap.size W).alloc (Nat.le_refl _) o).cell (p := ⟨R, 11, none⟩) (World.block_lt_of_cell? _ _ c)
  simp only [c] at c2
  go_wp2
  go_ret
  exact ⟨rfl, (Below.refl _ _).alloc (Nat.le_refl _) _⟩

set_option maxHeartbeats 1000000 in
theorem holdRecords_nil (R : Nat) (W : World) (c : W.cell? ⟨R, 12, none⟩ = some (.slice none 0 0)) : Calls Try.prog 25 #[.pointer (some ⟨R, 0, none⟩)] W fun e W' => e = .returned (.bool true) ∧ Below W.heap.size W W' := by
  go_enter Try.func25, Try.ntmps25
  go_wp2
  refine wp_loop_rounds 1 ?_
  rw [rounds_succ]
  have c2 := fun o => ((Below.refl W.heap.size W).alloc (Nat.le_refl _) o).cell (p := ⟨R, 12, none⟩) (World.block_lt_of_cell? _ _ c)
  simp only [c] at c2
  go_wp2
  go_ret
  exact ⟨rfl, (Below.refl _ _).alloc (Nat.le_refl _) _⟩

set_option maxHeartbeats 1000000 in
theorem holdFiles_nil (R : Nat) (W : World) (c : W.cell? ⟨R, 13, none⟩ = some (.slice none 0 0)) : Calls Try.prog 26 #[.pointer (some ⟨R, 0, none⟩)] W fun e W' => e = .returned (.bool true) ∧ Below W.heap.size W W' := by
  go_enter Try.func26, Try.ntmps26
  go_wp2
  refine wp_loop_rounds 1 ?_
  rw [rounds_succ]
  have c2 := fun o => ((Below.refl W.heap.size W).alloc (Nat.le_refl _) o).cell (p := ⟨R, 13, none⟩) (World.block_lt_of_cell? _ _ c)
  simp only [c] at c2
  go_wp2
  go_ret
  exact ⟨rfl, (Below.refl _ _).alloc (Nat.le_refl _) _⟩

set_option maxHeartbeats 1000000 in
theorem holdExprs_nil (R : Nat) (W : World) (c : W.cell? ⟨R, 14, none⟩ = some (.slice none 0 0)) : Calls Try.prog 27 #[.pointer (some ⟨R, 0, none⟩)] W fun e W' => e = .returned (.bool true) ∧ Below W.heap.size W W' := by
  go_enter Try.func27, Try.ntmps27
  go_wp2
  refine wp_loop_rounds 1 ?_
  rw [rounds_succ]
  have c2 := fun o => ((Below.refl W.heap.size W).alloc (Nat.le_refl _) o).cell (p := ⟨R, 14, none⟩) (World.block_lt_of_cell? _ _ c)
  simp only [c] at c2
  go_wp2
  go_ret
  exact ⟨rfl, (Below.refl _ _).alloc (Nat.le_refl _) _⟩

set_option maxHeartbeats 1000000 in
theorem holdClauses_nil (R : Nat) (W : World) (c : W.cell? ⟨R, 15, none⟩ = some (.slice none 0 0)) : Calls Try.prog 28 #[.pointer (some ⟨R, 0, none⟩)] W fun e W' => e = .returned (.bool true) ∧ Below W.heap.size W W' := by
  go_enter Try.func28, Try.ntmps28
  go_wp2
  refine wp_loop_rounds 1 ?_
  rw [rounds_succ]
  have c2 := fun o => ((Below.refl W.heap.size W).alloc (Nat.le_refl _) o).cell (p := ⟨R, 15, none⟩) (World.block_lt_of_cell? _ _ c)
  simp only [c] at c2
  go_wp2
  go_ret
  exact ⟨rfl, (Below.refl _ _).alloc (Nat.le_refl _) _⟩

set_option maxHeartbeats 1000000 in
theorem holdLines_nil (R : Nat) (W : World) (c : W.cell? ⟨R, 16, none⟩ = some (.slice none 0 0)) : Calls Try.prog 29 #[.pointer (some ⟨R, 0, none⟩)] W fun e W' => e = .returned (.bool true) ∧ Below W.heap.size W W' := by
  go_enter Try.func29, Try.ntmps29
  go_wp2
  refine wp_loop_rounds 1 ?_
  rw [rounds_succ]
  have c2 := fun o => ((Below.refl W.heap.size W).alloc (Nat.le_refl _) o).cell (p := ⟨R, 16, none⟩) (World.block_lt_of_cell? _ _ c)
  simp only [c] at c2
  go_wp2
  go_ret
  exact ⟨rfl, (Below.refl _ _).alloc (Nat.le_refl _) _⟩

set_option maxHeartbeats 1000000 in
theorem holdChecks_nil (R : Nat) (W : World) (c : W.cell? ⟨R, 17, none⟩ = some (.slice none 0 0)) : Calls Try.prog 30 #[.pointer (some ⟨R, 0, none⟩)] W fun e W' => e = .returned (.bool true) ∧ Below W.heap.size W W' := by
  go_enter Try.func30, Try.ntmps30
  go_wp2
  refine wp_loop_rounds 1 ?_
  rw [rounds_succ]
  have c2 := fun o => ((Below.refl W.heap.size W).alloc (Nat.le_refl _) o).cell (p := ⟨R, 17, none⟩) (World.block_lt_of_cell? _ _ c)
  simp only [c] at c2
  go_wp2
  go_ret
  exact ⟨rfl, (Below.refl _ _).alloc (Nat.le_refl _) _⟩

set_option maxHeartbeats 1000000 in
theorem holdOptions_nil (R : Nat) (W : World) (c : W.cell? ⟨R, 18, none⟩ = some (.slice none 0 0)) : Calls Try.prog 31 #[.pointer (some ⟨R, 0, none⟩)] W fun e W' => e = .returned (.bool true) ∧ Below W.heap.size W W' := by
  go_enter Try.func31, Try.ntmps31
  go_wp2
  refine wp_loop_rounds 1 ?_
  rw [rounds_succ]
  have c2 := fun o => ((Below.refl W.heap.size W).alloc (Nat.le_refl _) o).cell (p := ⟨R, 18, none⟩) (World.block_lt_of_cell? _ _ c)
  simp only [c] at c2
  go_wp2
  go_ret
  exact ⟨rfl, (Below.refl _ _).alloc (Nat.le_refl _) _⟩

set_option maxHeartbeats 1000000 in
theorem holdTables_nil (R : Nat) (W : World) (c : W.cell? ⟨R, 19, none⟩ = some (.slice none 0 0)) : Calls Try.prog 32 #[.pointer (some ⟨R, 0, none⟩)] W fun e W' => e = .returned (.bool true) ∧ Below W.heap.size W W' := by
  go_enter Try.func32, Try.ntmps32
  go_wp2
  refine wp_loop_rounds 1 ?_
  rw [rounds_succ]
  have c2 := fun o => ((Below.refl W.heap.size W).alloc (Nat.le_refl _) o).cell (p := ⟨R, 19, none⟩) (World.block_lt_of_cell? _ _ c)
  simp only [c] at c2
  go_wp2
  go_ret
  exact ⟨rfl, (Below.refl _ _).alloc (Nat.le_refl _) _⟩

set_option maxHeartbeats 1000000 in
theorem holdGroups_nil (R : Nat) (W : World) (c : W.cell? ⟨R, 20, none⟩ = some (.slice none 0 0)) : Calls Try.prog 33 #[.pointer (some ⟨R, 0, none⟩)] W fun e W' => e = .returned (.bool true) ∧ Below W.heap.size W W' := by
  go_enter Try.func33, Try.ntmps33
  go_wp2
  refine wp_loop_rounds 1 ?_
  rw [rounds_succ]
  have c2 := fun o => ((Below.refl W.heap.size W).alloc (Nat.le_refl _) o).cell (p := ⟨R, 20, none⟩) (World.block_lt_of_cell? _ _ c)
  simp only [c] at c2
  go_wp2
  go_ret
  exact ⟨rfl, (Below.refl _ _).alloc (Nat.le_refl _) _⟩

end Go.Proofs.Ytaecodgmfmijlaa
