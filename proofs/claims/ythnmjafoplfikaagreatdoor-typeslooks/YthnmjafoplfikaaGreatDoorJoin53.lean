import Derived.Test.YthnmjafoplfikaaGreatDoorProg
import Derived.WalkKit
import Derived.WalkSpells
import Derived.WalkLawsBesides
import Derived.Deep.QuietTactic
import Derived.BigQuiet
import Derived.Test.YthnmjafoplfikaaGreatDoorTurnRmW
import Derived.Laws.StructEq
namespace Go.Proofs.YthnmjafoplfikaaGreatDoor
open Go.RowKit

set_option maxHeartbeats 1000000 in
theorem holdBytes_nil (R : Nat) (W : World) (c : W.cell? ⟨R, 0, none⟩ = some (.slice none 0 0)) : Calls Tryz.prog 39 #[.pointer (some ⟨R, 0, none⟩)] W fun e W' => e = .returned (.bool true) ∧ Below W.heap.size W W' := by
  go_enter Tryz.func39, Tryz.ntmps39
  go_wp2
  refine wp_loop_rounds 1 ?_
  rw [rounds_succ]
  have c2 := fun o => ((Below.refl W.heap.size W).alloc (Nat.le_refl _) o).cell (p := ⟨R, 0, none⟩) (World.block_lt_of_cell? _ _ c)
  simp only [c] at c2
  go_wp2
  go_ret
  exact ⟨rfl, (Below.refl _ _).alloc (Nat.le_refl _) _⟩

set_option maxHeartbeats 1000000 in
theorem holdInts_nil (R : Nat) (W : World) (c : W.cell? ⟨R, 1, none⟩ = some (.slice none 0 0)) : Calls Tryz.prog 40 #[.pointer (some ⟨R, 0, none⟩)] W fun e W' => e = .returned (.bool true) ∧ Below W.heap.size W W' := by
  go_enter Tryz.func40, Tryz.ntmps40
  go_wp2
  refine wp_loop_rounds 1 ?_
  rw [rounds_succ]
  have c2 := fun o => ((Below.refl W.heap.size W).alloc (Nat.le_refl _) o).cell (p := ⟨R, 1, none⟩) (World.block_lt_of_cell? _ _ c)
  simp only [c] at c2
  go_wp2
  go_ret
  exact ⟨rfl, (Below.refl _ _).alloc (Nat.le_refl _) _⟩

set_option maxHeartbeats 1000000 in
theorem holdCells_nil (R : Nat) (W : World) (c : W.cell? ⟨R, 2, none⟩ = some (.slice none 0 0)) : Calls Tryz.prog 41 #[.pointer (some ⟨R, 0, none⟩)] W fun e W' => e = .returned (.bool true) ∧ Below W.heap.size W W' := by
  go_enter Tryz.func41, Tryz.ntmps41
  go_wp2
  refine wp_loop_rounds 1 ?_
  rw [rounds_succ]
  have c2 := fun o => ((Below.refl W.heap.size W).alloc (Nat.le_refl _) o).cell (p := ⟨R, 2, none⟩) (World.block_lt_of_cell? _ _ c)
  simp only [c] at c2
  go_wp2
  go_ret
  exact ⟨rfl, (Below.refl _ _).alloc (Nat.le_refl _) _⟩

set_option maxHeartbeats 1000000 in
theorem holdBools_nil (R : Nat) (W : World) (c : W.cell? ⟨R, 3, none⟩ = some (.slice none 0 0)) : Calls Tryz.prog 42 #[.pointer (some ⟨R, 0, none⟩)] W fun e W' => e = .returned (.bool true) ∧ Below W.heap.size W W' := by
  go_enter Tryz.func42, Tryz.ntmps42
  go_wp2
  refine wp_loop_rounds 1 ?_
  rw [rounds_succ]
  have c2 := fun o => ((Below.refl W.heap.size W).alloc (Nat.le_refl _) o).cell (p := ⟨R, 3, none⟩) (World.block_lt_of_cell? _ _ c)
  simp only [c] at c2
  go_wp2
  go_ret
  exact ⟨rfl, (Below.refl _ _).alloc (Nat.le_refl _) _⟩

set_option maxHeartbeats 1000000 in
theorem holdValues_nil (R : Nat) (W : World) (c : W.cell? ⟨R, 5, none⟩ = some (.slice none 0 0)) : Calls Tryz.prog 44 #[.pointer (some ⟨R, 0, none⟩)] W fun e W' => e = .returned (.bool true) ∧ Below W.heap.size W W' := by
  go_enter Tryz.func44, Tryz.ntmps44
  go_wp2
  refine wp_loop_rounds 1 ?_
  rw [rounds_succ]
  have c2 := fun o => ((Below.refl W.heap.size W).alloc (Nat.le_refl _) o).cell (p := ⟨R, 5, none⟩) (World.block_lt_of_cell? _ _ c)
  simp only [c] at c2
  go_wp2
  go_ret
  exact ⟨rfl, (Below.refl _ _).alloc (Nat.le_refl _) _⟩

set_option maxHeartbeats 1000000 in
theorem holdTokens_nil (R : Nat) (W : World) (c : W.cell? ⟨R, 7, none⟩ = some (.slice none 0 0)) : Calls Tryz.prog 46 #[.pointer (some ⟨R, 0, none⟩)] W fun e W' => e = .returned (.bool true) ∧ Below W.heap.size W W' := by
  go_enter Tryz.func46, Tryz.ntmps46
  go_wp2
  refine wp_loop_rounds 1 ?_
  rw [rounds_succ]
  have c2 := fun o => ((Below.refl W.heap.size W).alloc (Nat.le_refl _) o).cell (p := ⟨R, 7, none⟩) (World.block_lt_of_cell? _ _ c)
  simp only [c] at c2
  go_wp2
  go_ret
  exact ⟨rfl, (Below.refl _ _).alloc (Nat.le_refl _) _⟩

set_option maxHeartbeats 1000000 in
theorem holdReads_nil (R : Nat) (W : World) (c : W.cell? ⟨R, 8, none⟩ = some (.slice none 0 0)) : Calls Tryz.prog 47 #[.pointer (some ⟨R, 0, none⟩)] W fun e W' => e = .returned (.bool true) ∧ Below W.heap.size W W' := by
  go_enter Tryz.func47, Tryz.ntmps47
  go_wp2
  refine wp_loop_rounds 1 ?_
  rw [rounds_succ]
  have c2 := fun o => ((Below.refl W.heap.size W).alloc (Nat.le_refl _) o).cell (p := ⟨R, 8, none⟩) (World.block_lt_of_cell? _ _ c)
  simp only [c] at c2
  go_wp2
  go_ret
  exact ⟨rfl, (Below.refl _ _).alloc (Nat.le_refl _) _⟩

set_option maxHeartbeats 1000000 in
theorem holdConflicts_nil (R : Nat) (W : World) (c : W.cell? ⟨R, 9, none⟩ = some (.slice none 0 0)) : Calls Tryz.prog 48 #[.pointer (some ⟨R, 0, none⟩)] W fun e W' => e = .returned (.bool true) ∧ Below W.heap.size W W' := by
  go_enter Tryz.func48, Tryz.ntmps48
  go_wp2
  refine wp_loop_rounds 1 ?_
  rw [rounds_succ]
  have c2 := fun o => ((Below.refl W.heap.size W).alloc (Nat.le_refl _) o).cell (p := ⟨R, 9, none⟩) (World.block_lt_of_cell? _ _ c)
  simp only [c] at c2
  go_wp2
  go_ret
  exact ⟨rfl, (Below.refl _ _).alloc (Nat.le_refl _) _⟩

set_option maxHeartbeats 1000000 in
theorem holdPoints_nil (R : Nat) (W : World) (c : W.cell? ⟨R, 10, none⟩ = some (.slice none 0 0)) : Calls Tryz.prog 49 #[.pointer (some ⟨R, 0, none⟩)] W fun e W' => e = .returned (.bool true) ∧ Below W.heap.size W W' := by
  go_enter Tryz.func49, Tryz.ntmps49
  go_wp2
  refine wp_loop_rounds 1 ?_
  rw [rounds_succ]
  have c2 := fun o => ((Below.refl W.heap.size W).alloc (Nat.le_refl _) o).cell (p := ⟨R, 10, none⟩) (World.block_lt_of_cell? _ _ c)
  simp only [c] at c2
  go_wp2
  go_ret
  exact ⟨rfl, (Below.refl _ _).alloc (Nat.le_refl _) _⟩

set_option maxHeartbeats 1000000 in
theorem holdNodes_nil (R : Nat) (W : World) (c : W.cell? ⟨R, 11, none⟩ = some (.slice none 0 0)) : Calls Tryz.prog 50 #[.pointer (some ⟨R, 0, none⟩)] W fun e W' => e = .returned (.bool true) ∧ Below W.heap.size W W' := by
  go_enter Tryz.func50, Tryz.ntmps50
  go_wp2
  refine wp_loop_rounds 1 ?_
  rw [rounds_succ]
  have c2 := fun o => ((Below.refl W.heap.size W).alloc (Nat.le_refl _) o).cell (p := ⟨R, 11, none⟩) (World.block_lt_of_cell? _ _ c)
  simp only [c] at c2
  go_wp2
  go_ret
  exact ⟨rfl, (Below.refl _ _).alloc (Nat.le_refl _) _⟩

set_option maxHeartbeats 1000000 in
theorem holdRecords_nil (R : Nat) (W : World) (c : W.cell? ⟨R, 12, none⟩ = some (.slice none 0 0)) : Calls Tryz.prog 51 #[.pointer (some ⟨R, 0, none⟩)] W fun e W' => e = .returned (.bool true) ∧ Below W.heap.size W W' := by
  go_enter Tryz.func51, Tryz.ntmps51
  go_wp2
  refine wp_loop_rounds 1 ?_
  rw [rounds_succ]
  have c2 := fun o => ((Below.refl W.heap.size W).alloc (Nat.le_refl _) o).cell (p := ⟨R, 12, none⟩) (World.block_lt_of_cell? _ _ c)
  simp only [c] at c2
  go_wp2
  go_ret
  exact ⟨rfl, (Below.refl _ _).alloc (Nat.le_refl _) _⟩

set_option maxHeartbeats 1000000 in
theorem holdFiles_nil (R : Nat) (W : World) (c : W.cell? ⟨R, 13, none⟩ = some (.slice none 0 0)) : Calls Tryz.prog 52 #[.pointer (some ⟨R, 0, none⟩)] W fun e W' => e = .returned (.bool true) ∧ Below W.heap.size W W' := by
  go_enter Tryz.func52, Tryz.ntmps52
  go_wp2
  refine wp_loop_rounds 1 ?_
  rw [rounds_succ]
  have c2 := fun o => ((Below.refl W.heap.size W).alloc (Nat.le_refl _) o).cell (p := ⟨R, 13, none⟩) (World.block_lt_of_cell? _ _ c)
  simp only [c] at c2
  go_wp2
  go_ret
  exact ⟨rfl, (Below.refl _ _).alloc (Nat.le_refl _) _⟩

end Go.Proofs.YthnmjafoplfikaaGreatDoor


namespace Go.Proofs.YthnmjafoplfikaaGreatDoor
open Go.RowKit

theorem below_of2 {W A B : World} (h : Below W.heap.size W A) (k : Below A.heap.size A B) : Below W.heap.size W B := h.trans (k.mono h.size)

end Go.Proofs.YthnmjafoplfikaaGreatDoor


namespace Go.Proofs.YthnmjafoplfikaaGreatDoor
open Go.RowKit

set_option maxRecDepth 100000 in
set_option maxHeartbeats 4000000 in
theorem holdGroups_rm (R lo N : Nat) (K : Nat → Value) (V : Nat → List Value) (W : World) (hN : N ≤ 2000000000) (hR : RmAt W R lo K V N) :
    Calls Tryz.prog 59 #[.pointer (some ⟨R, 0, none⟩)] W fun e W' => e = .returned (.bool true) ∧ Below W.heap.size W W' := by
  have hbX := bel_alloc W (.cells #[.string ⟨#[]⟩, .int .i64 (-7701), .string ⟨#[]⟩, .int .i64 (-7702)] 96)
  have hMx := Hid.mk (heap_alloc_new W (.cells #[.string ⟨#[]⟩, .int .i64 (-7701), .string ⟨#[]⟩, .int .i64 (-7702)] 96))
  have hXs : W.heap.size < (W.alloc (.cells #[.string ⟨#[]⟩, .int .i64 (-7701), .string ⟨#[]⟩, .int .i64 (-7702)] 96)).heap.size := by simp
  obtain ⟨ka, kc, hK⟩ := own_shape (hR.own 20 (by decide))
  have hRX := hR.new hbX
  have hc := (hRX.cell (j := 20) (by decide)).1
  have hcl := Hid.mk (hR.few 20 (by decide))
  have hown := hR.own 20 (by decide)
  have hmks := Hid.mk (hR.mks 20 (by decide))
  rw [hK] at hc hown
  have e1 : ∀ w : World, (binOp .neq 96 (.agg #[.string ⟨#[]⟩, .int .i64 (-7701)]) (.agg #[.string ⟨#[]⟩, .int .i64 (-7701)])).run Tryz.prog w = .ok (.bool false) w := fun _ => by kernel_rfl
  have e2 : ∀ w : World, (binOp .neq 96 (.agg #[.string ⟨#[]⟩, .int .i64 (-7702)]) (.agg #[.string ⟨#[]⟩, .int .i64 (-7702)])).run Tryz.prog w = .ok (.bool false) w := fun _ => by kernel_rfl
  have hRlt := hRX.lt
  clear hR hRX hK
  go_enter Tryz.func59, Tryz.ntmps59
  go_wp2
  generalize W.alloc (.cells #[.string ⟨#[]⟩, .int .i64 (-7701), .string ⟨#[]⟩, .int .i64 (-7702)] 96) = X at *
  generalize V 20 = vs at *
  go_loopw [4] (fun v wr => ∃ i : Nat, i ≤ vs.length ∧ v = .int .i64 (i : Int) ∧ Below X.heap.size X wr) (fun v _ => vs.length - (intOf v).toNat)
  case atStart => exact ⟨0, Nat.zero_le _, rfl, Below.refl _ _⟩
  case round =>
    obtain ⟨i, hi, rfl, hb⟩ := hrel
    have hc1 := (hb.cell (p := ⟨R, 20, none⟩) hRlt).trans hc
    by_cases hlt : i < vs.length
    · have hlt' : (i : Int) < (vs.length : Int) := by omega
      have hi0 : (0 : Int) ≤ (i : Int) := by omega
      have hlth := Hid.mk hlt
      obtain ⟨gr, cap2, hg, -⟩ := own_lit2 hown (by omega)
      injection hg with hg1 _ hg2
      subst hg1 hg2
      obtain ⟨g, n, cap, cs, f, hv, hgh, hsp, hn, hmk⟩ := hmks.out _ (List.getElem_mem hlt)
      obtain ⟨N0, rfl⟩ : ∃ N0, n = N0 + 40 := ⟨n - 40, by have : rmSp 20 = 40 := rfl; omega⟩
      have hrow : W.cell? ⟨gr, i, none⟩ = some (.slice (some ⟨g, 0, none⟩) (N0 + 40) cap) := by rw [hown.cellAt i (by omega), List.getElem?_eq_getElem hlt, hv]
      have hgrl := (hown.lt gr rfl).2
      have hgl : g < W.heap.size := (Array.getElem?_eq_some_iff.1 hgh).1
      have hr1 : Hid (∀ X', Below W.heap.size W X' → X'.cell? ⟨gr, i, none⟩ = some (.slice (some ⟨g, 0, none⟩) (N0 + 40) cap)) := ⟨fun X' h => (h.cell (p := ⟨gr, i, none⟩) hgrl).trans hrow⟩
      have hmk : Hid (∀ X', Below W.heap.size W X' → ∀ k, k < 40 → (k % 2 = 0 → X'.cell? ⟨g, (N0 + k) * 2, none⟩ = some (.string ⟨#[]⟩) ∧ X'.cell? ⟨g, (N0 + k) * 2 + 1, none⟩ = some (.int .i64 (-7701))) ∧ (k % 2 = 1 → X'.cell? ⟨g, (N0 + k) * 2, none⟩ = some (.string ⟨#[]⟩) ∧ X'.cell? ⟨g, (N0 + k) * 2 + 1, none⟩ = some (.int .i64 (-7702)))) := ⟨fun X' h k hk => by
        have hcell : ∀ k, k < 40 → ∀ i u, (rmMk 20 k)[i]? = some u → X'.cell? ⟨g, (N0 + k) * rmS 20 + i, none⟩ = some u := fun k hk i u hu => by
          rw [h.cell (p := ⟨g, (N0 + k) * rmS 20 + i, none⟩) hgl, cell_of_row _ _ _ _ _ _ hgh]
          have := hmk k hk i u hu
          rwa [show N0 + 40 - rmSp 20 = N0 from Nat.add_sub_cancel _ _] at this
        exact ⟨fun hp => ⟨(hcell k hk 0 _ (by unfold rmMk; rw [if_pos (hp)]; rfl)), (hcell k hk 1 _ (by unfold rmMk; rw [if_pos (hp)]; rfl))⟩, fun hp => ⟨(hcell k hk 0 _ (by unfold rmMk; rw [if_neg (by omega)]; rfl)), (hcell k hk 1 _ (by unfold rmMk; rw [if_neg (by omega)]; rfl))⟩⟩⟩
      have hd1 := hr1.out wr (below_of2 hbX hb)
      have hN0 : N0 ≤ 2000000 := by omega
      clear hrow hgrl hgh hv hsp hn
      go_wp2
      obtain ⟨wz, hwz⟩ : ∃ wz, wz = wr := ⟨_, rfl⟩
      rw [← hwz] at hb hc1 hd1 ⊢
      go_loopw [6] (fun v wq => ∃ k : Nat, k ≤ 40 ∧ v = .int .i64 (k : Int) ∧ Below X.heap.size X wq) (fun v _ => (41 - intOf v).toNat)
      case atStart => exact ⟨0, by omega, rfl, hb⟩
      case round =>
        clear hc1 hd1 hb hwz
        obtain ⟨k, hk, rfl, hq⟩ := hrel
        have hc1 := (hq.cell (p := ⟨R, 20, none⟩) hRlt).trans hc
        have hd1 := hr1.out _ (below_of2 hbX hq)
        have hlX : W.heap.size < X.heap.size := hXs
        by_cases hk2 : k < 40
        · have hkk : (k : Int) < 40 := by omega
          have hk0 : (0 : Int) ≤ (k : Int) := by omega
          rcases (show k % 2 = 0 ∨ k % 2 = 1 by omega) with hp | hp
          · obtain ⟨q0, q1⟩ := (hmk.out wr (below_of2 hbX hq) k hk2).1 hp
            have hp' : (k : Int) % 2 = 0 := by omega
            have n0 : ∀ o, (wr.alloc o).cell? ⟨W.heap.size, 0, none⟩ = some (.string ⟨#[]⟩) := fun o => ((hq.alloc hq.size o).cell (p := ⟨W.heap.size, 0, none⟩) hlX).trans (cell_of_row _ _ 0 _ _ _ hMx.out)
            have n1 : ∀ o, (wr.alloc o).cell? ⟨W.heap.size, 1, none⟩ = some (.int .i64 (-7701)) := fun o => ((hq.alloc hq.size o).cell (p := ⟨W.heap.size, 1, none⟩) hlX).trans (cell_of_row _ _ 1 _ _ _ hMx.out)
            clear hmk
            go_wp2
            go_roundw
            case rel => exact ⟨k + 1, by omega, by go_num, (hq.alloc hq.size _).alloc (by simp; have := hq.size; omega) _⟩
            case measure => simp [intOf]; omega
          · obtain ⟨q0, q1⟩ := (hmk.out wr (below_of2 hbX hq) k hk2).2 hp
            have hp' : (k : Int) % 2 = 1 := by omega
            have n0 : ∀ o, (wr.alloc o).cell? ⟨W.heap.size, 2, none⟩ = some (.string ⟨#[]⟩) := fun o => ((hq.alloc hq.size o).cell (p := ⟨W.heap.size, 2, none⟩) hlX).trans (cell_of_row _ _ 2 _ _ _ hMx.out)
            have n1 : ∀ o, (wr.alloc o).cell? ⟨W.heap.size, 3, none⟩ = some (.int .i64 (-7702)) := fun o => ((hq.alloc hq.size o).cell (p := ⟨W.heap.size, 3, none⟩) hlX).trans (cell_of_row _ _ 3 _ _ _ hMx.out)
            clear hmk
            go_wp2
            go_roundw
            case rel => exact ⟨k + 1, by omega, by go_num, (hq.alloc hq.size _).alloc (by simp; have := hq.size; omega) _⟩
            case measure => simp [intOf]; omega
        · obtain rfl : k = 40 := by omega
          have h1 := hlth.out
          have h2 := hcl.out
          have h3 : (i : Int) < 2000000000 := by omega
          have h4 : (0 : Int) ≤ (i : Int) := by omega
          go_wp2
          go_roundw
          case rel =>
            have h1 := hlth.out
            have h2 := hcl.out
            exact ⟨i + 1, by omega, by go_num, hq⟩
          case measure =>
            have h1 := hlth.out
            have h2 := hcl.out
            simp [intOf]
            omega
    · obtain rfl : i = vs.length := by omega
      go_wp2
      go_ret
      exact ⟨rfl, below_of2 hbX hb⟩

end Go.Proofs.YthnmjafoplfikaaGreatDoor


namespace Go.Proofs.YthnmjafoplfikaaGreatDoor
open Go.RowKit

set_option maxRecDepth 100000 in
set_option maxHeartbeats 4000000 in
theorem holdTables_rm (R lo N : Nat) (K : Nat → Value) (V : Nat → List Value) (W : World) (hN : N ≤ 2000000000) (hR : RmAt W R lo K V N) :
    Calls Tryz.prog 58 #[.pointer (some ⟨R, 0, none⟩)] W fun e W' => e = .returned (.bool true) ∧ Below W.heap.size W W' := by
  have hbX := bel_alloc W (.cells #[.string ⟨#[60, 111, 110, 101, 62]⟩, .slice none 0 0, .string ⟨#[60, 116, 119, 111, 62]⟩, .slice none 0 0] 69)
  have hMx := Hid.mk (heap_alloc_new W (.cells #[.string ⟨#[60, 111, 110, 101, 62]⟩, .slice none 0 0, .string ⟨#[60, 116, 119, 111, 62]⟩, .slice none 0 0] 69))
  have hXs : W.heap.size < (W.alloc (.cells #[.string ⟨#[60, 111, 110, 101, 62]⟩, .slice none 0 0, .string ⟨#[60, 116, 119, 111, 62]⟩, .slice none 0 0] 69)).heap.size := by simp
  obtain ⟨ka, kc, hK⟩ := own_shape (hR.own 19 (by decide))
  have hRX := hR.new hbX
  have hc := (hRX.cell (j := 19) (by decide)).1
  have hcl := Hid.mk (hR.few 19 (by decide))
  have hown := hR.own 19 (by decide)
  have hmks := Hid.mk (hR.mks 19 (by decide))
  rw [hK] at hc hown
  have e1 : ∀ w : World, (binOp .neq 9 (.string ⟨#[60, 111, 110, 101, 62]⟩) (.string ⟨#[60, 111, 110, 101, 62]⟩)).run Tryz.prog w = .ok (.bool false) w := fun _ => by kernel_rfl
  have e2 : ∀ w : World, (binOp .neq 9 (.string ⟨#[60, 116, 119, 111, 62]⟩) (.string ⟨#[60, 116, 119, 111, 62]⟩)).run Tryz.prog w = .ok (.bool false) w := fun _ => by kernel_rfl
  have hRlt := hRX.lt
  clear hR hRX hK
  go_enter Tryz.func58, Tryz.ntmps58
  go_wp2
  generalize W.alloc (.cells #[.string ⟨#[60, 111, 110, 101, 62]⟩, .slice none 0 0, .string ⟨#[60, 116, 119, 111, 62]⟩, .slice none 0 0] 69) = X at *
  generalize V 19 = vs at *
  go_loopw [4] (fun v wr => ∃ i : Nat, i ≤ vs.length ∧ v = .int .i64 (i : Int) ∧ Below X.heap.size X wr) (fun v _ => vs.length - (intOf v).toNat)
  case atStart => exact ⟨0, Nat.zero_le _, rfl, Below.refl _ _⟩
  case round =>
    obtain ⟨i, hi, rfl, hb⟩ := hrel
    have hc1 := (hb.cell (p := ⟨R, 19, none⟩) hRlt).trans hc
    by_cases hlt : i < vs.length
    · have hlt' : (i : Int) < (vs.length : Int) := by omega
      have hi0 : (0 : Int) ≤ (i : Int) := by omega
      have hlth := Hid.mk hlt
      obtain ⟨gr, cap2, hg, -⟩ := own_lit2 hown (by omega)
      injection hg with hg1 _ hg2
      subst hg1 hg2
      obtain ⟨g, n, cap, cs, f, hv, hgh, hsp, hn, hmk⟩ := hmks.out _ (List.getElem_mem hlt)
      obtain ⟨N0, rfl⟩ : ∃ N0, n = N0 + 40 := ⟨n - 40, by have : rmSp 19 = 40 := rfl; omega⟩
      have hrow : W.cell? ⟨gr, i, none⟩ = some (.slice (some ⟨g, 0, none⟩) (N0 + 40) cap) := by rw [hown.cellAt i (by omega), List.getElem?_eq_getElem hlt, hv]
      have hgrl := (hown.lt gr rfl).2
      have hgl : g < W.heap.size := (Array.getElem?_eq_some_iff.1 hgh).1
      have hr1 : Hid (∀ X', Below W.heap.size W X' → X'.cell? ⟨gr, i, none⟩ = some (.slice (some ⟨g, 0, none⟩) (N0 + 40) cap)) := ⟨fun X' h => (h.cell (p := ⟨gr, i, none⟩) hgrl).trans hrow⟩
      have hmk : Hid (∀ X', Below W.heap.size W X' → ∀ k, k < 40 → (k % 2 = 0 → X'.cell? ⟨g, (N0 + k) * 2, none⟩ = some (.string ⟨#[60, 111, 110, 101, 62]⟩) ∧ X'.cell? ⟨g, (N0 + k) * 2 + 1, none⟩ = some (.slice none 0 0)) ∧ (k % 2 = 1 → X'.cell? ⟨g, (N0 + k) * 2, none⟩ = some (.string ⟨#[60, 116, 119, 111, 62]⟩) ∧ X'.cell? ⟨g, (N0 + k) * 2 + 1, none⟩ = some (.slice none 0 0))) := ⟨fun X' h k hk => by
        have hcell : ∀ k, k < 40 → ∀ i u, (rmMk 19 k)[i]? = some u → X'.cell? ⟨g, (N0 + k) * rmS 19 + i, none⟩ = some u := fun k hk i u hu => by
          rw [h.cell (p := ⟨g, (N0 + k) * rmS 19 + i, none⟩) hgl, cell_of_row _ _ _ _ _ _ hgh]
          have := hmk k hk i u hu
          rwa [show N0 + 40 - rmSp 19 = N0 from Nat.add_sub_cancel _ _] at this
        exact ⟨fun hp => ⟨(hcell k hk 0 _ (by unfold rmMk; rw [if_pos (hp)]; rfl)), (hcell k hk 1 _ (by unfold rmMk; rw [if_pos (hp)]; rfl))⟩, fun hp => ⟨(hcell k hk 0 _ (by unfold rmMk; rw [if_neg (by omega)]; rfl)), (hcell k hk 1 _ (by unfold rmMk; rw [if_neg (by omega)]; rfl))⟩⟩⟩
      have hd1 := hr1.out wr (below_of2 hbX hb)
      have hN0 : N0 ≤ 2000000 := by omega
      clear hrow hgrl hgh hv hsp hn
      go_wp2
      obtain ⟨wz, hwz⟩ : ∃ wz, wz = wr := ⟨_, rfl⟩
      rw [← hwz] at hb hc1 hd1 ⊢
      go_loopw [6] (fun v wq => ∃ k : Nat, k ≤ 40 ∧ v = .int .i64 (k : Int) ∧ Below X.heap.size X wq) (fun v _ => (41 - intOf v).toNat)
      case atStart => exact ⟨0, by omega, rfl, hb⟩
      case round =>
        clear hc1 hd1 hb hwz
        obtain ⟨k, hk, rfl, hq⟩ := hrel
        have hc1 := (hq.cell (p := ⟨R, 19, none⟩) hRlt).trans hc
        have hd1 := hr1.out _ (below_of2 hbX hq)
        have hlX : W.heap.size < X.heap.size := hXs
        by_cases hk2 : k < 40
        · have hkk : (k : Int) < 40 := by omega
          have hk0 : (0 : Int) ≤ (k : Int) := by omega
          rcases (show k % 2 = 0 ∨ k % 2 = 1 by omega) with hp | hp
          · obtain ⟨q0, q1⟩ := (hmk.out wr (below_of2 hbX hq) k hk2).1 hp
            have hp' : (k : Int) % 2 = 0 := by omega
            have n0 : ∀ o, (wr.alloc o).cell? ⟨W.heap.size, 0, none⟩ = some (.string ⟨#[60, 111, 110, 101, 62]⟩) := fun o => ((hq.alloc hq.size o).cell (p := ⟨W.heap.size, 0, none⟩) hlX).trans (cell_of_row _ _ 0 _ _ _ hMx.out)
            have n1 : ∀ o, (wr.alloc o).cell? ⟨W.heap.size, 1, none⟩ = some (.slice none 0 0) := fun o => ((hq.alloc hq.size o).cell (p := ⟨W.heap.size, 1, none⟩) hlX).trans (cell_of_row _ _ 1 _ _ _ hMx.out)
            clear hmk
            go_wp2
            go_roundw
            case rel => exact ⟨k + 1, by omega, by go_num, (hq.alloc hq.size _).alloc (by simp; have := hq.size; omega) _⟩
            case measure => simp [intOf]; omega
          · obtain ⟨q0, q1⟩ := (hmk.out wr (below_of2 hbX hq) k hk2).2 hp
            have hp' : (k : Int) % 2 = 1 := by omega
            have n0 : ∀ o, (wr.alloc o).cell? ⟨W.heap.size, 2, none⟩ = some (.string ⟨#[60, 116, 119, 111, 62]⟩) := fun o => ((hq.alloc hq.size o).cell (p := ⟨W.heap.size, 2, none⟩) hlX).trans (cell_of_row _ _ 2 _ _ _ hMx.out)
            have n1 : ∀ o, (wr.alloc o).cell? ⟨W.heap.size, 3, none⟩ = some (.slice none 0 0) := fun o => ((hq.alloc hq.size o).cell (p := ⟨W.heap.size, 3, none⟩) hlX).trans (cell_of_row _ _ 3 _ _ _ hMx.out)
            clear hmk
            go_wp2
            go_roundw
            case rel => exact ⟨k + 1, by omega, by go_num, (hq.alloc hq.size _).alloc (by simp; have := hq.size; omega) _⟩
            case measure => simp [intOf]; omega
        · obtain rfl : k = 40 := by omega
          have h1 := hlth.out
          have h2 := hcl.out
          have h3 : (i : Int) < 2000000000 := by omega
          have h4 : (0 : Int) ≤ (i : Int) := by omega
          go_wp2
          go_roundw
          case rel =>
            have h1 := hlth.out
            have h2 := hcl.out
            exact ⟨i + 1, by omega, by go_num, hq⟩
          case measure =>
            have h1 := hlth.out
            have h2 := hcl.out
            simp [intOf]
            omega
    · obtain rfl : i = vs.length := by omega
      go_wp2
      go_ret
      exact ⟨rfl, below_of2 hbX hb⟩

end Go.Proofs.YthnmjafoplfikaaGreatDoor


namespace Go.Proofs.YthnmjafoplfikaaGreatDoor
open Go.RowKit

set_option maxRecDepth 100000 in
set_option maxHeartbeats 4000000 in
theorem holdOptions_rm (R lo N : Nat) (K : Nat → Value) (V : Nat → List Value) (W : World) (hN : N ≤ 2000000000) (hR : RmAt W R lo K V N) :
    Calls Tryz.prog 57 #[.pointer (some ⟨R, 0, none⟩)] W fun e W' => e = .returned (.bool true) ∧ Below W.heap.size W W' := by
  have hbX := bel_alloc W (.cells #[.string ⟨#[60, 111, 110, 101, 62]⟩, .slice none 0 0, .string ⟨#[60, 116, 119, 111, 62]⟩, .slice none 0 0] 66)
  have hMx := Hid.mk (heap_alloc_new W (.cells #[.string ⟨#[60, 111, 110, 101, 62]⟩, .slice none 0 0, .string ⟨#[60, 116, 119, 111, 62]⟩, .slice none 0 0] 66))
  have hXs : W.heap.size < (W.alloc (.cells #[.string ⟨#[60, 111, 110, 101, 62]⟩, .slice none 0 0, .string ⟨#[60, 116, 119, 111, 62]⟩, .slice none 0 0] 66)).heap.size := by simp
  obtain ⟨ka, kc, hK⟩ := own_shape (hR.own 18 (by decide))
  have hRX := hR.new hbX
  have hc := (hRX.cell (j := 18) (by decide)).1
  have hcl := Hid.mk (hR.few 18 (by decide))
  have hown := hR.own 18 (by decide)
  have hmks := Hid.mk (hR.mks 18 (by decide))
  rw [hK] at hc hown
  have e1 : ∀ w : World, (binOp .neq 9 (.string ⟨#[60, 111, 110, 101, 62]⟩) (.string ⟨#[60, 111, 110, 101, 62]⟩)).run Tryz.prog w = .ok (.bool false) w := fun _ => by kernel_rfl
  have e2 : ∀ w : World, (binOp .neq 9 (.string ⟨#[60, 116, 119, 111, 62]⟩) (.string ⟨#[60, 116, 119, 111, 62]⟩)).run Tryz.prog w = .ok (.bool false) w := fun _ => by kernel_rfl
  have hRlt := hRX.lt
  clear hR hRX hK
  go_enter Tryz.func57, Tryz.ntmps57
  go_wp2
  generalize W.alloc (.cells #[.string ⟨#[60, 111, 110, 101, 62]⟩, .slice none 0 0, .string ⟨#[60, 116, 119, 111, 62]⟩, .slice none 0 0] 66) = X at *
  generalize V 18 = vs at *
  go_loopw [4] (fun v wr => ∃ i : Nat, i ≤ vs.length ∧ v = .int .i64 (i : Int) ∧ Below X.heap.size X wr) (fun v _ => vs.length - (intOf v).toNat)
  case atStart => exact ⟨0, Nat.zero_le _, rfl, Below.refl _ _⟩
  case round =>
    obtain ⟨i, hi, rfl, hb⟩ := hrel
    have hc1 := (hb.cell (p := ⟨R, 18, none⟩) hRlt).trans hc
    by_cases hlt : i < vs.length
    · have hlt' : (i : Int) < (vs.length : Int) := by omega
      have hi0 : (0 : Int) ≤ (i : Int) := by omega
      have hlth := Hid.mk hlt
      obtain ⟨gr, cap2, hg, -⟩ := own_lit2 hown (by omega)
      injection hg with hg1 _ hg2
      subst hg1 hg2
      obtain ⟨g, n, cap, cs, f, hv, hgh, hsp, hn, hmk⟩ := hmks.out _ (List.getElem_mem hlt)
      obtain ⟨N0, rfl⟩ : ∃ N0, n = N0 + 40 := ⟨n - 40, by have : rmSp 18 = 40 := rfl; omega⟩
      have hrow : W.cell? ⟨gr, i, none⟩ = some (.slice (some ⟨g, 0, none⟩) (N0 + 40) cap) := by rw [hown.cellAt i (by omega), List.getElem?_eq_getElem hlt, hv]
      have hgrl := (hown.lt gr rfl).2
      have hgl : g < W.heap.size := (Array.getElem?_eq_some_iff.1 hgh).1
      have hr1 : Hid (∀ X', Below W.heap.size W X' → X'.cell? ⟨gr, i, none⟩ = some (.slice (some ⟨g, 0, none⟩) (N0 + 40) cap)) := ⟨fun X' h => (h.cell (p := ⟨gr, i, none⟩) hgrl).trans hrow⟩
      have hmk : Hid (∀ X', Below W.heap.size W X' → ∀ k, k < 40 → (k % 2 = 0 → X'.cell? ⟨g, (N0 + k) * 2, none⟩ = some (.string ⟨#[60, 111, 110, 101, 62]⟩) ∧ X'.cell? ⟨g, (N0 + k) * 2 + 1, none⟩ = some (.slice none 0 0)) ∧ (k % 2 = 1 → X'.cell? ⟨g, (N0 + k) * 2, none⟩ = some (.string ⟨#[60, 116, 119, 111, 62]⟩) ∧ X'.cell? ⟨g, (N0 + k) * 2 + 1, none⟩ = some (.slice none 0 0))) := ⟨fun X' h k hk => by
        have hcell : ∀ k, k < 40 → ∀ i u, (rmMk 18 k)[i]? = some u → X'.cell? ⟨g, (N0 + k) * rmS 18 + i, none⟩ = some u := fun k hk i u hu => by
          rw [h.cell (p := ⟨g, (N0 + k) * rmS 18 + i, none⟩) hgl, cell_of_row _ _ _ _ _ _ hgh]
          have := hmk k hk i u hu
          rwa [show N0 + 40 - rmSp 18 = N0 from Nat.add_sub_cancel _ _] at this
        exact ⟨fun hp => ⟨(hcell k hk 0 _ (by unfold rmMk; rw [if_pos (hp)]; rfl)), (hcell k hk 1 _ (by unfold rmMk; rw [if_pos (hp)]; rfl))⟩, fun hp => ⟨(hcell k hk 0 _ (by unfold rmMk; rw [if_neg (by omega)]; rfl)), (hcell k hk 1 _ (by unfold rmMk; rw [if_neg (by omega)]; rfl))⟩⟩⟩
      have hd1 := hr1.out wr (below_of2 hbX hb)
      have hN0 : N0 ≤ 2000000 := by omega
      clear hrow hgrl hgh hv hsp hn
      go_wp2
      obtain ⟨wz, hwz⟩ : ∃ wz, wz = wr := ⟨_, rfl⟩
      rw [← hwz] at hb hc1 hd1 ⊢
      go_loopw [6] (fun v wq => ∃ k : Nat, k ≤ 40 ∧ v = .int .i64 (k : Int) ∧ Below X.heap.size X wq) (fun v _ => (41 - intOf v).toNat)
      case atStart => exact ⟨0, by omega, rfl, hb⟩
      case round =>
        clear hc1 hd1 hb hwz
        obtain ⟨k, hk, rfl, hq⟩ := hrel
        have hc1 := (hq.cell (p := ⟨R, 18, none⟩) hRlt).trans hc
        have hd1 := hr1.out _ (below_of2 hbX hq)
        have hlX : W.heap.size < X.heap.size := hXs
        by_cases hk2 : k < 40
        · have hkk : (k : Int) < 40 := by omega
          have hk0 : (0 : Int) ≤ (k : Int) := by omega
          rcases (show k % 2 = 0 ∨ k % 2 = 1 by omega) with hp | hp
          · obtain ⟨q0, q1⟩ := (hmk.out wr (below_of2 hbX hq) k hk2).1 hp
            have hp' : (k : Int) % 2 = 0 := by omega
            have n0 : ∀ o, (wr.alloc o).cell? ⟨W.heap.size, 0, none⟩ = some (.string ⟨#[60, 111, 110, 101, 62]⟩) := fun o => ((hq.alloc hq.size o).cell (p := ⟨W.heap.size, 0, none⟩) hlX).trans (cell_of_row _ _ 0 _ _ _ hMx.out)
            have n1 : ∀ o, (wr.alloc o).cell? ⟨W.heap.size, 1, none⟩ = some (.slice none 0 0) := fun o => ((hq.alloc hq.size o).cell (p := ⟨W.heap.size, 1, none⟩) hlX).trans (cell_of_row _ _ 1 _ _ _ hMx.out)
            clear hmk
            go_wp2
            go_roundw
            case rel => exact ⟨k + 1, by omega, by go_num, (hq.alloc hq.size _).alloc (by simp; have := hq.size; omega) _⟩
            case measure => simp [intOf]; omega
          · obtain ⟨q0, q1⟩ := (hmk.out wr (below_of2 hbX hq) k hk2).2 hp
            have hp' : (k : Int) % 2 = 1 := by omega
            have n0 : ∀ o, (wr.alloc o).cell? ⟨W.heap.size, 2, none⟩ = some (.string ⟨#[60, 116, 119, 111, 62]⟩) := fun o => ((hq.alloc hq.size o).cell (p := ⟨W.heap.size, 2, none⟩) hlX).trans (cell_of_row _ _ 2 _ _ _ hMx.out)
            have n1 : ∀ o, (wr.alloc o).cell? ⟨W.heap.size, 3, none⟩ = some (.slice none 0 0) := fun o => ((hq.alloc hq.size o).cell (p := ⟨W.heap.size, 3, none⟩) hlX).trans (cell_of_row _ _ 3 _ _ _ hMx.out)
            clear hmk
            go_wp2
            go_roundw
            case rel => exact ⟨k + 1, by omega, by go_num, (hq.alloc hq.size _).alloc (by simp; have := hq.size; omega) _⟩
            case measure => simp [intOf]; omega
        · obtain rfl : k = 40 := by omega
          have h1 := hlth.out
          have h2 := hcl.out
          have h3 : (i : Int) < 2000000000 := by omega
          have h4 : (0 : Int) ≤ (i : Int) := by omega
          go_wp2
          go_roundw
          case rel =>
            have h1 := hlth.out
            have h2 := hcl.out
            exact ⟨i + 1, by omega, by go_num, hq⟩
          case measure =>
            have h1 := hlth.out
            have h2 := hcl.out
            simp [intOf]
            omega
    · obtain rfl : i = vs.length := by omega
      go_wp2
      go_ret
      exact ⟨rfl, below_of2 hbX hb⟩

end Go.Proofs.YthnmjafoplfikaaGreatDoor


namespace Go.Proofs.YthnmjafoplfikaaGreatDoor
open Go.RowKit

set_option maxRecDepth 100000 in
set_option maxHeartbeats 4000000 in
theorem holdChecks_rm (R lo N : Nat) (K : Nat → Value) (V : Nat → List Value) (W : World) (hN : N ≤ 2000000000) (hR : RmAt W R lo K V N) :
    Calls Tryz.prog 56 #[.pointer (some ⟨R, 0, none⟩)] W fun e W' => e = .returned (.bool true) ∧ Below W.heap.size W W' := by
  have hbX := bel_alloc W (.cells #[.string ⟨#[]⟩, .bool false, .int .i64 (-7701), .int .i64 (0), .int .i64 (0), .int .i64 (0), .int .i64 (0), .slice none 0 0, .string ⟨#[]⟩, .string ⟨#[]⟩, .bool false, .int .i64 (-7702), .int .i64 (0), .int .i64 (0), .int .i64 (0), .int .i64 (0), .slice none 0 0, .string ⟨#[]⟩] 75)
  have hMx := Hid.mk (heap_alloc_new W (.cells #[.string ⟨#[]⟩, .bool false, .int .i64 (-7701), .int .i64 (0), .int .i64 (0), .int .i64 (0), .int .i64 (0), .slice none 0 0, .string ⟨#[]⟩, .string ⟨#[]⟩, .bool false, .int .i64 (-7702), .int .i64 (0), .int .i64 (0), .int .i64 (0), .int .i64 (0), .slice none 0 0, .string ⟨#[]⟩] 75))
  have hXs : W.heap.size < (W.alloc (.cells #[.string ⟨#[]⟩, .bool false, .int .i64 (-7701), .int .i64 (0), .int .i64 (0), .int .i64 (0), .int .i64 (0), .slice none 0 0, .string ⟨#[]⟩, .string ⟨#[]⟩, .bool false, .int .i64 (-7702), .int .i64 (0), .int .i64 (0), .int .i64 (0), .int .i64 (0), .slice none 0 0, .string ⟨#[]⟩] 75)).heap.size := by simp
  obtain ⟨ka, kc, hK⟩ := own_shape (hR.own 17 (by decide))
  have hRX := hR.new hbX
  have hc := (hRX.cell (j := 17) (by decide)).1
  have hcl := Hid.mk (hR.few 17 (by decide))
  have hown := hR.own 17 (by decide)
  have hmks := Hid.mk (hR.mks 17 (by decide))
  rw [hK] at hc hown
  have e1 : ∀ w : World, (binOp .neq 9 (.string ⟨#[]⟩) (.string ⟨#[]⟩)).run Tryz.prog w = .ok (.bool false) w := fun _ => by kernel_rfl
  have hRlt := hRX.lt
  clear hR hRX hK
  go_enter Tryz.func56, Tryz.ntmps56
  go_wp2
  generalize W.alloc (.cells #[.string ⟨#[]⟩, .bool false, .int .i64 (-7701), .int .i64 (0), .int .i64 (0), .int .i64 (0), .int .i64 (0), .slice none 0 0, .string ⟨#[]⟩, .string ⟨#[]⟩, .bool false, .int .i64 (-7702), .int .i64 (0), .int .i64 (0), .int .i64 (0), .int .i64 (0), .slice none 0 0, .string ⟨#[]⟩] 75) = X at *
  generalize V 17 = vs at *
  go_loopw [4] (fun v wr => ∃ i : Nat, i ≤ vs.length ∧ v = .int .i64 (i : Int) ∧ Below X.heap.size X wr) (fun v _ => vs.length - (intOf v).toNat)
  case atStart => exact ⟨0, Nat.zero_le _, rfl, Below.refl _ _⟩
  case round =>
    obtain ⟨i, hi, rfl, hb⟩ := hrel
    have hc1 := (hb.cell (p := ⟨R, 17, none⟩) hRlt).trans hc
    by_cases hlt : i < vs.length
    · have hlt' : (i : Int) < (vs.length : Int) := by omega
      have hi0 : (0 : Int) ≤ (i : Int) := by omega
      have hlth := Hid.mk hlt
      obtain ⟨gr, cap2, hg, -⟩ := own_lit2 hown (by omega)
      injection hg with hg1 _ hg2
      subst hg1 hg2
      obtain ⟨g, n, cap, cs, f, hv, hgh, hsp, hn, hmk⟩ := hmks.out _ (List.getElem_mem hlt)
      obtain ⟨N0, rfl⟩ : ∃ N0, n = N0 + 40 := ⟨n - 40, by have : rmSp 17 = 40 := rfl; omega⟩
      have hrow : W.cell? ⟨gr, i, none⟩ = some (.slice (some ⟨g, 0, none⟩) (N0 + 40) cap) := by rw [hown.cellAt i (by omega), List.getElem?_eq_getElem hlt, hv]
      have hgrl := (hown.lt gr rfl).2
      have hgl : g < W.heap.size := (Array.getElem?_eq_some_iff.1 hgh).1
      have hr1 : Hid (∀ X', Below W.heap.size W X' → X'.cell? ⟨gr, i, none⟩ = some (.slice (some ⟨g, 0, none⟩) (N0 + 40) cap)) := ⟨fun X' h => (h.cell (p := ⟨gr, i, none⟩) hgrl).trans hrow⟩
      have hmk : Hid (∀ X', Below W.heap.size W X' → ∀ k, k < 40 → (k % 2 = 0 → X'.cell? ⟨g, (N0 + k) * 9, none⟩ = some (.string ⟨#[]⟩) ∧ X'.cell? ⟨g, (N0 + k) * 9 + 1, none⟩ = some (.bool false) ∧ X'.cell? ⟨g, (N0 + k) * 9 + 2, none⟩ = some (.int .i64 (-7701)) ∧ X'.cell? ⟨g, (N0 + k) * 9 + 3, none⟩ = some (.int .i64 (0)) ∧ X'.cell? ⟨g, (N0 + k) * 9 + 4, none⟩ = some (.int .i64 (0)) ∧ X'.cell? ⟨g, (N0 + k) * 9 + 5, none⟩ = some (.int .i64 (0)) ∧ X'.cell? ⟨g, (N0 + k) * 9 + 6, none⟩ = some (.int .i64 (0)) ∧ X'.cell? ⟨g, (N0 + k) * 9 + 7, none⟩ = some (.slice none 0 0) ∧ X'.cell? ⟨g, (N0 + k) * 9 + 8, none⟩ = some (.string ⟨#[]⟩)) ∧ (k % 2 = 1 → X'.cell? ⟨g, (N0 + k) * 9, none⟩ = some (.string ⟨#[]⟩) ∧ X'.cell? ⟨g, (N0 + k) * 9 + 1, none⟩ = some (.bool false) ∧ X'.cell? ⟨g, (N0 + k) * 9 + 2, none⟩ = some (.int .i64 (-7702)) ∧ X'.cell? ⟨g, (N0 + k) * 9 + 3, none⟩ = some (.int .i64 (0)) ∧ X'.cell? ⟨g, (N0 + k) * 9 + 4, none⟩ = some (.int .i64 (0)) ∧ X'.cell? ⟨g, (N0 + k) * 9 + 5, none⟩ = some (.int .i64 (0)) ∧ X'.cell? ⟨g, (N0 + k) * 9 + 6, none⟩ = some (.int .i64 (0)) ∧ X'.cell? ⟨g, (N0 + k) * 9 + 7, none⟩ = some (.slice none 0 0) ∧ X'.cell? ⟨g, (N0 + k) * 9 + 8, none⟩ = some (.string ⟨#[]⟩))) := ⟨fun X' h k hk => by
        have hcell : ∀ k, k < 40 → ∀ i u, (rmMk 17 k)[i]? = some u → X'.cell? ⟨g, (N0 + k) * rmS 17 + i, none⟩ = some u := fun k hk i u hu => by
          rw [h.cell (p := ⟨g, (N0 + k) * rmS 17 + i, none⟩) hgl, cell_of_row _ _ _ _ _ _ hgh]
          have := hmk k hk i u hu
          rwa [show N0 + 40 - rmSp 17 = N0 from Nat.add_sub_cancel _ _] at this
        exact ⟨fun hp => ⟨(hcell k hk 0 _ (by unfold rmMk; rw [if_pos (hp)]; rfl)), (hcell k hk 1 _ (by unfold rmMk; rw [if_pos (hp)]; rfl)), (hcell k hk 2 _ (by unfold rmMk; rw [if_pos (hp)]; rfl)), (hcell k hk 3 _ (by unfold rmMk; rw [if_pos (hp)]; rfl)), (hcell k hk 4 _ (by unfold rmMk; rw [if_pos (hp)]; rfl)), (hcell k hk 5 _ (by unfold rmMk; rw [if_pos (hp)]; rfl)), (hcell k hk 6 _ (by unfold rmMk; rw [if_pos (hp)]; rfl)), (hcell k hk 7 _ (by unfold rmMk; rw [if_pos (hp)]; rfl)), (hcell k hk 8 _ (by unfold rmMk; rw [if_pos (hp)]; rfl))⟩, fun hp => ⟨(hcell k hk 0 _ (by unfold rmMk; rw [if_neg (by omega)]; rfl)), (hcell k hk 1 _ (by unfold rmMk; rw [if_neg (by omega)]; rfl)), (hcell k hk 2 _ (by unfold rmMk; rw [if_neg (by omega)]; rfl)), (hcell k hk 3 _ (by unfold rmMk; rw [if_neg (by omega)]; rfl)), (hcell k hk 4 _ (by unfold rmMk; rw [if_neg (by omega)]; rfl)), (hcell k hk 5 _ (by unfold rmMk; rw [if_neg (by omega)]; rfl)), (hcell k hk 6 _ (by unfold rmMk; rw [if_neg (by omega)]; rfl)), (hcell k hk 7 _ (by unfold rmMk; rw [if_neg (by omega)]; rfl)), (hcell k hk 8 _ (by unfold rmMk; rw [if_neg (by omega)]; rfl))⟩⟩⟩
      have hd1 := hr1.out wr (below_of2 hbX hb)
      have hN0 : N0 ≤ 2000000 := by omega
      clear hrow hgrl hgh hv hsp hn
      go_wp2
      obtain ⟨wz, hwz⟩ : ∃ wz, wz = wr := ⟨_, rfl⟩
      rw [← hwz] at hb hc1 hd1 ⊢
      go_loopw [6] (fun v wq => ∃ k : Nat, k ≤ 40 ∧ v = .int .i64 (k : Int) ∧ Below X.heap.size X wq) (fun v _ => (41 - intOf v).toNat)
      case atStart => exact ⟨0, by omega, rfl, hb⟩
      case round =>
        clear hc1 hd1 hb hwz
        obtain ⟨k, hk, rfl, hq⟩ := hrel
        have hc1 := (hq.cell (p := ⟨R, 17, none⟩) hRlt).trans hc
        have hd1 := hr1.out _ (below_of2 hbX hq)
        have hlX : W.heap.size < X.heap.size := hXs
        by_cases hk2 : k < 40
        · have hkk : (k : Int) < 40 := by omega
          have hk0 : (0 : Int) ≤ (k : Int) := by omega
          rcases (show k % 2 = 0 ∨ k % 2 = 1 by omega) with hp | hp
          · obtain ⟨q0, q1, q2, q3, q4, q5, q6, q7, q8⟩ := (hmk.out wr (below_of2 hbX hq) k hk2).1 hp
            have hp' : (k : Int) % 2 = 0 := by omega
            have n0 : ∀ o, (wr.alloc o).cell? ⟨W.heap.size, 0, none⟩ = some (.string ⟨#[]⟩) := fun o => ((hq.alloc hq.size o).cell (p := ⟨W.heap.size, 0, none⟩) hlX).trans (cell_of_row _ _ 0 _ _ _ hMx.out)
            have n1 : ∀ o, (wr.alloc o).cell? ⟨W.heap.size, 1, none⟩ = some (.bool false) := fun o => ((hq.alloc hq.size o).cell (p := ⟨W.heap.size, 1, none⟩) hlX).trans (cell_of_row _ _ 1 _ _ _ hMx.out)
            have n2 : ∀ o, (wr.alloc o).cell? ⟨W.heap.size, 2, none⟩ = some (.int .i64 (-7701)) := fun o => ((hq.alloc hq.size o).cell (p := ⟨W.heap.size, 2, none⟩) hlX).trans (cell_of_row _ _ 2 _ _ _ hMx.out)
            have n3 : ∀ o, (wr.alloc o).cell? ⟨W.heap.size, 3, none⟩ = some (.int .i64 (0)) := fun o => ((hq.alloc hq.size o).cell (p := ⟨W.heap.size, 3, none⟩) hlX).trans (cell_of_row _ _ 3 _ _ _ hMx.out)
            have n4 : ∀ o, (wr.alloc o).cell? ⟨W.heap.size, 4, none⟩ = some (.int .i64 (0)) := fun o => ((hq.alloc hq.size o).cell (p := ⟨W.heap.size, 4, none⟩) hlX).trans (cell_of_row _ _ 4 _ _ _ hMx.out)
            have n5 : ∀ o, (wr.alloc o).cell? ⟨W.heap.size, 5, none⟩ = some (.int .i64 (0)) := fun o => ((hq.alloc hq.size o).cell (p := ⟨W.heap.size, 5, none⟩) hlX).trans (cell_of_row _ _ 5 _ _ _ hMx.out)
            have n6 : ∀ o, (wr.alloc o).cell? ⟨W.heap.size, 6, none⟩ = some (.int .i64 (0)) := fun o => ((hq.alloc hq.size o).cell (p := ⟨W.heap.size, 6, none⟩) hlX).trans (cell_of_row _ _ 6 _ _ _ hMx.out)
            have n7 : ∀ o, (wr.alloc o).cell? ⟨W.heap.size, 7, none⟩ = some (.slice none 0 0) := fun o => ((hq.alloc hq.size o).cell (p := ⟨W.heap.size, 7, none⟩) hlX).trans (cell_of_row _ _ 7 _ _ _ hMx.out)
            have n8 : ∀ o, (wr.alloc o).cell? ⟨W.heap.size, 8, none⟩ = some (.string ⟨#[]⟩) := fun o => ((hq.alloc hq.size o).cell (p := ⟨W.heap.size, 8, none⟩) hlX).trans (cell_of_row _ _ 8 _ _ _ hMx.out)
            clear hmk
            go_wp2
            go_roundw
            case rel => exact ⟨k + 1, by omega, by go_num, (hq.alloc hq.size _).alloc (by simp; have := hq.size; omega) _⟩
            case measure => simp [intOf]; omega
          · obtain ⟨q0, q1, q2, q3, q4, q5, q6, q7, q8⟩ := (hmk.out wr (below_of2 hbX hq) k hk2).2 hp
            have hp' : (k : Int) % 2 = 1 := by omega
            have n0 : ∀ o, (wr.alloc o).cell? ⟨W.heap.size, 9, none⟩ = some (.string ⟨#[]⟩) := fun o => ((hq.alloc hq.size o).cell (p := ⟨W.heap.size, 9, none⟩) hlX).trans (cell_of_row _ _ 9 _ _ _ hMx.out)
            have n1 : ∀ o, (wr.alloc o).cell? ⟨W.heap.size, 10, none⟩ = some (.bool false) := fun o => ((hq.alloc hq.size o).cell (p := ⟨W.heap.size, 10, none⟩) hlX).trans (cell_of_row _ _ 10 _ _ _ hMx.out)
            have n2 : ∀ o, (wr.alloc o).cell? ⟨W.heap.size, 11, none⟩ = some (.int .i64 (-7702)) := fun o => ((hq.alloc hq.size o).cell (p := ⟨W.heap.size, 11, none⟩) hlX).trans (cell_of_row _ _ 11 _ _ _ hMx.out)
            have n3 : ∀ o, (wr.alloc o).cell? ⟨W.heap.size, 12, none⟩ = some (.int .i64 (0)) := fun o => ((hq.alloc hq.size o).cell (p := ⟨W.heap.size, 12, none⟩) hlX).trans (cell_of_row _ _ 12 _ _ _ hMx.out)
            have n4 : ∀ o, (wr.alloc o).cell? ⟨W.heap.size, 13, none⟩ = some (.int .i64 (0)) := fun o => ((hq.alloc hq.size o).cell (p := ⟨W.heap.size, 13, none⟩) hlX).trans (cell_of_row _ _ 13 _ _ _ hMx.out)
            have n5 : ∀ o, (wr.alloc o).cell? ⟨W.heap.size, 14, none⟩ = some (.int .i64 (0)) := fun o => ((hq.alloc hq.size o).cell (p := ⟨W.heap.size, 14, none⟩) hlX).trans (cell_of_row _ _ 14 _ _ _ hMx.out)
            have n6 : ∀ o, (wr.alloc o).cell? ⟨W.heap.size, 15, none⟩ = some (.int .i64 (0)) := fun o => ((hq.alloc hq.size o).cell (p := ⟨W.heap.size, 15, none⟩) hlX).trans (cell_of_row _ _ 15 _ _ _ hMx.out)
            have n7 : ∀ o, (wr.alloc o).cell? ⟨W.heap.size, 16, none⟩ = some (.slice none 0 0) := fun o => ((hq.alloc hq.size o).cell (p := ⟨W.heap.size, 16, none⟩) hlX).trans (cell_of_row _ _ 16 _ _ _ hMx.out)
            have n8 : ∀ o, (wr.alloc o).cell? ⟨W.heap.size, 17, none⟩ = some (.string ⟨#[]⟩) := fun o => ((hq.alloc hq.size o).cell (p := ⟨W.heap.size, 17, none⟩) hlX).trans (cell_of_row _ _ 17 _ _ _ hMx.out)
            clear hmk
            go_wp2
            go_roundw
            case rel => exact ⟨k + 1, by omega, by go_num, (hq.alloc hq.size _).alloc (by simp; have := hq.size; omega) _⟩
            case measure => simp [intOf]; omega
        · obtain rfl : k = 40 := by omega
          have h1 := hlth.out
          have h2 := hcl.out
          have h3 : (i : Int) < 2000000000 := by omega
          have h4 : (0 : Int) ≤ (i : Int) := by omega
          go_wp2
          go_roundw
          case rel =>
            have h1 := hlth.out
            have h2 := hcl.out
            exact ⟨i + 1, by omega, by go_num, hq⟩
          case measure =>
            have h1 := hlth.out
            have h2 := hcl.out
            simp [intOf]
            omega
    · obtain rfl : i = vs.length := by omega
      go_wp2
      go_ret
      exact ⟨rfl, below_of2 hbX hb⟩

end Go.Proofs.YthnmjafoplfikaaGreatDoor


namespace Go.Proofs.YthnmjafoplfikaaGreatDoor
open Go.RowKit

set_option maxRecDepth 100000 in
set_option maxHeartbeats 4000000 in
theorem holdLines_rm (R lo N : Nat) (K : Nat → Value) (V : Nat → List Value) (W : World) (hN : N ≤ 2000000000) (hR : RmAt W R lo K V N) :
    Calls Tryz.prog 55 #[.pointer (some ⟨R, 0, none⟩)] W fun e W' => e = .returned (.bool true) ∧ Below W.heap.size W W' := by
  have hbX := bel_alloc W (.cells #[.string ⟨#[]⟩, .bool false, .bool false, .int .i64 (-7701), .int .i64 (0), .int .i64 (0), .slice none 0 0, .string ⟨#[]⟩, .bool false, .bool false, .int .i64 (-7702), .int .i64 (0), .int .i64 (0), .slice none 0 0] 78)
  have hMx := Hid.mk (heap_alloc_new W (.cells #[.string ⟨#[]⟩, .bool false, .bool false, .int .i64 (-7701), .int .i64 (0), .int .i64 (0), .slice none 0 0, .string ⟨#[]⟩, .bool false, .bool false, .int .i64 (-7702), .int .i64 (0), .int .i64 (0), .slice none 0 0] 78))
  have hXs : W.heap.size < (W.alloc (.cells #[.string ⟨#[]⟩, .bool false, .bool false, .int .i64 (-7701), .int .i64 (0), .int .i64 (0), .slice none 0 0, .string ⟨#[]⟩, .bool false, .bool false, .int .i64 (-7702), .int .i64 (0), .int .i64 (0), .slice none 0 0] 78)).heap.size := by simp
  obtain ⟨ka, kc, hK⟩ := own_shape (hR.own 16 (by decide))
  have hRX := hR.new hbX
  have hc := (hRX.cell (j := 16) (by decide)).1
  have hcl := Hid.mk (hR.few 16 (by decide))
  have hown := hR.own 16 (by decide)
  have hmks := Hid.mk (hR.mks 16 (by decide))
  rw [hK] at hc hown

  have hRlt := hRX.lt
  clear hR hRX hK
  go_enter Tryz.func55, Tryz.ntmps55
  go_wp2
  generalize W.alloc (.cells #[.string ⟨#[]⟩, .bool false, .bool false, .int .i64 (-7701), .int .i64 (0), .int .i64 (0), .slice none 0 0, .string ⟨#[]⟩, .bool false, .bool false, .int .i64 (-7702), .int .i64 (0), .int .i64 (0), .slice none 0 0] 78) = X at *
  generalize V 16 = vs at *
  go_loopw [4] (fun v wr => ∃ i : Nat, i ≤ vs.length ∧ v = .int .i64 (i : Int) ∧ Below X.heap.size X wr) (fun v _ => vs.length - (intOf v).toNat)
  case atStart => exact ⟨0, Nat.zero_le _, rfl, Below.refl _ _⟩
  case round =>
    obtain ⟨i, hi, rfl, hb⟩ := hrel
    have hc1 := (hb.cell (p := ⟨R, 16, none⟩) hRlt).trans hc
    by_cases hlt : i < vs.length
    · have hlt' : (i : Int) < (vs.length : Int) := by omega
      have hi0 : (0 : Int) ≤ (i : Int) := by omega
      have hlth := Hid.mk hlt
      obtain ⟨gr, cap2, hg, -⟩ := own_lit2 hown (by omega)
      injection hg with hg1 _ hg2
      subst hg1 hg2
      obtain ⟨g, n, cap, cs, f, hv, hgh, hsp, hn, hmk⟩ := hmks.out _ (List.getElem_mem hlt)
      obtain ⟨N0, rfl⟩ : ∃ N0, n = N0 + 40 := ⟨n - 40, by have : rmSp 16 = 40 := rfl; omega⟩
      have hrow : W.cell? ⟨gr, i, none⟩ = some (.slice (some ⟨g, 0, none⟩) (N0 + 40) cap) := by rw [hown.cellAt i (by omega), List.getElem?_eq_getElem hlt, hv]
      have hgrl := (hown.lt gr rfl).2
      have hgl : g < W.heap.size := (Array.getElem?_eq_some_iff.1 hgh).1
      have hr1 : Hid (∀ X', Below W.heap.size W X' → X'.cell? ⟨gr, i, none⟩ = some (.slice (some ⟨g, 0, none⟩) (N0 + 40) cap)) := ⟨fun X' h => (h.cell (p := ⟨gr, i, none⟩) hgrl).trans hrow⟩
      have hmk : Hid (∀ X', Below W.heap.size W X' → ∀ k, k < 40 → (k % 2 = 0 → X'.cell? ⟨g, (N0 + k) * 7, none⟩ = some (.string ⟨#[]⟩) ∧ X'.cell? ⟨g, (N0 + k) * 7 + 1, none⟩ = some (.bool false) ∧ X'.cell? ⟨g, (N0 + k) * 7 + 2, none⟩ = some (.bool false) ∧ X'.cell? ⟨g, (N0 + k) * 7 + 3, none⟩ = some (.int .i64 (-7701)) ∧ X'.cell? ⟨g, (N0 + k) * 7 + 4, none⟩ = some (.int .i64 (0)) ∧ X'.cell? ⟨g, (N0 + k) * 7 + 5, none⟩ = some (.int .i64 (0)) ∧ X'.cell? ⟨g, (N0 + k) * 7 + 6, none⟩ = some (.slice none 0 0)) ∧ (k % 2 = 1 → X'.cell? ⟨g, (N0 + k) * 7, none⟩ = some (.string ⟨#[]⟩) ∧ X'.cell? ⟨g, (N0 + k) * 7 + 1, none⟩ = some (.bool false) ∧ X'.cell? ⟨g, (N0 + k) * 7 + 2, none⟩ = some (.bool false) ∧ X'.cell? ⟨g, (N0 + k) * 7 + 3, none⟩ = some (.int .i64 (-7702)) ∧ X'.cell? ⟨g, (N0 + k) * 7 + 4, none⟩ = some (.int .i64 (0)) ∧ X'.cell? ⟨g, (N0 + k) * 7 + 5, none⟩ = some (.int .i64 (0)) ∧ X'.cell? ⟨g, (N0 + k) * 7 + 6, none⟩ = some (.slice none 0 0))) := ⟨fun X' h k hk => by
        have hcell : ∀ k, k < 40 → ∀ i u, (rmMk 16 k)[i]? = some u → X'.cell? ⟨g, (N0 + k) * rmS 16 + i, none⟩ = some u := fun k hk i u hu => by
          rw [h.cell (p := ⟨g, (N0 + k) * rmS 16 + i, none⟩) hgl, cell_of_row _ _ _ _ _ _ hgh]
          have := hmk k hk i u hu
          rwa [show N0 + 40 - rmSp 16 = N0 from Nat.add_sub_cancel _ _] at this
        exact ⟨fun hp => ⟨(hcell k hk 0 _ (by unfold rmMk; rw [if_pos (hp)]; rfl)), (hcell k hk 1 _ (by unfold rmMk; rw [if_pos (hp)]; rfl)), (hcell k hk 2 _ (by unfold rmMk; rw [if_pos (hp)]; rfl)), (hcell k hk 3 _ (by unfold rmMk; rw [if_pos (hp)]; rfl)), (hcell k hk 4 _ (by unfold rmMk; rw [if_pos (hp)]; rfl)), (hcell k hk 5 _ (by unfold rmMk; rw [if_pos (hp)]; rfl)), (hcell k hk 6 _ (by unfold rmMk; rw [if_pos (hp)]; rfl))⟩, fun hp => ⟨(hcell k hk 0 _ (by unfold rmMk; rw [if_neg (by omega)]; rfl)), (hcell k hk 1 _ (by unfold rmMk; rw [if_neg (by omega)]; rfl)), (hcell k hk 2 _ (by unfold rmMk; rw [if_neg (by omega)]; rfl)), (hcell k hk 3 _ (by unfold rmMk; rw [if_neg (by omega)]; rfl)), (hcell k hk 4 _ (by unfold rmMk; rw [if_neg (by omega)]; rfl)), (hcell k hk 5 _ (by unfold rmMk; rw [if_neg (by omega)]; rfl)), (hcell k hk 6 _ (by unfold rmMk; rw [if_neg (by omega)]; rfl))⟩⟩⟩
      have hd1 := hr1.out wr (below_of2 hbX hb)
      have hN0 : N0 ≤ 2000000 := by omega
      clear hrow hgrl hgh hv hsp hn
      go_wp2
      obtain ⟨wz, hwz⟩ : ∃ wz, wz = wr := ⟨_, rfl⟩
      rw [← hwz] at hb hc1 hd1 ⊢
      go_loopw [6] (fun v wq => ∃ k : Nat, k ≤ 40 ∧ v = .int .i64 (k : Int) ∧ Below X.heap.size X wq) (fun v _ => (41 - intOf v).toNat)
      case atStart => exact ⟨0, by omega, rfl, hb⟩
      case round =>
        clear hc1 hd1 hb hwz
        obtain ⟨k, hk, rfl, hq⟩ := hrel
        have hc1 := (hq.cell (p := ⟨R, 16, none⟩) hRlt).trans hc
        have hd1 := hr1.out _ (below_of2 hbX hq)
        have hlX : W.heap.size < X.heap.size := hXs
        by_cases hk2 : k < 40
        · have hkk : (k : Int) < 40 := by omega
          have hk0 : (0 : Int) ≤ (k : Int) := by omega
          rcases (show k % 2 = 0 ∨ k % 2 = 1 by omega) with hp | hp
          · obtain ⟨q0, q1, q2, q3, q4, q5, q6⟩ := (hmk.out wr (below_of2 hbX hq) k hk2).1 hp
            have hp' : (k : Int) % 2 = 0 := by omega
            have n0 : ∀ o, (wr.alloc o).cell? ⟨W.heap.size, 0, none⟩ = some (.string ⟨#[]⟩) := fun o => ((hq.alloc hq.size o).cell (p := ⟨W.heap.size, 0, none⟩) hlX).trans (cell_of_row _ _ 0 _ _ _ hMx.out)
            have n1 : ∀ o, (wr.alloc o).cell? ⟨W.heap.size, 1, none⟩ = some (.bool false) := fun o => ((hq.alloc hq.size o).cell (p := ⟨W.heap.size, 1, none⟩) hlX).trans (cell_of_row _ _ 1 _ _ _ hMx.out)
            have n2 : ∀ o, (wr.alloc o).cell? ⟨W.heap.size, 2, none⟩ = some (.bool false) := fun o => ((hq.alloc hq.size o).cell (p := ⟨W.heap.size, 2, none⟩) hlX).trans (cell_of_row _ _ 2 _ _ _ hMx.out)
            have n3 : ∀ o, (wr.alloc o).cell? ⟨W.heap.size, 3, none⟩ = some (.int .i64 (-7701)) := fun o => ((hq.alloc hq.size o).cell (p := ⟨W.heap.size, 3, none⟩) hlX).trans (cell_of_row _ _ 3 _ _ _ hMx.out)
            have n4 : ∀ o, (wr.alloc o).cell? ⟨W.heap.size, 4, none⟩ = some (.int .i64 (0)) := fun o => ((hq.alloc hq.size o).cell (p := ⟨W.heap.size, 4, none⟩) hlX).trans (cell_of_row _ _ 4 _ _ _ hMx.out)
            have n5 : ∀ o, (wr.alloc o).cell? ⟨W.heap.size, 5, none⟩ = some (.int .i64 (0)) := fun o => ((hq.alloc hq.size o).cell (p := ⟨W.heap.size, 5, none⟩) hlX).trans (cell_of_row _ _ 5 _ _ _ hMx.out)
            have n6 : ∀ o, (wr.alloc o).cell? ⟨W.heap.size, 6, none⟩ = some (.slice none 0 0) := fun o => ((hq.alloc hq.size o).cell (p := ⟨W.heap.size, 6, none⟩) hlX).trans (cell_of_row _ _ 6 _ _ _ hMx.out)
            clear hmk
            go_wp2
            go_roundw
            case rel => exact ⟨k + 1, by omega, by go_num, (hq.alloc hq.size _).alloc (by simp; have := hq.size; omega) _⟩
            case measure => simp [intOf]; omega
          · obtain ⟨q0, q1, q2, q3, q4, q5, q6⟩ := (hmk.out wr (below_of2 hbX hq) k hk2).2 hp
            have hp' : (k : Int) % 2 = 1 := by omega
            have n0 : ∀ o, (wr.alloc o).cell? ⟨W.heap.size, 7, none⟩ = some (.string ⟨#[]⟩) := fun o => ((hq.alloc hq.size o).cell (p := ⟨W.heap.size, 7, none⟩) hlX).trans (cell_of_row _ _ 7 _ _ _ hMx.out)
            have n1 : ∀ o, (wr.alloc o).cell? ⟨W.heap.size, 8, none⟩ = some (.bool false) := fun o => ((hq.alloc hq.size o).cell (p := ⟨W.heap.size, 8, none⟩) hlX).trans (cell_of_row _ _ 8 _ _ _ hMx.out)
            have n2 : ∀ o, (wr.alloc o).cell? ⟨W.heap.size, 9, none⟩ = some (.bool false) := fun o => ((hq.alloc hq.size o).cell (p := ⟨W.heap.size, 9, none⟩) hlX).trans (cell_of_row _ _ 9 _ _ _ hMx.out)
            have n3 : ∀ o, (wr.alloc o).cell? ⟨W.heap.size, 10, none⟩ = some (.int .i64 (-7702)) := fun o => ((hq.alloc hq.size o).cell (p := ⟨W.heap.size, 10, none⟩) hlX).trans (cell_of_row _ _ 10 _ _ _ hMx.out)
            have n4 : ∀ o, (wr.alloc o).cell? ⟨W.heap.size, 11, none⟩ = some (.int .i64 (0)) := fun o => ((hq.alloc hq.size o).cell (p := ⟨W.heap.size, 11, none⟩) hlX).trans (cell_of_row _ _ 11 _ _ _ hMx.out)
            have n5 : ∀ o, (wr.alloc o).cell? ⟨W.heap.size, 12, none⟩ = some (.int .i64 (0)) := fun o => ((hq.alloc hq.size o).cell (p := ⟨W.heap.size, 12, none⟩) hlX).trans (cell_of_row _ _ 12 _ _ _ hMx.out)
            have n6 : ∀ o, (wr.alloc o).cell? ⟨W.heap.size, 13, none⟩ = some (.slice none 0 0) := fun o => ((hq.alloc hq.size o).cell (p := ⟨W.heap.size, 13, none⟩) hlX).trans (cell_of_row _ _ 13 _ _ _ hMx.out)
            clear hmk
            go_wp2
            go_roundw
            case rel => exact ⟨k + 1, by omega, by go_num, (hq.alloc hq.size _).alloc (by simp; have := hq.size; omega) _⟩
            case measure => simp [intOf]; omega
        · obtain rfl : k = 40 := by omega
          have h1 := hlth.out
          have h2 := hcl.out
          have h3 : (i : Int) < 2000000000 := by omega
          have h4 : (0 : Int) ≤ (i : Int) := by omega
          go_wp2
          go_roundw
          case rel =>
            have h1 := hlth.out
            have h2 := hcl.out
            exact ⟨i + 1, by omega, by go_num, hq⟩
          case measure =>
            have h1 := hlth.out
            have h2 := hcl.out
            simp [intOf]
            omega
    · obtain rfl : i = vs.length := by omega
      go_wp2
      go_ret
      exact ⟨rfl, below_of2 hbX hb⟩

end Go.Proofs.YthnmjafoplfikaaGreatDoor


namespace Go.Proofs.YthnmjafoplfikaaGreatDoor
open Go.RowKit

set_option maxRecDepth 100000 in
set_option maxHeartbeats 4000000 in
theorem holdClauses_rm (R lo N : Nat) (K : Nat → Value) (V : Nat → List Value) (W : World) (hN : N ≤ 2000000000) (hR : RmAt W R lo K V N) :
    Calls Tryz.prog 54 #[.pointer (some ⟨R, 0, none⟩)] W fun e W' => e = .returned (.bool true) ∧ Below W.heap.size W W' := by
  have hbX := bel_alloc W (.cells #[.int .i64 (-7701), .bool false, .int .i64 (0), .int .i64 (0), .int .i64 (0), .int .i64 (0), .slice none 0 0, .int .i64 (0), .int .i64 (0), .int .i64 (0), .int .i64 (0), .slice none 0 0, .int .i64 (-7702), .bool false, .int .i64 (0), .int .i64 (0), .int .i64 (0), .int .i64 (0), .slice none 0 0, .int .i64 (0), .int .i64 (0), .int .i64 (0), .int .i64 (0), .slice none 0 0] 80)
  have hMx := Hid.mk (heap_alloc_new W (.cells #[.int .i64 (-7701), .bool false, .int .i64 (0), .int .i64 (0), .int .i64 (0), .int .i64 (0), .slice none 0 0, .int .i64 (0), .int .i64 (0), .int .i64 (0), .int .i64 (0), .slice none 0 0, .int .i64 (-7702), .bool false, .int .i64 (0), .int .i64 (0), .int .i64 (0), .int .i64 (0), .slice none 0 0, .int .i64 (0), .int .i64 (0), .int .i64 (0), .int .i64 (0), .slice none 0 0] 80))
  have hXs : W.heap.size < (W.alloc (.cells #[.int .i64 (-7701), .bool false, .int .i64 (0), .int .i64 (0), .int .i64 (0), .int .i64 (0), .slice none 0 0, .int .i64 (0), .int .i64 (0), .int .i64 (0), .int .i64 (0), .slice none 0 0, .int .i64 (-7702), .bool false, .int .i64 (0), .int .i64 (0), .int .i64 (0), .int .i64 (0), .slice none 0 0, .int .i64 (0), .int .i64 (0), .int .i64 (0), .int .i64 (0), .slice none 0 0] 80)).heap.size := by simp
  obtain ⟨ka, kc, hK⟩ := own_shape (hR.own 15 (by decide))
  have hRX := hR.new hbX
  have hc := (hRX.cell (j := 15) (by decide)).1
  have hcl := Hid.mk (hR.few 15 (by decide))
  have hown := hR.own 15 (by decide)
  have hmks := Hid.mk (hR.mks 15 (by decide))
  rw [hK] at hc hown

  have hRlt := hRX.lt
  clear hR hRX hK
  go_enter Tryz.func54, Tryz.ntmps54
  go_wp2
  generalize W.alloc (.cells #[.int .i64 (-7701), .bool false, .int .i64 (0), .int .i64 (0), .int .i64 (0), .int .i64 (0), .slice none 0 0, .int .i64 (0), .int .i64 (0), .int .i64 (0), .int .i64 (0), .slice none 0 0, .int .i64 (-7702), .bool false, .int .i64 (0), .int .i64 (0), .int .i64 (0), .int .i64 (0), .slice none 0 0, .int .i64 (0), .int .i64 (0), .int .i64 (0), .int .i64 (0), .slice none 0 0] 80) = X at *
  generalize V 15 = vs at *
  go_loopw [4] (fun v wr => ∃ i : Nat, i ≤ vs.length ∧ v = .int .i64 (i : Int) ∧ Below X.heap.size X wr) (fun v _ => vs.length - (intOf v).toNat)
  case atStart => exact ⟨0, Nat.zero_le _, rfl, Below.refl _ _⟩
  case round =>
    obtain ⟨i, hi, rfl, hb⟩ := hrel
    have hc1 := (hb.cell (p := ⟨R, 15, none⟩) hRlt).trans hc
    by_cases hlt : i < vs.length
    · have hlt' : (i : Int) < (vs.length : Int) := by omega
      have hi0 : (0 : Int) ≤ (i : Int) := by omega
      have hlth := Hid.mk hlt
      obtain ⟨gr, cap2, hg, -⟩ := own_lit2 hown (by omega)
      injection hg with hg1 _ hg2
      subst hg1 hg2
      obtain ⟨g, n, cap, cs, f, hv, hgh, hsp, hn, hmk⟩ := hmks.out _ (List.getElem_mem hlt)
      obtain ⟨N0, rfl⟩ : ∃ N0, n = N0 + 40 := ⟨n - 40, by have : rmSp 15 = 40 := rfl; omega⟩
      have hrow : W.cell? ⟨gr, i, none⟩ = some (.slice (some ⟨g, 0, none⟩) (N0 + 40) cap) := by rw [hown.cellAt i (by omega), List.getElem?_eq_getElem hlt, hv]
      have hgrl := (hown.lt gr rfl).2
      have hgl : g < W.heap.size := (Array.getElem?_eq_some_iff.1 hgh).1
      have hr1 : Hid (∀ X', Below W.heap.size W X' → X'.cell? ⟨gr, i, none⟩ = some (.slice (some ⟨g, 0, none⟩) (N0 + 40) cap)) := ⟨fun X' h => (h.cell (p := ⟨gr, i, none⟩) hgrl).trans hrow⟩
      have hmk : Hid (∀ X', Below W.heap.size W X' → ∀ k, k < 40 → (k % 2 = 0 → X'.cell? ⟨g, (N0 + k) * 12, none⟩ = some (.int .i64 (-7701)) ∧ X'.cell? ⟨g, (N0 + k) * 12 + 1, none⟩ = some (.bool false) ∧ X'.cell? ⟨g, (N0 + k) * 12 + 2, none⟩ = some (.int .i64 (0)) ∧ X'.cell? ⟨g, (N0 + k) * 12 + 3, none⟩ = some (.int .i64 (0)) ∧ X'.cell? ⟨g, (N0 + k) * 12 + 4, none⟩ = some (.int .i64 (0)) ∧ X'.cell? ⟨g, (N0 + k) * 12 + 5, none⟩ = some (.int .i64 (0)) ∧ X'.cell? ⟨g, (N0 + k) * 12 + 6, none⟩ = some (.slice none 0 0) ∧ X'.cell? ⟨g, (N0 + k) * 12 + 7, none⟩ = some (.int .i64 (0)) ∧ X'.cell? ⟨g, (N0 + k) * 12 + 8, none⟩ = some (.int .i64 (0)) ∧ X'.cell? ⟨g, (N0 + k) * 12 + 9, none⟩ = some (.int .i64 (0)) ∧ X'.cell? ⟨g, (N0 + k) * 12 + 10, none⟩ = some (.int .i64 (0)) ∧ X'.cell? ⟨g, (N0 + k) * 12 + 11, none⟩ = some (.slice none 0 0)) ∧ (k % 2 = 1 → X'.cell? ⟨g, (N0 + k) * 12, none⟩ = some (.int .i64 (-7702)) ∧ X'.cell? ⟨g, (N0 + k) * 12 + 1, none⟩ = some (.bool false) ∧ X'.cell? ⟨g, (N0 + k) * 12 + 2, none⟩ = some (.int .i64 (0)) ∧ X'.cell? ⟨g, (N0 + k) * 12 + 3, none⟩ = some (.int .i64 (0)) ∧ X'.cell? ⟨g, (N0 + k) * 12 + 4, none⟩ = some (.int .i64 (0)) ∧ X'.cell? ⟨g, (N0 + k) * 12 + 5, none⟩ = some (.int .i64 (0)) ∧ X'.cell? ⟨g, (N0 + k) * 12 + 6, none⟩ = some (.slice none 0 0) ∧ X'.cell? ⟨g, (N0 + k) * 12 + 7, none⟩ = some (.int .i64 (0)) ∧ X'.cell? ⟨g, (N0 + k) * 12 + 8, none⟩ = some (.int .i64 (0)) ∧ X'.cell? ⟨g, (N0 + k) * 12 + 9, none⟩ = some (.int .i64 (0)) ∧ X'.cell? ⟨g, (N0 + k) * 12 + 10, none⟩ = some (.int .i64 (0)) ∧ X'.cell? ⟨g, (N0 + k) * 12 + 11, none⟩ = some (.slice none 0 0))) := ⟨fun X' h k hk => by
        have hcell : ∀ k, k < 40 → ∀ i u, (rmMk 15 k)[i]? = some u → X'.cell? ⟨g, (N0 + k) * rmS 15 + i, none⟩ = some u := fun k hk i u hu => by
          rw [h.cell (p := ⟨g, (N0 + k) * rmS 15 + i, none⟩) hgl, cell_of_row _ _ _ _ _ _ hgh]
          have := hmk k hk i u hu
          rwa [show N0 + 40 - rmSp 15 = N0 from Nat.add_sub_cancel _ _] at this
        exact ⟨fun hp => ⟨(hcell k hk 0 _ (by unfold rmMk; rw [if_pos (hp)]; rfl)), (hcell k hk 1 _ (by unfold rmMk; rw [if_pos (hp)]; rfl)), (hcell k hk 2 _ (by unfold rmMk; rw [if_pos (hp)]; rfl)), (hcell k hk 3 _ (by unfold rmMk; rw [if_pos (hp)]; rfl)), (hcell k hk 4 _ (by unfold rmMk; rw [if_pos (hp)]; rfl)), (hcell k hk 5 _ (by unfold rmMk; rw [if_pos (hp)]; rfl)), (hcell k hk 6 _ (by unfold rmMk; rw [if_pos (hp)]; rfl)), (hcell k hk 7 _ (by unfold rmMk; rw [if_pos (hp)]; rfl)), (hcell k hk 8 _ (by unfold rmMk; rw [if_pos (hp)]; rfl)), (hcell k hk 9 _ (by unfold rmMk; rw [if_pos (hp)]; rfl)), (hcell k hk 10 _ (by unfold rmMk; rw [if_pos (hp)]; rfl)), (hcell k hk 11 _ (by unfold rmMk; rw [if_pos (hp)]; rfl))⟩, fun hp => ⟨(hcell k hk 0 _ (by unfold rmMk; rw [if_neg (by omega)]; rfl)), (hcell k hk 1 _ (by unfold rmMk; rw [if_neg (by omega)]; rfl)), (hcell k hk 2 _ (by unfold rmMk; rw [if_neg (by omega)]; rfl)), (hcell k hk 3 _ (by unfold rmMk; rw [if_neg (by omega)]; rfl)), (hcell k hk 4 _ (by unfold rmMk; rw [if_neg (by omega)]; rfl)), (hcell k hk 5 _ (by unfold rmMk; rw [if_neg (by omega)]; rfl)), (hcell k hk 6 _ (by unfold rmMk; rw [if_neg (by omega)]; rfl)), (hcell k hk 7 _ (by unfold rmMk; rw [if_neg (by omega)]; rfl)), (hcell k hk 8 _ (by unfold rmMk; rw [if_neg (by omega)]; rfl)), (hcell k hk 9 _ (by unfold rmMk; rw [if_neg (by omega)]; rfl)), (hcell k hk 10 _ (by unfold rmMk; rw [if_neg (by omega)]; rfl)), (hcell k hk 11 _ (by unfold rmMk; rw [if_neg (by omega)]; rfl))⟩⟩⟩
      have hd1 := hr1.out wr (below_of2 hbX hb)
      have hN0 : N0 ≤ 2000000 := by omega
      clear hrow hgrl hgh hv hsp hn
      go_wp2
      obtain ⟨wz, hwz⟩ : ∃ wz, wz = wr := ⟨_, rfl⟩
      rw [← hwz] at hb hc1 hd1 ⊢
      go_loopw [6] (fun v wq => ∃ k : Nat, k ≤ 40 ∧ v = .int .i64 (k : Int) ∧ Below X.heap.size X wq) (fun v _ => (41 - intOf v).toNat)
      case atStart => exact ⟨0, by omega, rfl, hb⟩
      case round =>
        clear hc1 hd1 hb hwz
        obtain ⟨k, hk, rfl, hq⟩ := hrel
        have hc1 := (hq.cell (p := ⟨R, 15, none⟩) hRlt).trans hc
        have hd1 := hr1.out _ (below_of2 hbX hq)
        have hlX : W.heap.size < X.heap.size := hXs
        by_cases hk2 : k < 40
        · have hkk : (k : Int) < 40 := by omega
          have hk0 : (0 : Int) ≤ (k : Int) := by omega
          rcases (show k % 2 = 0 ∨ k % 2 = 1 by omega) with hp | hp
          · obtain ⟨q0, q1, q2, q3, q4, q5, q6, q7, q8, q9, q10, q11⟩ := (hmk.out wr (below_of2 hbX hq) k hk2).1 hp
            have hp' : (k : Int) % 2 = 0 := by omega
            have n0 : ∀ o, (wr.alloc o).cell? ⟨W.heap.size, 0, none⟩ = some (.int .i64 (-7701)) := fun o => ((hq.alloc hq.size o).cell (p := ⟨W.heap.size, 0, none⟩) hlX).trans (cell_of_row _ _ 0 _ _ _ hMx.out)
            have n1 : ∀ o, (wr.alloc o).cell? ⟨W.heap.size, 1, none⟩ = some (.bool false) := fun o => ((hq.alloc hq.size o).cell (p := ⟨W.heap.size, 1, none⟩) hlX).trans (cell_of_row _ _ 1 _ _ _ hMx.out)
            have n2 : ∀ o, (wr.alloc o).cell? ⟨W.heap.size, 2, none⟩ = some (.int .i64 (0)) := fun o => ((hq.alloc hq.size o).cell (p := ⟨W.heap.size, 2, none⟩) hlX).trans (cell_of_row _ _ 2 _ _ _ hMx.out)
            have n3 : ∀ o, (wr.alloc o).cell? ⟨W.heap.size, 3, none⟩ = some (.int .i64 (0)) := fun o => ((hq.alloc hq.size o).cell (p := ⟨W.heap.size, 3, none⟩) hlX).trans (cell_of_row _ _ 3 _ _ _ hMx.out)
            have n4 : ∀ o, (wr.alloc o).cell? ⟨W.heap.size, 4, none⟩ = some (.int .i64 (0)) := fun o => ((hq.alloc hq.size o).cell (p := ⟨W.heap.size, 4, none⟩) hlX).trans (cell_of_row _ _ 4 _ _ _ hMx.out)
            have n5 : ∀ o, (wr.alloc o).cell? ⟨W.heap.size, 5, none⟩ = some (.int .i64 (0)) := fun o => ((hq.alloc hq.size o).cell (p := ⟨W.heap.size, 5, none⟩) hlX).trans (cell_of_row _ _ 5 _ _ _ hMx.out)
            have n6 : ∀ o, (wr.alloc o).cell? ⟨W.heap.size, 6, none⟩ = some (.slice none 0 0) := fun o => ((hq.alloc hq.size o).cell (p := ⟨W.heap.size, 6, none⟩) hlX).trans (cell_of_row _ _ 6 _ _ _ hMx.out)
            have n7 : ∀ o, (wr.alloc o).cell? ⟨W.heap.size, 7, none⟩ = some (.int .i64 (0)) := fun o => ((hq.alloc hq.size o).cell (p := ⟨W.heap.size, 7, none⟩) hlX).trans (cell_of_row _ _ 7 _ _ _ hMx.out)
            have n8 : ∀ o, (wr.alloc o).cell? ⟨W.heap.size, 8, none⟩ = some (.int .i64 (0)) := fun o => ((hq.alloc hq.size o).cell (p := ⟨W.heap.size, 8, none⟩) hlX).trans (cell_of_row _ _ 8 _ _ _ hMx.out)
            have n9 : ∀ o, (wr.alloc o).cell? ⟨W.heap.size, 9, none⟩ = some (.int .i64 (0)) := fun o => ((hq.alloc hq.size o).cell (p := ⟨W.heap.size, 9, none⟩) hlX).trans (cell_of_row _ _ 9 _ _ _ hMx.out)
            have n10 : ∀ o, (wr.alloc o).cell? ⟨W.heap.size, 10, none⟩ = some (.int .i64 (0)) := fun o => ((hq.alloc hq.size o).cell (p := ⟨W.heap.size, 10, none⟩) hlX).trans (cell_of_row _ _ 10 _ _ _ hMx.out)
            have n11 : ∀ o, (wr.alloc o).cell? ⟨W.heap.size, 11, none⟩ = some (.slice none 0 0) := fun o => ((hq.alloc hq.size o).cell (p := ⟨W.heap.size, 11, none⟩) hlX).trans (cell_of_row _ _ 11 _ _ _ hMx.out)
            clear hmk
            go_wp2
            go_roundw
            case rel => exact ⟨k + 1, by omega, by go_num, (hq.alloc hq.size _).alloc (by simp; have := hq.size; omega) _⟩
            case measure => simp [intOf]; omega
          · obtain ⟨q0, q1, q2, q3, q4, q5, q6, q7, q8, q9, q10, q11⟩ := (hmk.out wr (below_of2 hbX hq) k hk2).2 hp
            have hp' : (k : Int) % 2 = 1 := by omega
            have n0 : ∀ o, (wr.alloc o).cell? ⟨W.heap.size, 12, none⟩ = some (.int .i64 (-7702)) := fun o => ((hq.alloc hq.size o).cell (p := ⟨W.heap.size, 12, none⟩) hlX).trans (cell_of_row _ _ 12 _ _ _ hMx.out)
            have n1 : ∀ o, (wr.alloc o).cell? ⟨W.heap.size, 13, none⟩ = some (.bool false) := fun o => ((hq.alloc hq.size o).cell (p := ⟨W.heap.size, 13, none⟩) hlX).trans (cell_of_row _ _ 13 _ _ _ hMx.out)
            have n2 : ∀ o, (wr.alloc o).cell? ⟨W.heap.size, 14, none⟩ = some (.int .i64 (0)) := fun o => ((hq.alloc hq.size o).cell (p := ⟨W.heap.size, 14, none⟩) hlX).trans (cell_of_row _ _ 14 _ _ _ hMx.out)
            have n3 : ∀ o, (wr.alloc o).cell? ⟨W.heap.size, 15, none⟩ = some (.int .i64 (0)) := fun o => ((hq.alloc hq.size o).cell (p := ⟨W.heap.size, 15, none⟩) hlX).trans (cell_of_row _ _ 15 _ _ _ hMx.out)
            have n4 : ∀ o, (wr.alloc o).cell? ⟨W.heap.size, 16, none⟩ = some (.int .i64 (0)) := fun o => ((hq.alloc hq.size o).cell (p := ⟨W.heap.size, 16, none⟩) hlX).trans (cell_of_row _ _ 16 _ _ _ hMx.out)
            have n5 : ∀ o, (wr.alloc o).cell? ⟨W.heap.size, 17, none⟩ = some (.int .i64 (0)) := fun o => ((hq.alloc hq.size o).cell (p := ⟨W.heap.size, 17, none⟩) hlX).trans (cell_of_row _ _ 17 _ _ _ hMx.out)
            have n6 : ∀ o, (wr.alloc o).cell? ⟨W.heap.size, 18, none⟩ = some (.slice none 0 0) := fun o => ((hq.alloc hq.size o).cell (p := ⟨W.heap.size, 18, none⟩) hlX).trans (cell_of_row _ _ 18 _ _ _ hMx.out)
            have n7 : ∀ o, (wr.alloc o).cell? ⟨W.heap.size, 19, none⟩ = some (.int .i64 (0)) := fun o => ((hq.alloc hq.size o).cell (p := ⟨W.heap.size, 19, none⟩) hlX).trans (cell_of_row _ _ 19 _ _ _ hMx.out)
            have n8 : ∀ o, (wr.alloc o).cell? ⟨W.heap.size, 20, none⟩ = some (.int .i64 (0)) := fun o => ((hq.alloc hq.size o).cell (p := ⟨W.heap.size, 20, none⟩) hlX).trans (cell_of_row _ _ 20 _ _ _ hMx.out)
            have n9 : ∀ o, (wr.alloc o).cell? ⟨W.heap.size, 21, none⟩ = some (.int .i64 (0)) := fun o => ((hq.alloc hq.size o).cell (p := ⟨W.heap.size, 21, none⟩) hlX).trans (cell_of_row _ _ 21 _ _ _ hMx.out)
            have n10 : ∀ o, (wr.alloc o).cell? ⟨W.heap.size, 22, none⟩ = some (.int .i64 (0)) := fun o => ((hq.alloc hq.size o).cell (p := ⟨W.heap.size, 22, none⟩) hlX).trans (cell_of_row _ _ 22 _ _ _ hMx.out)
            have n11 : ∀ o, (wr.alloc o).cell? ⟨W.heap.size, 23, none⟩ = some (.slice none 0 0) := fun o => ((hq.alloc hq.size o).cell (p := ⟨W.heap.size, 23, none⟩) hlX).trans (cell_of_row _ _ 23 _ _ _ hMx.out)
            clear hmk
            go_wp2
            go_roundw
            case rel => exact ⟨k + 1, by omega, by go_num, (hq.alloc hq.size _).alloc (by simp; have := hq.size; omega) _⟩
            case measure => simp [intOf]; omega
        · obtain rfl : k = 40 := by omega
          have h1 := hlth.out
          have h2 := hcl.out
          have h3 : (i : Int) < 2000000000 := by omega
          have h4 : (0 : Int) ≤ (i : Int) := by omega
          go_wp2
          go_roundw
          case rel =>
            have h1 := hlth.out
            have h2 := hcl.out
            exact ⟨i + 1, by omega, by go_num, hq⟩
          case measure =>
            have h1 := hlth.out
            have h2 := hcl.out
            simp [intOf]
            omega
    · obtain rfl : i = vs.length := by omega
      go_wp2
      go_ret
      exact ⟨rfl, below_of2 hbX hb⟩

end Go.Proofs.YthnmjafoplfikaaGreatDoor
