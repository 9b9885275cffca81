import Derived.Test.YtoippgmecnlhcaaGreatDoorJoin45
import Derived.Test.YtoippgmecnlhcaaGreatDoorJoin35
namespace Go.Proofs.YtoippgmecnlhcaaGreatDoor.Q
open Go.RowKit

/-- The marks behind a list, in turns. -/
def markT (k : Nat) : Int := if k % 2 = 0 then -7701 else -7702
theorem neqTok (a b n d : Int) (t : ByteArray) (w : World) : (binOp .neq 60 (.agg #[.int .i64 a, .int .i64 b, .string t, .int .i64 n, .int .i64 d]) (.agg #[.int .i64 a, .int .i64 b, .string t, .int .i64 n, .int .i64 d])).run Tryz.prog w = .ok (.bool false) w := by
  rw [run_neq_struct, eqTok]
  rfl
theorem below_of {W A B : World} (h : Below W.heap.size W A) (k : Below A.heap.size A B) : Below W.heap.size W B := h.trans (k.mono h.size)

/-- A Room whose lists are nil but for the j-th. -/
def RoomBut (W : World) (R j : Nat) : Prop := ∀ k, k < 21 → k ≠ j → W.cell? ⟨R, k, none⟩ = some (.slice none 0 0)
theorem RoomBut.later {W W' : World} {R j : Nat} (h : RoomBut W R j) (hb : Below W.heap.size W W') : RoomBut W' R j := fun k hk hj => (hb.cell (p := ⟨R, k, none⟩) (World.block_lt_of_cell? _ _ (h k hk hj))).trans (h k hk hj)

set_option maxRecDepth 100000 in
set_option maxHeartbeats 2000000 in
theorem holdTokens_one (R g2 g cap2 capN N : Nat) (W : World) (c : W.cell? ⟨R, 7, none⟩ = some (.slice (some ⟨g2, 0, none⟩) 1 cap2)) (d : W.cell? ⟨g2, 0, none⟩ = some (.slice (some ⟨g, 0, none⟩) (N + 40) capN)) (hN : N ≤ 20000000000000)
    (m : Hid (∀ k, k < 40 → W.cell? ⟨g, (N + k) * 5, none⟩ = some (.int .i64 (markT k)) ∧ W.cell? ⟨g, (N + k) * 5 + 1, none⟩ = some (.int .i64 0) ∧ W.cell? ⟨g, (N + k) * 5 + 2, none⟩ = some (.string ⟨#[]⟩) ∧ W.cell? ⟨g, (N + k) * 5 + 3, none⟩ = some (.int .i64 0) ∧ W.cell? ⟨g, (N + k) * 5 + 4, none⟩ = some (.int .i64 0))) :
    Calls Tryz.prog 24 #[.pointer (some ⟨R, 0, none⟩)] W fun e W' => e = .returned (.bool true) ∧ Below W.heap.size W W' := by
  have hB : Below W.heap.size W (W.alloc (.cells #[.int .i64 (-7701), .int .i64 0, .string ⟨#[]⟩, .int .i64 0, .int .i64 0, .int .i64 (-7702), .int .i64 0, .string ⟨#[]⟩, .int .i64 0, .int .i64 0] 60)) := (Below.refl _ _).alloc (Nat.le_refl _) _
  have c1 := (hB.cell (p := ⟨R, 7, none⟩) (World.block_lt_of_cell? _ _ c)).trans c
  have d1 := (hB.cell (p := ⟨g2, 0, none⟩) (World.block_lt_of_cell? _ _ d)).trans d
  have hgW : g < W.heap.size := World.block_lt_of_cell? _ _ (m.out 0 (by omega)).1
  have m1 : Hid (∀ X, Below W.heap.size W X → ∀ k, k < 40 → X.cell? ⟨g, (N + k) * 5, none⟩ = some (.int .i64 (markT k)) ∧ X.cell? ⟨g, (N + k) * 5 + 1, none⟩ = some (.int .i64 0) ∧ X.cell? ⟨g, (N + k) * 5 + 2, none⟩ = some (.string ⟨#[]⟩) ∧ X.cell? ⟨g, (N + k) * 5 + 3, none⟩ = some (.int .i64 0) ∧ X.cell? ⟨g, (N + k) * 5 + 4, none⟩ = some (.int .i64 0)) := fun X hb k hk => ⟨(hb.cell (p := ⟨g, (N + k) * 5, none⟩) hgW).trans (m.out k hk).1, (hb.cell (p := ⟨g, (N + k) * 5 + 1, none⟩) hgW).trans (m.out k hk).2.1, (hb.cell (p := ⟨g, (N + k) * 5 + 2, none⟩) hgW).trans (m.out k hk).2.2.1, (hb.cell (p := ⟨g, (N + k) * 5 + 3, none⟩) hgW).trans (m.out k hk).2.2.2.1, (hb.cell (p := ⟨g, (N + k) * 5 + 4, none⟩) hgW).trans (m.out k hk).2.2.2.2⟩
  have n0 : (W.alloc (.cells #[.int .i64 (-7701), .int .i64 0, .string ⟨#[]⟩, .int .i64 0, .int .i64 0, .int .i64 (-7702), .int .i64 0, .string ⟨#[]⟩, .int .i64 0, .int .i64 0] 60)).cell? ⟨W.heap.size, 0, none⟩ = some (.int .i64 (-7701)) := by simp
  have n1 : (W.alloc (.cells #[.int .i64 (-7701), .int .i64 0, .string ⟨#[]⟩, .int .i64 0, .int .i64 0, .int .i64 (-7702), .int .i64 0, .string ⟨#[]⟩, .int .i64 0, .int .i64 0] 60)).cell? ⟨W.heap.size, 1, none⟩ = some (.int .i64 0) := by simp
  have n2 : (W.alloc (.cells #[.int .i64 (-7701), .int .i64 0, .string ⟨#[]⟩, .int .i64 0, .int .i64 0, .int .i64 (-7702), .int .i64 0, .string ⟨#[]⟩, .int .i64 0, .int .i64 0] 60)).cell? ⟨W.heap.size, 2, none⟩ = some (.string ⟨#[]⟩) := by simp
  have n3 : (W.alloc (.cells #[.int .i64 (-7701), .int .i64 0, .string ⟨#[]⟩, .int .i64 0, .int .i64 0, .int .i64 (-7702), .int .i64 0, .string ⟨#[]⟩, .int .i64 0, .int .i64 0] 60)).cell? ⟨W.heap.size, 3, none⟩ = some (.int .i64 0) := by simp
  have n4 : (W.alloc (.cells #[.int .i64 (-7701), .int .i64 0, .string ⟨#[]⟩, .int .i64 0, .int .i64 0, .int .i64 (-7702), .int .i64 0, .string ⟨#[]⟩, .int .i64 0, .int .i64 0] 60)).cell? ⟨W.heap.size, 4, none⟩ = some (.int .i64 0) := by simp
  have n5 : (W.alloc (.cells #[.int .i64 (-7701), .int .i64 0, .string ⟨#[]⟩, .int .i64 0, .int .i64 0, .int .i64 (-7702), .int .i64 0, .string ⟨#[]⟩, .int .i64 0, .int .i64 0] 60)).cell? ⟨W.heap.size, 5, none⟩ = some (.int .i64 (-7702)) := by simp
  have n6 : (W.alloc (.cells #[.int .i64 (-7701), .int .i64 0, .string ⟨#[]⟩, .int .i64 0, .int .i64 0, .int .i64 (-7702), .int .i64 0, .string ⟨#[]⟩, .int .i64 0, .int .i64 0] 60)).cell? ⟨W.heap.size, 6, none⟩ = some (.int .i64 0) := by simp
  have n7 : (W.alloc (.cells #[.int .i64 (-7701), .int .i64 0, .string ⟨#[]⟩, .int .i64 0, .int .i64 0, .int .i64 (-7702), .int .i64 0, .string ⟨#[]⟩, .int .i64 0, .int .i64 0] 60)).cell? ⟨W.heap.size, 7, none⟩ = some (.string ⟨#[]⟩) := by simp
  have n8 : (W.alloc (.cells #[.int .i64 (-7701), .int .i64 0, .string ⟨#[]⟩, .int .i64 0, .int .i64 0, .int .i64 (-7702), .int .i64 0, .string ⟨#[]⟩, .int .i64 0, .int .i64 0] 60)).cell? ⟨W.heap.size, 8, none⟩ = some (.int .i64 0) := by simp
  have n9 : (W.alloc (.cells #[.int .i64 (-7701), .int .i64 0, .string ⟨#[]⟩, .int .i64 0, .int .i64 0, .int .i64 (-7702), .int .i64 0, .string ⟨#[]⟩, .int .i64 0, .int .i64 0] 60)).cell? ⟨W.heap.size, 9, none⟩ = some (.int .i64 0) := by simp
  have hXs : (W.alloc (.cells #[.int .i64 (-7701), .int .i64 0, .string ⟨#[]⟩, .int .i64 0, .int .i64 0, .int .i64 (-7702), .int .i64 0, .string ⟨#[]⟩, .int .i64 0, .int .i64 0] 60)).heap.size = W.heap.size + 1 := by simp
  have he := fun (a : Int) => neqTok a 0 0 0 ⟨#[]⟩
  go_enter Tryz.func24, Tryz.ntmps24
  go_wp2
  generalize W.alloc (.cells #[.int .i64 (-7701), .int .i64 0, .string ⟨#[]⟩, .int .i64 0, .int .i64 0, .int .i64 (-7702), .int .i64 0, .string ⟨#[]⟩, .int .i64 0, .int .i64 0] 60) = X at *
  refine wp_loop_rounds 2 ?_
  rw [rounds_succ]
  go_wp2
  have HX : Hid (X.cell? ⟨W.heap.size, 0, none⟩ = some (.int .i64 (-7701)) ∧ X.cell? ⟨W.heap.size, 1, none⟩ = some (.int .i64 0) ∧ X.cell? ⟨W.heap.size, 2, none⟩ = some (.string ⟨#[]⟩) ∧ X.cell? ⟨W.heap.size, 3, none⟩ = some (.int .i64 0) ∧ X.cell? ⟨W.heap.size, 4, none⟩ = some (.int .i64 0) ∧ X.cell? ⟨W.heap.size, 5, none⟩ = some (.int .i64 (-7702)) ∧ X.cell? ⟨W.heap.size, 6, none⟩ = some (.int .i64 0) ∧ X.cell? ⟨W.heap.size, 7, none⟩ = some (.string ⟨#[]⟩) ∧ X.cell? ⟨W.heap.size, 8, none⟩ = some (.int .i64 0) ∧ X.cell? ⟨W.heap.size, 9, none⟩ = some (.int .i64 0)) := ⟨n0, n1, n2, n3, n4, n5, n6, n7, n8, n9⟩
  have HC : Hid (X.cell? ⟨R, 7, none⟩ = some (.slice (some ⟨g2, 0, none⟩) 1 cap2) ∧ X.cell? ⟨g2, 0, none⟩ = some (.slice (some ⟨g, 0, none⟩) (N + 40) capN)) := ⟨c1, d1⟩
  clear n0 n1 n2 n3 n4 n5 n6 n7 n8 n9 c d c1 d1
  go_loopw [6] (fun v wr => ∃ k : Nat, k ≤ 40 ∧ v = .int .i64 k ∧ Below X.heap.size X wr) (fun v _ => (41 - intOf v).toNat)
  case atStart => exact ⟨0, by omega, rfl, Below.refl _ _⟩
  case round =>
    obtain ⟨k, hk, rfl, hb⟩ := hrel
    have c1 := (hb.cell (p := ⟨R, 7, none⟩) (World.block_lt_of_cell? _ _ HC.out.1)).trans HC.out.1
    have d1 := (hb.cell (p := ⟨g2, 0, none⟩) (World.block_lt_of_cell? _ _ HC.out.2)).trans HC.out.2
    by_cases hk2 : k < 40
    · obtain ⟨mk, mz1, mz2, mz3, mz4⟩ := m1.out wr (below_of hB hb) k hk2
      have hlX : W.heap.size < X.heap.size := by omega
      rcases (show k % 2 = 0 ∨ k % 2 = 1 by omega) with hp | hp
      · have em : markT k = -7701 := by unfold markT; rw [if_pos hp]
        rw [em] at mk
        have hp' : (k : Int) % 2 = 0 := by omega
        have n0 : ∀ o, (wr.alloc o).cell? ⟨W.heap.size, 0, none⟩ = some (.int .i64 (-7701)) := fun o => ((hb.alloc hb.size o).cell (p := ⟨W.heap.size, 0, none⟩) hlX).trans HX.out.1
        have n1 : ∀ o, (wr.alloc o).cell? ⟨W.heap.size, 1, none⟩ = some (.int .i64 0) := fun o => ((hb.alloc hb.size o).cell (p := ⟨W.heap.size, 1, none⟩) hlX).trans HX.out.2.1
        have n2 : ∀ o, (wr.alloc o).cell? ⟨W.heap.size, 2, none⟩ = some (.string ⟨#[]⟩) := fun o => ((hb.alloc hb.size o).cell (p := ⟨W.heap.size, 2, none⟩) hlX).trans HX.out.2.2.1
        have n3 : ∀ o, (wr.alloc o).cell? ⟨W.heap.size, 3, none⟩ = some (.int .i64 0) := fun o => ((hb.alloc hb.size o).cell (p := ⟨W.heap.size, 3, none⟩) hlX).trans HX.out.2.2.2.1
        have n4 : ∀ o, (wr.alloc o).cell? ⟨W.heap.size, 4, none⟩ = some (.int .i64 0) := fun o => ((hb.alloc hb.size o).cell (p := ⟨W.heap.size, 4, none⟩) hlX).trans HX.out.2.2.2.2.1
        go_wp2
        go_roundw
        case rel => exact ⟨k + 1, by omega, by go_num, (hb.alloc hb.size _).alloc (by simp; have := hb.size; omega) _⟩
        case measure => simp [intOf]; omega
      · have em : markT k = -7702 := by unfold markT; rw [if_neg (by omega)]
        rw [em] at mk
        have hp' : (k : Int) % 2 = 1 := by omega
        have n0 : ∀ o, (wr.alloc o).cell? ⟨W.heap.size, 5, none⟩ = some (.int .i64 (-7702)) := fun o => ((hb.alloc hb.size o).cell (p := ⟨W.heap.size, 5, none⟩) hlX).trans HX.out.2.2.2.2.2.1
        have n1 : ∀ o, (wr.alloc o).cell? ⟨W.heap.size, 6, none⟩ = some (.int .i64 0) := fun o => ((hb.alloc hb.size o).cell (p := ⟨W.heap.size, 6, none⟩) hlX).trans HX.out.2.2.2.2.2.2.1
        have n2 : ∀ o, (wr.alloc o).cell? ⟨W.heap.size, 7, none⟩ = some (.string ⟨#[]⟩) := fun o => ((hb.alloc hb.size o).cell (p := ⟨W.heap.size, 7, none⟩) hlX).trans HX.out.2.2.2.2.2.2.2.1
        have n3 : ∀ o, (wr.alloc o).cell? ⟨W.heap.size, 8, none⟩ = some (.int .i64 0) := fun o => ((hb.alloc hb.size o).cell (p := ⟨W.heap.size, 8, none⟩) hlX).trans HX.out.2.2.2.2.2.2.2.2.1
        have n4 : ∀ o, (wr.alloc o).cell? ⟨W.heap.size, 9, none⟩ = some (.int .i64 0) := fun o => ((hb.alloc hb.size o).cell (p := ⟨W.heap.size, 9, none⟩) hlX).trans HX.out.2.2.2.2.2.2.2.2.2
        go_wp2
        go_roundw
        case rel => exact ⟨k + 1, by omega, by go_num, (hb.alloc hb.size _).alloc (by simp; have := hb.size; omega) _⟩
        case measure => simp [intOf]; omega
    · obtain rfl : k = 40 := by omega
      go_wp2
      rw [rounds_succ]
      go_wp2
      go_ret
      exact ⟨rfl, below_of hB hb⟩

set_option maxHeartbeats 4000000 in
theorem hold_tokens (R : Nat) (W : World) (hR : RoomBut W R 7) (hJ : ∀ X, Below W.heap.size W X → Calls Tryz.prog 24 #[.pointer (some ⟨R, 0, none⟩)] X fun e X' => e = .returned (.bool true) ∧ Below X.heap.size X X') :
    Calls Tryz.prog 13 #[.pointer (some ⟨R, 0, none⟩)] W fun e W' => e = .returned (.bool true) ∧ Below W.heap.size W W' := by
  have hB := Below.refl W.heap.size W
  go_enter Tryz.func13, Tryz.ntmps13
  go_wp2_with (first | (go_at_call 17; refine (holdBytes_nil R _ (hR 0 (by omega) (by omega))).mono ?_; rintro _ X ⟨rfl, hb⟩; replace hR := hR.later hb; replace hB := below_of hB hb; clear hb) | (go_at_call 18; refine (holdInts_nil R _ (hR 1 (by omega) (by omega))).mono ?_; rintro _ X ⟨rfl, hb⟩; replace hR := hR.later hb; replace hB := below_of hB hb; clear hb) | (go_at_call 19; refine (holdCells_nil R _ (hR 2 (by omega) (by omega))).mono ?_; rintro _ X ⟨rfl, hb⟩; replace hR := hR.later hb; replace hB := below_of hB hb; clear hb) | (go_at_call 20; refine (holdBools_nil R _ (hR 3 (by omega) (by omega))).mono ?_; rintro _ X ⟨rfl, hb⟩; replace hR := hR.later hb; replace hB := below_of hB hb; clear hb) | (go_at_call 21; refine (holdTexts_nil R _ (hR 4 (by omega) (by omega))).mono ?_; rintro _ X ⟨rfl, hb⟩; replace hR := hR.later hb; replace hB := below_of hB hb; clear hb) | (go_at_call 22; refine (holdValues_nil R _ (hR 5 (by omega) (by omega))).mono ?_; rintro _ X ⟨rfl, hb⟩; replace hR := hR.later hb; replace hB := below_of hB hb; clear hb) | (go_at_call 23; refine (holdBands_nil R _ (hR 6 (by omega) (by omega))).mono ?_; rintro _ X ⟨rfl, hb⟩; replace hR := hR.later hb; replace hB := below_of hB hb; clear hb) | (go_at_call 24; refine (hJ _ hB).mono ?_; rintro _ X ⟨rfl, hb⟩; replace hR := hR.later hb; replace hB := below_of hB hb; clear hb) | (go_at_call 25; refine (holdReads_nil R _ (hR 8 (by omega) (by omega))).mono ?_; rintro _ X ⟨rfl, hb⟩; replace hR := hR.later hb; replace hB := below_of hB hb; clear hb) | (go_at_call 26; refine (holdConflicts_nil R _ (hR 9 (by omega) (by omega))).mono ?_; rintro _ X ⟨rfl, hb⟩; replace hR := hR.later hb; replace hB := below_of hB hb; clear hb) | (go_at_call 27; refine (holdPoints_nil R _ (hR 10 (by omega) (by omega))).mono ?_; rintro _ X ⟨rfl, hb⟩; replace hR := hR.later hb; replace hB := below_of hB hb; clear hb) | (go_at_call 28; refine (holdNodes_nil R _ (hR 11 (by omega) (by omega))).mono ?_; rintro _ X ⟨rfl, hb⟩; replace hR := hR.later hb; replace hB := below_of hB hb; clear hb) | (go_at_call 29; refine (holdRecords_nil R _ (hR 12 (by omega) (by omega))).mono ?_; rintro _ X ⟨rfl, hb⟩; replace hR := hR.later hb; replace hB := below_of hB hb; clear hb) | (go_at_call 30; refine (holdFiles_nil R _ (hR 13 (by omega) (by omega))).mono ?_; rintro _ X ⟨rfl, hb⟩; replace hR := hR.later hb; replace hB := below_of hB hb; clear hb) | (go_at_call 31; refine (holdExprs_nil R _ (hR 14 (by omega) (by omega))).mono ?_; rintro _ X ⟨rfl, hb⟩; replace hR := hR.later hb; replace hB := below_of hB hb; clear hb) | (go_at_call 32; refine (holdClauses_nil R _ (hR 15 (by omega) (by omega))).mono ?_; rintro _ X ⟨rfl, hb⟩; replace hR := hR.later hb; replace hB := below_of hB hb; clear hb) | (go_at_call 33; refine (holdLines_nil R _ (hR 16 (by omega) (by omega))).mono ?_; rintro _ X ⟨rfl, hb⟩; replace hR := hR.later hb; replace hB := below_of hB hb; clear hb) | (go_at_call 34; refine (holdChecks_nil R _ (hR 17 (by omega) (by omega))).mono ?_; rintro _ X ⟨rfl, hb⟩; replace hR := hR.later hb; replace hB := below_of hB hb; clear hb) | (go_at_call 35; refine (holdOptions_nil R _ (hR 18 (by omega) (by omega))).mono ?_; rintro _ X ⟨rfl, hb⟩; replace hR := hR.later hb; replace hB := below_of hB hb; clear hb) | (go_at_call 36; refine (holdTables_nil R _ (hR 19 (by omega) (by omega))).mono ?_; rintro _ X ⟨rfl, hb⟩; replace hR := hR.later hb; replace hB := below_of hB hb; clear hb) | (go_at_call 37; refine (holdGroups_nil R _ (hR 20 (by omega) (by omega))).mono ?_; rintro _ X ⟨rfl, hb⟩; replace hR := hR.later hb; replace hB := below_of hB hb; clear hb))
  go_ret
  exact ⟨rfl, hB⟩

end Go.Proofs.YtoippgmecnlhcaaGreatDoor.Q
