import Derived.Test.YthnmjafoplfikaaGreatDoorJoin53
import Derived.Test.YthnmjafoplfikaaGreatDoorTurnYB
import Derived.Test.YthnmjafoplfikaaGreatDoorRows
import Derived.ProofKit
import Derived.OpenShut
import Derived.SizedLaws
import Derived.Deep.Slices
import Derived.Test.YthnmjafoplfikaaGreatDoorTurnRmR
namespace Go.Proofs.YthnmjafoplfikaaGreatDoor
open Go.RowKit

set_option maxRecDepth 100000 in
set_option maxHeartbeats 4000000 in
theorem holdExprs_rm (R lo N : Nat) (K : Nat → Value) (V : Nat → List Value) (W : World) (hN : N ≤ 2000000000) (hR : RmAt W R lo K V N) :
    Calls Tryz.prog 53 #[.pointer (some ⟨R, 0, none⟩)] W fun e W' => e = .returned (.bool true) ∧ Below W.heap.size W W' := by
  have hbX := bel_alloc W (.cells #[.int .i64 (-7701), .int .i64 (0), .int .i64 (0), .int .i64 (0), .slice none 0 0, .int .i64 (-7702), .int .i64 (0), .int .i64 (0), .int .i64 (0), .slice none 0 0] 73)
  have hMx := Hid.mk (heap_alloc_new W (.cells #[.int .i64 (-7701), .int .i64 (0), .int .i64 (0), .int .i64 (0), .slice none 0 0, .int .i64 (-7702), .int .i64 (0), .int .i64 (0), .int .i64 (0), .slice none 0 0] 73))
  have hXs : W.heap.size < (W.alloc (.cells #[.int .i64 (-7701), .int .i64 (0), .int .i64 (0), .int .i64 (0), .slice none 0 0, .int .i64 (-7702), .int .i64 (0), .int .i64 (0), .int .i64 (0), .slice none 0 0] 73)).heap.size := by simp
  obtain ⟨ka, kc, hK⟩ := own_shape (hR.own 14 (by decide))
  have hRX := hR.new hbX
  have hc := (hRX.cell (j := 14) (by decide)).1
  have hcl := Hid.mk (hR.few 14 (by decide))
  have hown := hR.own 14 (by decide)
  have hmks := Hid.mk (hR.mks 14 (by decide))
  rw [hK] at hc hown

  have hRlt := hRX.lt
  clear hR hRX hK
  go_enter Tryz.func53, Tryz.ntmps53
  go_wp2
  generalize W.alloc (.cells #[.int .i64 (-7701), .int .i64 (0), .int .i64 (0), .int .i64 (0), .slice none 0 0, .int .i64 (-7702), .int .i64 (0), .int .i64 (0), .int .i64 (0), .slice none 0 0] 73) = X at *
  generalize V 14 = vs at *
  go_loopw [4] (fun v wr => ∃ i : Nat, i ≤ vs.length ∧ v = .int .i64 (i : Int) ∧ Below X.heap.size X wr) (fun v _ => vs.length - (intOf v).toNat)
  case atStart => exact ⟨0, Nat.zero_le _, rfl, Below.refl _ _⟩
  case round =>
    obtain ⟨i, hi, rfl, hb⟩ := hrel
    have hc1 := (hb.cell (p := ⟨R, 14, none⟩) hRlt).trans hc
    by_cases hlt : i < vs.length
    · have hlt' : (i : Int) < (vs.length : Int) := by omega
      have hi0 : (0 : Int) ≤ (i : Int) := by omega
      have hlth := Hid.mk hlt
      obtain ⟨gr, cap2, hg, -⟩ := own_lit2 hown (by omega)
      injection hg with hg1 _ hg2
      subst hg1 hg2
      obtain ⟨g, n, cap, cs, f, hv, hgh, hsp, hn, hmk⟩ := hmks.out _ (List.getElem_mem hlt)
      obtain ⟨N0, rfl⟩ : ∃ N0, n = N0 + 8 := ⟨n - 8, by have : rmSp 14 = 8 := rfl; omega⟩
      have hrow : W.cell? ⟨gr, i, none⟩ = some (.slice (some ⟨g, 0, none⟩) (N0 + 8) cap) := by rw [hown.cellAt i (by omega), List.getElem?_eq_getElem hlt, hv]
      have hgrl := (hown.lt gr rfl).2
      have hgl : g < W.heap.size := (Array.getElem?_eq_some_iff.1 hgh).1
      have hr1 : Hid (∀ X', Below W.heap.size W X' → X'.cell? ⟨gr, i, none⟩ = some (.slice (some ⟨g, 0, none⟩) (N0 + 8) cap)) := ⟨fun X' h => (h.cell (p := ⟨gr, i, none⟩) hgrl).trans hrow⟩
      have hmk : Hid (∀ X', Below W.heap.size W X' → ∀ k, k < 8 → (k % 2 = 0 → X'.cell? ⟨g, (N0 + k) * 5, none⟩ = some (.int .i64 (-7701)) ∧ X'.cell? ⟨g, (N0 + k) * 5 + 1, none⟩ = some (.int .i64 (0)) ∧ X'.cell? ⟨g, (N0 + k) * 5 + 2, none⟩ = some (.int .i64 (0)) ∧ X'.cell? ⟨g, (N0 + k) * 5 + 3, none⟩ = some (.int .i64 (0)) ∧ X'.cell? ⟨g, (N0 + k) * 5 + 4, none⟩ = some (.slice none 0 0)) ∧ (k % 2 = 1 → X'.cell? ⟨g, (N0 + k) * 5, none⟩ = some (.int .i64 (-7702)) ∧ X'.cell? ⟨g, (N0 + k) * 5 + 1, none⟩ = some (.int .i64 (0)) ∧ X'.cell? ⟨g, (N0 + k) * 5 + 2, none⟩ = some (.int .i64 (0)) ∧ X'.cell? ⟨g, (N0 + k) * 5 + 3, none⟩ = some (.int .i64 (0)) ∧ X'.cell? ⟨g, (N0 + k) * 5 + 4, none⟩ = some (.slice none 0 0))) := ⟨fun X' h k hk => by
        have hcell : ∀ k, k < 8 → ∀ i u, (rmMk 14 k)[i]? = some u → X'.cell? ⟨g, (N0 + k) * rmS 14 + i, none⟩ = some u := fun k hk i u hu => by
          rw [h.cell (p := ⟨g, (N0 + k) * rmS 14 + i, none⟩) hgl, cell_of_row _ _ _ _ _ _ hgh]
          have := hmk k hk i u hu
          rwa [show N0 + 8 - rmSp 14 = N0 from Nat.add_sub_cancel _ _] at this
        exact ⟨fun hp => ⟨(hcell k hk 0 _ (by unfold rmMk; rw [if_pos (hp)]; rfl)), (hcell k hk 1 _ (by unfold rmMk; rw [if_pos (hp)]; rfl)), (hcell k hk 2 _ (by unfold rmMk; rw [if_pos (hp)]; rfl)), (hcell k hk 3 _ (by unfold rmMk; rw [if_pos (hp)]; rfl)), (hcell k hk 4 _ (by unfold rmMk; rw [if_pos (hp)]; rfl))⟩, fun hp => ⟨(hcell k hk 0 _ (by unfold rmMk; rw [if_neg (by omega)]; rfl)), (hcell k hk 1 _ (by unfold rmMk; rw [if_neg (by omega)]; rfl)), (hcell k hk 2 _ (by unfold rmMk; rw [if_neg (by omega)]; rfl)), (hcell k hk 3 _ (by unfold rmMk; rw [if_neg (by omega)]; rfl)), (hcell k hk 4 _ (by unfold rmMk; rw [if_neg (by omega)]; rfl))⟩⟩⟩
      have hd1 := hr1.out wr (below_of2 hbX hb)
      have hN0 : N0 ≤ 2000000 := by omega
      clear hrow hgrl hgh hv hsp hn
      go_wp2
      obtain ⟨wz, hwz⟩ : ∃ wz, wz = wr := ⟨_, rfl⟩
      rw [← hwz] at hb hc1 hd1 ⊢
      go_loopw [6] (fun v wq => ∃ k : Nat, k ≤ 8 ∧ v = .int .i64 (k : Int) ∧ Below X.heap.size X wq) (fun v _ => (9 - intOf v).toNat)
      case atStart => exact ⟨0, by omega, rfl, hb⟩
      case round =>
        clear hc1 hd1 hb hwz
        obtain ⟨k, hk, rfl, hq⟩ := hrel
        have hc1 := (hq.cell (p := ⟨R, 14, none⟩) hRlt).trans hc
        have hd1 := hr1.out _ (below_of2 hbX hq)
        have hlX : W.heap.size < X.heap.size := hXs
        by_cases hk2 : k < 8
        · have hkk : (k : Int) < 8 := by omega
          have hk0 : (0 : Int) ≤ (k : Int) := by omega
          rcases (show k % 2 = 0 ∨ k % 2 = 1 by omega) with hp | hp
          · obtain ⟨q0, q1, q2, q3, q4⟩ := (hmk.out wr (below_of2 hbX hq) k hk2).1 hp
            have hp' : (k : Int) % 2 = 0 := by omega
            have n0 : ∀ o, (wr.alloc o).cell? ⟨W.heap.size, 0, none⟩ = some (.int .i64 (-7701)) := fun o => ((hq.alloc hq.size o).cell (p := ⟨W.heap.size, 0, none⟩) hlX).trans (cell_of_row _ _ 0 _ _ _ hMx.out)
            have n1 : ∀ o, (wr.alloc o).cell? ⟨W.heap.size, 1, none⟩ = some (.int .i64 (0)) := fun o => ((hq.alloc hq.size o).cell (p := ⟨W.heap.size, 1, none⟩) hlX).trans (cell_of_row _ _ 1 _ _ _ hMx.out)
            have n2 : ∀ o, (wr.alloc o).cell? ⟨W.heap.size, 2, none⟩ = some (.int .i64 (0)) := fun o => ((hq.alloc hq.size o).cell (p := ⟨W.heap.size, 2, none⟩) hlX).trans (cell_of_row _ _ 2 _ _ _ hMx.out)
            have n3 : ∀ o, (wr.alloc o).cell? ⟨W.heap.size, 3, none⟩ = some (.int .i64 (0)) := fun o => ((hq.alloc hq.size o).cell (p := ⟨W.heap.size, 3, none⟩) hlX).trans (cell_of_row _ _ 3 _ _ _ hMx.out)
            have n4 : ∀ o, (wr.alloc o).cell? ⟨W.heap.size, 4, none⟩ = some (.slice none 0 0) := fun o => ((hq.alloc hq.size o).cell (p := ⟨W.heap.size, 4, none⟩) hlX).trans (cell_of_row _ _ 4 _ _ _ hMx.out)
            clear hmk
            go_wp2
            go_roundw
            case rel => exact ⟨k + 1, by omega, by go_num, (hq.alloc hq.size _).alloc (by simp; have := hq.size; omega) _⟩
            case measure => simp [intOf]; omega
          · obtain ⟨q0, q1, q2, q3, q4⟩ := (hmk.out wr (below_of2 hbX hq) k hk2).2 hp
            have hp' : (k : Int) % 2 = 1 := by omega
            have n0 : ∀ o, (wr.alloc o).cell? ⟨W.heap.size, 5, none⟩ = some (.int .i64 (-7702)) := fun o => ((hq.alloc hq.size o).cell (p := ⟨W.heap.size, 5, none⟩) hlX).trans (cell_of_row _ _ 5 _ _ _ hMx.out)
            have n1 : ∀ o, (wr.alloc o).cell? ⟨W.heap.size, 6, none⟩ = some (.int .i64 (0)) := fun o => ((hq.alloc hq.size o).cell (p := ⟨W.heap.size, 6, none⟩) hlX).trans (cell_of_row _ _ 6 _ _ _ hMx.out)
            have n2 : ∀ o, (wr.alloc o).cell? ⟨W.heap.size, 7, none⟩ = some (.int .i64 (0)) := fun o => ((hq.alloc hq.size o).cell (p := ⟨W.heap.size, 7, none⟩) hlX).trans (cell_of_row _ _ 7 _ _ _ hMx.out)
            have n3 : ∀ o, (wr.alloc o).cell? ⟨W.heap.size, 8, none⟩ = some (.int .i64 (0)) := fun o => ((hq.alloc hq.size o).cell (p := ⟨W.heap.size, 8, none⟩) hlX).trans (cell_of_row _ _ 8 _ _ _ hMx.out)
            have n4 : ∀ o, (wr.alloc o).cell? ⟨W.heap.size, 9, none⟩ = some (.slice none 0 0) := fun o => ((hq.alloc hq.size o).cell (p := ⟨W.heap.size, 9, none⟩) hlX).trans (cell_of_row _ _ 9 _ _ _ hMx.out)
            clear hmk
            go_wp2
            go_roundw
            case rel => exact ⟨k + 1, by omega, by go_num, (hq.alloc hq.size _).alloc (by simp; have := hq.size; omega) _⟩
            case measure => simp [intOf]; omega
        · obtain rfl : k = 8 := by omega
          have h1 := hlth.out
          have h2 := hcl.out
          have h3 : (i : Int) < 2000000000 := by omega
          have h4 : (0 : Int) ≤ (i : Int) := by omega
          go_wp2
          go_roundw
          case rel =>
            have h1 := hlth.out
            have h2 := hcl.out
            exact ⟨i + 1, by omega, by go_num, hq⟩
          case measure =>
            have h1 := hlth.out
            have h2 := hcl.out
            simp [intOf]
            omega
    · obtain rfl : i = vs.length := by omega
      go_wp2
      go_ret
      exact ⟨rfl, below_of2 hbX hb⟩

end Go.Proofs.YthnmjafoplfikaaGreatDoor


namespace Go.Proofs.YthnmjafoplfikaaGreatDoor
open Go.RowKit

set_option maxRecDepth 100000 in
set_option maxHeartbeats 4000000 in
theorem holdBands_rm (R lo N : Nat) (K : Nat → Value) (V : Nat → List Value) (W : World) (hN : N ≤ 2000000000) (hR : RmAt W R lo K V N) :
    Calls Tryz.prog 45 #[.pointer (some ⟨R, 0, none⟩)] W fun e W' => e = .returned (.bool true) ∧ Below W.heap.size W W' := by
  have hbX := bel_alloc W (.cells #[.int .i64 (-7701), .int .i64 (0), .int .i64 (-7702), .int .i64 (0)] 121)
  have hMx := Hid.mk (heap_alloc_new W (.cells #[.int .i64 (-7701), .int .i64 (0), .int .i64 (-7702), .int .i64 (0)] 121))
  have hXs : W.heap.size < (W.alloc (.cells #[.int .i64 (-7701), .int .i64 (0), .int .i64 (-7702), .int .i64 (0)] 121)).heap.size := by simp
  obtain ⟨ka, kc, hK⟩ := own_shape (hR.own 6 (by decide))
  have hRX := hR.new hbX
  have hc := (hRX.cell (j := 6) (by decide)).1
  have hcl := Hid.mk (hR.few 6 (by decide))
  have hown := hR.own 6 (by decide)
  have hmks := Hid.mk (hR.mks 6 (by decide))
  rw [hK] at hc hown
  have e1 : ∀ w : World, (binOp .neq 121 (.agg #[.int .i64 (-7701), .int .i64 (0)]) (.agg #[.int .i64 (-7701), .int .i64 (0)])).run Tryz.prog w = .ok (.bool false) w := fun _ => by kernel_rfl
  have e2 : ∀ w : World, (binOp .neq 121 (.agg #[.int .i64 (-7702), .int .i64 (0)]) (.agg #[.int .i64 (-7702), .int .i64 (0)])).run Tryz.prog w = .ok (.bool false) w := fun _ => by kernel_rfl
  have hRlt := hRX.lt
  clear hR hRX hK
  go_enter Tryz.func45, Tryz.ntmps45
  go_wp2
  generalize W.alloc (.cells #[.int .i64 (-7701), .int .i64 (0), .int .i64 (-7702), .int .i64 (0)] 121) = X at *
  generalize V 6 = vs at *
  go_loopw [4] (fun v wr => ∃ i : Nat, i ≤ vs.length ∧ v = .int .i64 (i : Int) ∧ Below X.heap.size X wr) (fun v _ => vs.length - (intOf v).toNat)
  case atStart => exact ⟨0, Nat.zero_le _, rfl, Below.refl _ _⟩
  case round =>
    obtain ⟨i, hi, rfl, hb⟩ := hrel
    have hc1 := (hb.cell (p := ⟨R, 6, none⟩) hRlt).trans hc
    by_cases hlt : i < vs.length
    · have hlt' : (i : Int) < (vs.length : Int) := by omega
      have hi0 : (0 : Int) ≤ (i : Int) := by omega
      have hlth := Hid.mk hlt
      obtain ⟨gr, cap2, hg, -⟩ := own_lit2 hown (by omega)
      injection hg with hg1 _ hg2
      subst hg1 hg2
      obtain ⟨g, n, cap, cs, f, hv, hgh, hsp, hn, hmk⟩ := hmks.out _ (List.getElem_mem hlt)
      obtain ⟨N0, rfl⟩ : ∃ N0, n = N0 + 40 := ⟨n - 40, by have : rmSp 6 = 40 := rfl; omega⟩
      have hrow : W.cell? ⟨gr, i, none⟩ = some (.slice (some ⟨g, 0, none⟩) (N0 + 40) cap) := by rw [hown.cellAt i (by omega), List.getElem?_eq_getElem hlt, hv]
      have hgrl := (hown.lt gr rfl).2
      have hgl : g < W.heap.size := (Array.getElem?_eq_some_iff.1 hgh).1
      have hr1 : Hid (∀ X', Below W.heap.size W X' → X'.cell? ⟨gr, i, none⟩ = some (.slice (some ⟨g, 0, none⟩) (N0 + 40) cap)) := ⟨fun X' h => (h.cell (p := ⟨gr, i, none⟩) hgrl).trans hrow⟩
      have hmk : Hid (∀ X', Below W.heap.size W X' → ∀ k, k < 40 → (k % 2 = 0 → X'.cell? ⟨g, (N0 + k) * 2, none⟩ = some (.int .i64 (-7701)) ∧ X'.cell? ⟨g, (N0 + k) * 2 + 1, none⟩ = some (.int .i64 (0))) ∧ (k % 2 = 1 → X'.cell? ⟨g, (N0 + k) * 2, none⟩ = some (.int .i64 (-7702)) ∧ X'.cell? ⟨g, (N0 + k) * 2 + 1, none⟩ = some (.int .i64 (0)))) := ⟨fun X' h k hk => by
        have hcell : ∀ k, k < 40 → ∀ i u, (rmMk 6 k)[i]? = some u → X'.cell? ⟨g, (N0 + k) * rmS 6 + i, none⟩ = some u := fun k hk i u hu => by
          rw [h.cell (p := ⟨g, (N0 + k) * rmS 6 + i, none⟩) hgl, cell_of_row _ _ _ _ _ _ hgh]
          have := hmk k hk i u hu
          rwa [show N0 + 40 - rmSp 6 = N0 from Nat.add_sub_cancel _ _] at this
        exact ⟨fun hp => ⟨(hcell k hk 0 _ (by unfold rmMk; rw [if_pos (hp)]; rfl)), (hcell k hk 1 _ (by unfold rmMk; rw [if_pos (hp)]; rfl))⟩, fun hp => ⟨(hcell k hk 0 _ (by unfold rmMk; rw [if_neg (by omega)]; rfl)), (hcell k hk 1 _ (by unfold rmMk; rw [if_neg (by omega)]; rfl))⟩⟩⟩
      have hd1 := hr1.out wr (below_of2 hbX hb)
      have hN0 : N0 ≤ 2000000 := by omega
      clear hrow hgrl hgh hv hsp hn
      go_wp2
      obtain ⟨wz, hwz⟩ : ∃ wz, wz = wr := ⟨_, rfl⟩
      rw [← hwz] at hb hc1 hd1 ⊢
      go_loopw [6] (fun v wq => ∃ k : Nat, k ≤ 40 ∧ v = .int .i64 (k : Int) ∧ Below X.heap.size X wq) (fun v _ => (41 - intOf v).toNat)
      case atStart => exact ⟨0, by omega, rfl, hb⟩
      case round =>
        clear hc1 hd1 hb hwz
        obtain ⟨k, hk, rfl, hq⟩ := hrel
        have hc1 := (hq.cell (p := ⟨R, 6, none⟩) hRlt).trans hc
        have hd1 := hr1.out _ (below_of2 hbX hq)
        have hlX : W.heap.size < X.heap.size := hXs
        by_cases hk2 : k < 40
        · have hkk : (k : Int) < 40 := by omega
          have hk0 : (0 : Int) ≤ (k : Int) := by omega
          rcases (show k % 2 = 0 ∨ k % 2 = 1 by omega) with hp | hp
          · obtain ⟨q0, q1⟩ := (hmk.out wr (below_of2 hbX hq) k hk2).1 hp
            have hp' : (k : Int) % 2 = 0 := by omega
            have n0 : ∀ o, (wr.alloc o).cell? ⟨W.heap.size, 0, none⟩ = some (.int .i64 (-7701)) := fun o => ((hq.alloc hq.size o).cell (p := ⟨W.heap.size, 0, none⟩) hlX).trans (cell_of_row _ _ 0 _ _ _ hMx.out)
            have n1 : ∀ o, (wr.alloc o).cell? ⟨W.heap.size, 1, none⟩ = some (.int .i64 (0)) := fun o => ((hq.alloc hq.size o).cell (p := ⟨W.heap.size, 1, none⟩) hlX).trans (cell_of_row _ _ 1 _ _ _ hMx.out)
            clear hmk
            go_wp2
            go_roundw
            case rel => exact ⟨k + 1, by omega, by go_num, (hq.alloc hq.size _).alloc (by simp; have := hq.size; omega) _⟩
            case measure => simp [intOf]; omega
          · obtain ⟨q0, q1⟩ := (hmk.out wr (below_of2 hbX hq) k hk2).2 hp
            have hp' : (k : Int) % 2 = 1 := by omega
            have n0 : ∀ o, (wr.alloc o).cell? ⟨W.heap.size, 2, none⟩ = some (.int .i64 (-7702)) := fun o => ((hq.alloc hq.size o).cell (p := ⟨W.heap.size, 2, none⟩) hlX).trans (cell_of_row _ _ 2 _ _ _ hMx.out)
            have n1 : ∀ o, (wr.alloc o).cell? ⟨W.heap.size, 3, none⟩ = some (.int .i64 (0)) := fun o => ((hq.alloc hq.size o).cell (p := ⟨W.heap.size, 3, none⟩) hlX).trans (cell_of_row _ _ 3 _ _ _ hMx.out)
            clear hmk
            go_wp2
            go_roundw
            case rel => exact ⟨k + 1, by omega, by go_num, (hq.alloc hq.size _).alloc (by simp; have := hq.size; omega) _⟩
            case measure => simp [intOf]; omega
        · obtain rfl : k = 40 := by omega
          have h1 := hlth.out
          have h2 := hcl.out
          have h3 : (i : Int) < 2000000000 := by omega
          have h4 : (0 : Int) ≤ (i : Int) := by omega
          go_wp2
          go_roundw
          case rel =>
            have h1 := hlth.out
            have h2 := hcl.out
            exact ⟨i + 1, by omega, by go_num, hq⟩
          case measure =>
            have h1 := hlth.out
            have h2 := hcl.out
            simp [intOf]
            omega
    · obtain rfl : i = vs.length := by omega
      go_wp2
      go_ret
      exact ⟨rfl, below_of2 hbX hb⟩

end Go.Proofs.YthnmjafoplfikaaGreatDoor


namespace Go.Proofs.YthnmjafoplfikaaGreatDoor
open Go.RowKit

set_option maxRecDepth 100000 in
set_option maxHeartbeats 4000000 in
theorem holdTexts_rm (R lo N : Nat) (K : Nat → Value) (V : Nat → List Value) (W : World) (hN : N ≤ 2000000000) (hR : RmAt W R lo K V N) :
    Calls Tryz.prog 43 #[.pointer (some ⟨R, 0, none⟩)] W fun e W' => e = .returned (.bool true) ∧ Below W.heap.size W W' := by
  have hbX := bel_alloc W (.cells #[.string ⟨#[60, 111, 110, 101, 62]⟩, .string ⟨#[60, 116, 119, 111, 62]⟩] 9)
  have hMx := Hid.mk (heap_alloc_new W (.cells #[.string ⟨#[60, 111, 110, 101, 62]⟩, .string ⟨#[60, 116, 119, 111, 62]⟩] 9))
  have hXs : W.heap.size < (W.alloc (.cells #[.string ⟨#[60, 111, 110, 101, 62]⟩, .string ⟨#[60, 116, 119, 111, 62]⟩] 9)).heap.size := by simp
  obtain ⟨ka, kc, hK⟩ := own_shape (hR.own 4 (by decide))
  have hRX := hR.new hbX
  have hc := (hRX.cell (j := 4) (by decide)).1
  have hcl := Hid.mk (hR.few 4 (by decide))
  have hown := hR.own 4 (by decide)
  have hmks := Hid.mk (hR.mks 4 (by decide))
  rw [hK] at hc hown
  have e1 : ∀ w : World, (binOp .neq 9 (.string ⟨#[60, 111, 110, 101, 62]⟩) (.string ⟨#[60, 111, 110, 101, 62]⟩)).run Tryz.prog w = .ok (.bool false) w := fun _ => by kernel_rfl
  have e2 : ∀ w : World, (binOp .neq 9 (.string ⟨#[60, 116, 119, 111, 62]⟩) (.string ⟨#[60, 116, 119, 111, 62]⟩)).run Tryz.prog w = .ok (.bool false) w := fun _ => by kernel_rfl
  have hRlt := hRX.lt
  clear hR hRX hK
  go_enter Tryz.func43, Tryz.ntmps43
  go_wp2
  generalize W.alloc (.cells #[.string ⟨#[60, 111, 110, 101, 62]⟩, .string ⟨#[60, 116, 119, 111, 62]⟩] 9) = X at *
  generalize V 4 = vs at *
  go_loopw [4] (fun v wr => ∃ i : Nat, i ≤ vs.length ∧ v = .int .i64 (i : Int) ∧ Below X.heap.size X wr) (fun v _ => vs.length - (intOf v).toNat)
  case atStart => exact ⟨0, Nat.zero_le _, rfl, Below.refl _ _⟩
  case round =>
    obtain ⟨i, hi, rfl, hb⟩ := hrel
    have hc1 := (hb.cell (p := ⟨R, 4, none⟩) hRlt).trans hc
    by_cases hlt : i < vs.length
    · have hlt' : (i : Int) < (vs.length : Int) := by omega
      have hi0 : (0 : Int) ≤ (i : Int) := by omega
      have hlth := Hid.mk hlt
      obtain ⟨gr, cap2, hg, -⟩ := own_lit2 hown (by omega)
      injection hg with hg1 _ hg2
      subst hg1 hg2
      obtain ⟨g, n, cap, cs, f, hv, hgh, hsp, hn, hmk⟩ := hmks.out _ (List.getElem_mem hlt)
      obtain ⟨N0, rfl⟩ : ∃ N0, n = N0 + 40 := ⟨n - 40, by have : rmSp 4 = 40 := rfl; omega⟩
      have hrow : W.cell? ⟨gr, i, none⟩ = some (.slice (some ⟨g, 0, none⟩) (N0 + 40) cap) := by rw [hown.cellAt i (by omega), List.getElem?_eq_getElem hlt, hv]
      have hgrl := (hown.lt gr rfl).2
      have hgl : g < W.heap.size := (Array.getElem?_eq_some_iff.1 hgh).1
      have hr1 : Hid (∀ X', Below W.heap.size W X' → X'.cell? ⟨gr, i, none⟩ = some (.slice (some ⟨g, 0, none⟩) (N0 + 40) cap)) := ⟨fun X' h => (h.cell (p := ⟨gr, i, none⟩) hgrl).trans hrow⟩
      have hmk : Hid (∀ X', Below W.heap.size W X' → ∀ k, k < 40 → (k % 2 = 0 → X'.cell? ⟨g, N0 + k, none⟩ = some (.string ⟨#[60, 111, 110, 101, 62]⟩)) ∧ (k % 2 = 1 → X'.cell? ⟨g, N0 + k, none⟩ = some (.string ⟨#[60, 116, 119, 111, 62]⟩))) := ⟨fun X' h k hk => by
        have hcell : ∀ k, k < 40 → ∀ i u, (rmMk 4 k)[i]? = some u → X'.cell? ⟨g, (N0 + k) * rmS 4 + i, none⟩ = some u := fun k hk i u hu => by
          rw [h.cell (p := ⟨g, (N0 + k) * rmS 4 + i, none⟩) hgl, cell_of_row _ _ _ _ _ _ hgh]
          have := hmk k hk i u hu
          rwa [show N0 + 40 - rmSp 4 = N0 from Nat.add_sub_cancel _ _] at this
        exact ⟨fun hp => (by have h := (hcell k hk 0 _ (by unfold rmMk; rw [if_pos (hp)]; rfl)); rw [show (N0 + k) * rmS 4 + 0 = N0 + k from by simp [rmS]] at h; exact h), fun hp => (by have h := (hcell k hk 0 _ (by unfold rmMk; rw [if_neg (by omega)]; rfl)); rw [show (N0 + k) * rmS 4 + 0 = N0 + k from by simp [rmS]] at h; exact h)⟩⟩
      have hd1 := hr1.out wr (below_of2 hbX hb)
      have hN0 : N0 ≤ 2000000 := by omega
      clear hrow hgrl hgh hv hsp hn
      go_wp2
      obtain ⟨wz, hwz⟩ : ∃ wz, wz = wr := ⟨_, rfl⟩
      rw [← hwz] at hb hc1 hd1 ⊢
      go_loopw [6] (fun v wq => ∃ k : Nat, k ≤ 40 ∧ v = .int .i64 (k : Int) ∧ Below X.heap.size X wq) (fun v _ => (41 - intOf v).toNat)
      case atStart => exact ⟨0, by omega, rfl, hb⟩
      case round =>
        clear hc1 hd1 hb hwz
        obtain ⟨k, hk, rfl, hq⟩ := hrel
        have hc1 := (hq.cell (p := ⟨R, 4, none⟩) hRlt).trans hc
        have hd1 := hr1.out _ (below_of2 hbX hq)
        have hlX : W.heap.size < X.heap.size := hXs
        by_cases hk2 : k < 40
        · have hkk : (k : Int) < 40 := by omega
          have hk0 : (0 : Int) ≤ (k : Int) := by omega
          rcases (show k % 2 = 0 ∨ k % 2 = 1 by omega) with hp | hp
          · obtain q0 := (hmk.out wr (below_of2 hbX hq) k hk2).1 hp
            have hp' : (k : Int) % 2 = 0 := by omega
            have n0 : wr.cell? ⟨W.heap.size, 0, none⟩ = some (.string ⟨#[60, 111, 110, 101, 62]⟩) := (hq.cell (p := ⟨W.heap.size, 0, none⟩) hlX).trans (cell_of_row _ _ 0 _ _ _ hMx.out)
            clear hmk
            go_wp2
            go_roundw
            case rel => exact ⟨k + 1, by omega, by go_num, hq⟩
            case measure => simp [intOf]; omega
          · obtain q0 := (hmk.out wr (below_of2 hbX hq) k hk2).2 hp
            have hp' : (k : Int) % 2 = 1 := by omega
            have n0 : wr.cell? ⟨W.heap.size, 1, none⟩ = some (.string ⟨#[60, 116, 119, 111, 62]⟩) := (hq.cell (p := ⟨W.heap.size, 1, none⟩) hlX).trans (cell_of_row _ _ 1 _ _ _ hMx.out)
            clear hmk
            go_wp2
            go_roundw
            case rel => exact ⟨k + 1, by omega, by go_num, hq⟩
            case measure => simp [intOf]; omega
        · obtain rfl : k = 40 := by omega
          have h1 := hlth.out
          have h2 := hcl.out
          have h3 : (i : Int) < 2000000000 := by omega
          have h4 : (0 : Int) ≤ (i : Int) := by omega
          go_wp2
          go_roundw
          case rel =>
            have h1 := hlth.out
            have h2 := hcl.out
            exact ⟨i + 1, by omega, by go_num, hq⟩
          case measure =>
            have h1 := hlth.out
            have h2 := hcl.out
            simp [intOf]
            omega
    · obtain rfl : i = vs.length := by omega
      go_wp2
      go_ret
      exact ⟨rfl, below_of2 hbX hb⟩

end Go.Proofs.YthnmjafoplfikaaGreatDoor


namespace Go.Proofs.YthnmjafoplfikaaGreatDoor
open Go.RowKit

theorem RmAt.none {W : World} {R lo : Nat} {K : Nat → Value} {V : Nat → List Value} {N : Nat} (h : RmAt W R lo K V N) (j : Nat) (hj : j < 21) (h0 : rmT j = 0) : W.cell? ⟨R, j, none⟩ = some (.slice none 0 0) := by
  rw [(h.cell hj).1, h.nil j hj (h.un j hj h0)]

set_option maxHeartbeats 4000000 in
/-- No mark is written over. -/
theorem hold_rm (R lo N : Nat) (K : Nat → Value) (V : Nat → List Value) (W : World) (hN : N ≤ 2000000000) (hR : RmAt W R lo K V N) :
    Calls Tryz.prog 15 #[.pointer (some ⟨R, 0, none⟩)] W fun e W' => e = .returned (.bool true) ∧ Below W.heap.size W W' := by
  have hB := Below.refl W.heap.size W
  go_enter Tryz.func15, Tryz.ntmps15
  go_wp2_with (first | (go_at_call 39; refine (holdBytes_nil R _ (hR.none 0 (by decide) rfl)).mono ?_; rintro _ X ⟨rfl, hb⟩; replace hR := hR.new hb; replace hB := below_of2 hB hb; clear hb) | (go_at_call 40; refine (holdInts_nil R _ (hR.none 1 (by decide) rfl)).mono ?_; rintro _ X ⟨rfl, hb⟩; replace hR := hR.new hb; replace hB := below_of2 hB hb; clear hb) | (go_at_call 41; refine (holdCells_nil R _ (hR.none 2 (by decide) rfl)).mono ?_; rintro _ X ⟨rfl, hb⟩; replace hR := hR.new hb; replace hB := below_of2 hB hb; clear hb) | (go_at_call 42; refine (holdBools_nil R _ (hR.none 3 (by decide) rfl)).mono ?_; rintro _ X ⟨rfl, hb⟩; replace hR := hR.new hb; replace hB := below_of2 hB hb; clear hb) | (go_at_call 43; refine (holdTexts_rm R lo N K V _ hN hR).mono ?_; rintro _ X ⟨rfl, hb⟩; replace hR := hR.new hb; replace hB := below_of2 hB hb; clear hb) | (go_at_call 44; refine (holdValues_nil R _ (hR.none 5 (by decide) rfl)).mono ?_; rintro _ X ⟨rfl, hb⟩; replace hR := hR.new hb; replace hB := below_of2 hB hb; clear hb) | (go_at_call 45; refine (holdBands_rm R lo N K V _ hN hR).mono ?_; rintro _ X ⟨rfl, hb⟩; replace hR := hR.new hb; replace hB := below_of2 hB hb; clear hb) | (go_at_call 46; refine (holdTokens_nil R _ (hR.none 7 (by decide) rfl)).mono ?_; rintro _ X ⟨rfl, hb⟩; replace hR := hR.new hb; replace hB := below_of2 hB hb; clear hb) | (go_at_call 47; refine (holdReads_nil R _ (hR.none 8 (by decide) rfl)).mono ?_; rintro _ X ⟨rfl, hb⟩; replace hR := hR.new hb; replace hB := below_of2 hB hb; clear hb) | (go_at_call 48; refine (holdConflicts_nil R _ (hR.none 9 (by decide) rfl)).mono ?_; rintro _ X ⟨rfl, hb⟩; replace hR := hR.new hb; replace hB := below_of2 hB hb; clear hb) | (go_at_call 49; refine (holdPoints_nil R _ (hR.none 10 (by decide) rfl)).mono ?_; rintro _ X ⟨rfl, hb⟩; replace hR := hR.new hb; replace hB := below_of2 hB hb; clear hb) | (go_at_call 50; refine (holdNodes_nil R _ (hR.none 11 (by decide) rfl)).mono ?_; rintro _ X ⟨rfl, hb⟩; replace hR := hR.new hb; replace hB := below_of2 hB hb; clear hb) | (go_at_call 51; refine (holdRecords_nil R _ (hR.none 12 (by decide) rfl)).mono ?_; rintro _ X ⟨rfl, hb⟩; replace hR := hR.new hb; replace hB := below_of2 hB hb; clear hb) | (go_at_call 52; refine (holdFiles_nil R _ (hR.none 13 (by decide) rfl)).mono ?_; rintro _ X ⟨rfl, hb⟩; replace hR := hR.new hb; replace hB := below_of2 hB hb; clear hb) | (go_at_call 53; refine (holdExprs_rm R lo N K V _ hN hR).mono ?_; rintro _ X ⟨rfl, hb⟩; replace hR := hR.new hb; replace hB := below_of2 hB hb; clear hb) | (go_at_call 54; refine (holdClauses_rm R lo N K V _ hN hR).mono ?_; rintro _ X ⟨rfl, hb⟩; replace hR := hR.new hb; replace hB := below_of2 hB hb; clear hb) | (go_at_call 55; refine (holdLines_rm R lo N K V _ hN hR).mono ?_; rintro _ X ⟨rfl, hb⟩; replace hR := hR.new hb; replace hB := below_of2 hB hb; clear hb) | (go_at_call 56; refine (holdChecks_rm R lo N K V _ hN hR).mono ?_; rintro _ X ⟨rfl, hb⟩; replace hR := hR.new hb; replace hB := below_of2 hB hb; clear hb) | (go_at_call 57; refine (holdOptions_rm R lo N K V _ hN hR).mono ?_; rintro _ X ⟨rfl, hb⟩; replace hR := hR.new hb; replace hB := below_of2 hB hb; clear hb) | (go_at_call 58; refine (holdTables_rm R lo N K V _ hN hR).mono ?_; rintro _ X ⟨rfl, hb⟩; replace hR := hR.new hb; replace hB := below_of2 hB hb; clear hb) | (go_at_call 59; refine (holdGroups_rm R lo N K V _ hN hR).mono ?_; rintro _ X ⟨rfl, hb⟩; replace hR := hR.new hb; replace hB := below_of2 hB hb; clear hb))
  go_ret
  exact ⟨rfl, hB⟩

end Go.Proofs.YthnmjafoplfikaaGreatDoor


namespace Go.Proofs.YthnmjafoplfikaaGreatDoor
open Go.ChangeShapes Go.WideShapes Go.ChangeAt Go.WideMaps Go.WideElems Go.RowKit

theorem cellsI : Tryz.prog.cellsOf 3 = 1 := by kernel_rfl
theorem cellsI64 : Tryz.prog.cellsOf 2 = 1 := by kernel_rfl
theorem cellsS : Tryz.prog.cellsOf 9 = 1 := by kernel_rfl
theorem cellsBo : Tryz.prog.cellsOf 4 = 1 := by kernel_rfl
theorem cellsE : Tryz.prog.cellsOf 73 = 5 := by kernel_rfl
theorem cellsSE : Tryz.prog.cellsOf 71 = 1 := by kernel_rfl

theorem rg_of {n : Int} (h : (Lit.int .i64 n).wf = true) : Rg n := by
  simp [Lit.wf] at h
  exact h
end Go.Proofs.YthnmjafoplfikaaGreatDoor


namespace Go.Proofs.YthnmjafoplfikaaGreatDoor
open Go.ChangeShapes Go.WideShapes Go.ChangeAt Go.WideMaps Go.WideElems Go.RowKit

theorem cellsSS : Tryz.prog.cellsOf 64 = 1 := by kernel_rfl
theorem cellsSB : Tryz.prog.cellsOf 67 = 1 := by kernel_rfl
theorem cellsSC : Tryz.prog.cellsOf 76 = 1 := by kernel_rfl
theorem cellsSO : Tryz.prog.cellsOf 22 = 1 := by kernel_rfl
theorem cellsST : Tryz.prog.cellsOf 23 = 1 := by kernel_rfl
theorem cellsSG : Tryz.prog.cellsOf 24 = 1 := by kernel_rfl
theorem cellsSL : Tryz.prog.cellsOf 25 = 1 := by kernel_rfl
theorem cellsSK : Tryz.prog.cellsOf 26 = 1 := by kernel_rfl
end Go.Proofs.YthnmjafoplfikaaGreatDoor


/- A pack that came in, with its weights: no list is longer than 2^47. -/
namespace Go.Proofs.YthnmjafoplfikaaGreatDoor
open Go.ChangeShapes Go.WideShapes Go.ChangeAt Go.WideMaps Go.WideElems Go.RowKit

theorem w_mem {H : Type} {P : Program} {e : TypeId} {d : DataW H} {n : Nat} : ∀ {l : List (DataW H)}, d ∈ l → n ∈ d.weights P e → n ∈ DataW.weightsAll P e l
  | x :: l, h, hn => by
    simp only [DataW.weightsAll, List.mem_append]
    rcases List.mem_cons.1 h with rfl | h
    · exact .inl hn
    · exact .inr (w_mem h hn)
def SwF : Fo → Prop
  | .nil => True
  | .cons _ _ _ _ args rest => (args.len ≤ 140737488355328 ∧ SwF args) ∧ SwF rest
def SwE (x : Ex) : Prop := x.args.len ≤ 140737488355328 ∧ SwF x.args
def SwC (c : Cl) : Prop := SwE c.guard ∧ SwE c.body
def SwL (l : Ln) : Prop := l.cls.length ≤ 140737488355328 ∧ ∀ c ∈ l.cls, SwC c
def SwP (p : Pk) : Prop := (p.opts.length ≤ 140737488355328 ∧ ∀ o ∈ p.opts, o.2.length ≤ 140737488355328) ∧ (p.tabs.length ≤ 140737488355328 ∧ ∀ o ∈ p.tabs, o.2.length ≤ 140737488355328) ∧ p.grps.length ≤ 140737488355328 ∧ (p.lns.length ≤ 140737488355328 ∧ ∀ o ∈ p.lns, SwL o) ∧ p.cks.length ≤ 140737488355328 ∧ ∀ o ∈ p.cks, SwE o.when_
theorem sw_of : ∀ l : List Ex, (∀ e ∈ l, SwE e) → SwF (ofL l)
  | [], _ => trivial
  | e :: l, h => ⟨h e (by simp), sw_of l (fun x hx => h x (List.mem_cons_of_mem _ hx))⟩
set_option maxRecDepth 100000 in
/-- A list that came in, whatever its items are. -/
theorem wopen_row {α : Type} (D : Elt α) (Z : α → Prop) {t e : TypeId} (ht : Tryz.prog.underlying t = some (.slice e)) (hk : Tryz.prog.cellsOf e = D.k) (hp : 0 < D.k) (hby : 0 < Tryz.prog.bytesOf e) {H : Type} {enc : TypeId × Value → H} {W : World} {fuel : Nat} {cs : List Value} {x : DataW H × List MemPlace} (hf : DataW.trod enc Tryz.prog W 0 (fun _ => true) true fuel t cs = some x) (hz : ∀ n ∈ x.1.weights Tryz.prog t, n ≤ reachBytes)
    (el : ∀ (n : Nat) (cs' : List Value) (x' : DataW H × List MemPlace), n < fuel → cs'.length = D.k → DataW.trod enc Tryz.prog W 0 (fun _ => true) true n e cs' = some x' → (∀ n ∈ x'.1.weights Tryz.prog e, n ≤ reachBytes) → ∃ o, D.E W AnyB o cs' ∧ Z o) : ∃ (l : List α) (a : Option Addr) (cap : Nat), cs = [.slice a l.length cap] ∧ l.length ≤ 140737488355328 ∧ RowR D W AnyB l a ∧ ∀ o ∈ l, Z o := by
  rcases DataW.trod_slice ht hf with ⟨hcs, hx⟩ | ⟨a, len, cap, elems, rest, n, hfu, hcs, hx, _, hl, hm, hlen, hel, -, -⟩
  · exact ⟨[], none, 0, hcs, by simp, .inl rfl, fun o ho => by cases ho⟩
  · have hw : ∀ m, m ∈ (DataW.slice (elems.map (·.1)) (rest.map (·.1)) : DataW H).weights Tryz.prog t → m ≤ reachBytes := by rw [hx] at hz; exact hz
    simp only [DataW.weights, ht] at hw
    have hlw : len ≤ 140737488355328 := by
      have h := hw _ List.mem_cons_self
      have h2 : elems.length * 1 ≤ (elems.length + rest.length) * Tryz.prog.bytesOf e := Nat.mul_le_mul (Nat.le_add_right _ _) hby
      simp at h
      unfold reachBytes at h
      omega
    rw [hk] at hel
    by_cases h0 : len = 0
    · subst h0
      exact ⟨[], some a, cap, hcs, by simp, .inl rfl, fun o ho => by cases ho⟩
    have key0 : ∀ i, i < len → ∃ cs', W.cells? 0 (a.add (i * D.k)) D.k = some cs' ∧ ∃ y, DataW.trod enc Tryz.prog W 0 (fun _ => true) true n e cs' = some y ∧ y ∈ elems := fun i hi => by
      have h := hel i hi
      rw [List.getElem?_eq_getElem (by omega)] at h
      cases hc : W.cells? 0 (a.add (i * D.k)) D.k with
      | none => rw [hc] at h; cases h
      | some cs' =>
        rw [hc] at h
        exact ⟨cs', rfl, _, h, List.getElem_mem _⟩
    obtain ⟨b, off, spot⟩ := a
    have hspot : spot = none := by
      obtain ⟨cs', h1, -⟩ := key0 0 (by omega)
      obtain ⟨_, hlen, hc⟩ := World.cells?_some h1
      have h2 := hc 0 (by omega)
      obtain ⟨c, hcc⟩ : ∃ c, cs'[0]? = some c := ⟨cs'[0]'(by omega), List.getElem?_eq_getElem _⟩
      rw [hcc] at h2
      simpa [Addr.add] using World.cell?_spot h2
    subst hspot
    have key : ∀ i, i < len → ∃ oc : α × List Value, oc.2.length = D.k ∧ D.E W AnyB oc.1 oc.2 ∧ Z oc.1 ∧ ∀ j, j < D.k → W.cell? ⟨b, off + i * D.k + j, none⟩ = oc.2[j]? := fun i hi => by
      obtain ⟨cs', h1, y, h2, hy⟩ := key0 i hi
      obtain ⟨_, hlen', hc⟩ := World.cells?_some h1
      obtain ⟨o, ho, hz⟩ := el n cs' y (by omega) hlen' h2 (fun m hm => hw m (List.mem_cons_of_mem _ (List.mem_append.2 (.inl (w_mem (List.mem_map.2 ⟨y, hy, rfl⟩) hm)))))
      refine ⟨(o, cs'), hlen', ho, hz, fun j hj => ?_⟩
      have := hc j hj
      rwa [add_plain, add_plain] at this
    obtain ⟨q, hq⟩ : ∃ q : Nat → α × List Value, ∀ i, i < len → (q i).2.length = D.k ∧ D.E W AnyB (q i).1 (q i).2 ∧ Z (q i).1 ∧ ∀ j, j < D.k → W.cell? ⟨b, off + i * D.k + j, none⟩ = (q i).2[j]? := by
      obtain ⟨o0, -⟩ := key 0 (by omega)
      refine ⟨fun i => if h : i < len then Classical.choose (key i h) else o0, fun i hi => ?_⟩
      simp only [dif_pos hi]
      exact Classical.choose_spec (key i hi)
    have hb : b < W.heap.size := by
      have h := (hq 0 (by omega)).2.2.2 0 hp
      rw [List.getElem?_eq_getElem (by rw [(hq 0 (by omega)).1]; exact hp)] at h
      exact World.block_lt_of_cell? _ _ h
    have hrow : ∀ m, m ≤ len → ∃ cs2, Elems D W AnyB ((List.range m).map (fun i => (q i).1)) cs2 ∧ ∀ j, j < cs2.length → W.cell? ⟨b, off + j, none⟩ = cs2[j]? := fun m => by
      induction m with
      | zero => exact fun _ => ⟨[], Elems.nil _ _ _, fun j hj => by simp at hj⟩
      | succ m ih =>
        intro hm1
        obtain ⟨cs2, h1, h2⟩ := ih (by omega)
        obtain ⟨g1, g2, -, g4⟩ := hq m (by omega)
        have hcl := h1.1
        rw [List.length_map, List.length_range] at hcl
        refine ⟨cs2 ++ (q m).2, by rw [List.range_succ, List.map_append]; exact h1.snoc g2, fun j hj => ?_⟩
        by_cases hj2 : j < cs2.length
        · rw [h2 j hj2, List.getElem?_append_left hj2]
        · rw [List.length_append, g1] at hj
          have := g4 (j - cs2.length) (by omega)
          rw [List.getElem?_append_right (by omega), ← this]
          congr 2
          omega
    obtain ⟨cs2, h1, h2⟩ := hrow len (Nat.le_refl _)
    refine ⟨(List.range len).map (fun i => (q i).1), some ⟨b, off, none⟩, cap, by rw [List.length_map, List.length_range]; exact hcs, by rw [List.length_map, List.length_range]; exact hlw, .inr ⟨b, off, cs2, rfl, trivial, hb, h2, h1⟩, fun o ho => ?_⟩
    obtain ⟨i, hi, rfl⟩ := List.mem_map.1 ho
    exact (hq i (List.mem_range.1 hi)).2.2.1
set_option maxRecDepth 100000 in
set_option maxHeartbeats 1000000 in
theorem wopen_expr {H : Type} {enc : TypeId × Value → H} {W : World} : ∀ (fuel : Nat) (cs : List Value) (x : DataW H × List MemPlace), DataW.trod enc Tryz.prog W 0 (fun _ => true) true fuel 73 cs = some x → (∀ n ∈ x.1.weights Tryz.prog 73, n ≤ reachBytes) → ∃ o, eE.E W AnyB o cs ∧ SwE o := fun fuel => by
  induction fuel using Nat.strongRecOn with
  | _ fuel ih =>
    intro cs x hf hz
    obtain ⟨xs, n, hfu, hx, hcl, hl, hg⟩ := DataW.trod_struct Tryz.underlying73 hf
    rw [cellsE] at hcl
    match cs, hcl, xs, hl with
    | [v0, v1, v2, v3, v4], _, [y0, y1, y2, y3, y4], _ =>
      have g0 := hg 0 _ rfl
      have g1 := hg 1 _ rfl
      have g2 := hg 2 _ rfl
      have g3 := hg 3 _ rfl
      have g4 := hg 4 _ rfl
      simp [cellsI, cellsI64, cellsSE] at g0 g1 g2 g3 g4
      obtain ⟨z0, e0, _, w0⟩ := DataW.trod_int Tryz.underlying3 g0
      obtain ⟨z1, e1, _, w1⟩ := DataW.trod_int Tryz.underlying2 g1
      obtain ⟨z2, e2, _, w2⟩ := DataW.trod_int Tryz.underlying2 g2
      obtain ⟨z3, e3, _, w3⟩ := DataW.trod_int Tryz.underlying3 g3
      obtain ⟨l, a, cap, e4, hl4, hR, hZ⟩ := wopen_row eE SwE Tryz.underlying71 cellsE (by decide) (of_decide_eq_true (by kernel_rfl)) g4 (fun n hn => hz n (by rw [hx]; simp only [DataW.weights, Tryz.underlying73]; exact DataW.weights_mem_each (j := 4) (t := 71) (d := y4.1) rfl rfl _ hn)) (fun m cs' x' hm _ h hz => ih m (by omega) cs' x' h hz)
      simp at e0 e1 e2 e3 e4
      subst e0 e1 e2 e3 e4
      refine ⟨⟨z0, z1, z2, z3, ofL l⟩, ⟨a, cap, by simp only [ofL_len], ⟨rg_of w0, rg_of w1, rg_of w2, rg_of w3⟩, fo_of_row hR⟩, by rw [ofL_len]; exact hl4, sw_of l hZ⟩

theorem wopen_text {H : Type} {enc : TypeId × Value → H} {W : World} (fuel : Nat) (cs : List Value) (x : DataW H × List MemPlace) (hf : DataW.trod enc Tryz.prog W 0 (fun _ => true) true fuel 9 cs = some x) (_ : ∀ n ∈ x.1.weights Tryz.prog 9, n ≤ reachBytes) : ∃ o : List UInt8, eS.E W AnyB o cs ∧ (True) := by
  obtain ⟨s, e, _, _⟩ := DataW.trod_string Tryz.underlying9 hf
  exact ⟨s.data.toList, by rw [e]; rfl, trivial⟩
set_option maxRecDepth 100000 in
set_option maxHeartbeats 1000000 in
theorem wopen_band {H : Type} {enc : TypeId × Value → H} {W : World} (fuel : Nat) (cs : List Value) (x : DataW H × List MemPlace) (hf : DataW.trod enc Tryz.prog W 0 (fun _ => true) true fuel 121 cs = some x) (_ : ∀ n ∈ x.1.weights Tryz.prog 121, n ≤ reachBytes) : ∃ o : Int × Int, eBd.E W AnyB o cs ∧ (True) := by
  obtain ⟨xs, n, hfu, hx, hcl, hl, hg⟩ := DataW.trod_struct Tryz.underlying121 hf
  rw [show Tryz.prog.cellsOf 121 = 2 from by kernel_rfl] at hcl
  match cs, hcl, xs, hl with
  | [v0, v1], _, [y0, y1], _ =>
    have g0 := hg 0 _ rfl
    have g1 := hg 1 _ rfl
    simp [cellsI64] at g0 g1
    obtain ⟨z0, e0, _, w0⟩ := DataW.trod_int Tryz.underlying2 g0
    obtain ⟨z1, e1, _, w1⟩ := DataW.trod_int Tryz.underlying2 g1
    simp at e0 e1
    subst e0
    subst e1
    exact ⟨(z0, z1), ⟨rfl, rg_of w0, rg_of w1⟩, trivial⟩
set_option maxRecDepth 100000 in
set_option maxHeartbeats 1000000 in
theorem wopen_group {H : Type} {enc : TypeId × Value → H} {W : World} (fuel : Nat) (cs : List Value) (x : DataW H × List MemPlace) (hf : DataW.trod enc Tryz.prog W 0 (fun _ => true) true fuel 96 cs = some x) (_ : ∀ n ∈ x.1.weights Tryz.prog 96, n ≤ reachBytes) : ∃ o : List UInt8 × Int, eG.E W AnyB o cs ∧ (True) := by
  obtain ⟨xs, n, hfu, hx, hcl, hl, hg⟩ := DataW.trod_struct Tryz.underlying96 hf
  rw [show Tryz.prog.cellsOf 96 = 2 from by kernel_rfl] at hcl
  match cs, hcl, xs, hl with
  | [v0, v1], _, [y0, y1], _ =>
    have g0 := hg 0 _ rfl
    have g1 := hg 1 _ rfl
    simp [cellsI, cellsS] at g0 g1
    obtain ⟨s0, e0, _, _⟩ := DataW.trod_string Tryz.underlying9 g0
    obtain ⟨z1, e1, _, w1⟩ := DataW.trod_int Tryz.underlying3 g1
    simp at e0 e1
    subst e0
    subst e1
    exact ⟨(s0.data.toList, z1), ⟨rfl, rg_of w1⟩, trivial⟩
set_option maxRecDepth 100000 in
set_option maxHeartbeats 1000000 in
theorem wopen_options {H : Type} {enc : TypeId × Value → H} {W : World} (fuel : Nat) (cs : List Value) (x : DataW H × List MemPlace) (hf : DataW.trod enc Tryz.prog W 0 (fun _ => true) true fuel 66 cs = some x) (hz : ∀ n ∈ x.1.weights Tryz.prog 66, n ≤ reachBytes) : ∃ o : List UInt8 × List (List UInt8), eO.E W AnyB o cs ∧ (o.2.length ≤ 140737488355328) := by
  obtain ⟨xs, n, hfu, hx, hcl, hl, hg⟩ := DataW.trod_struct Tryz.underlying66 hf
  rw [show Tryz.prog.cellsOf 66 = 2 from by kernel_rfl] at hcl
  match cs, hcl, xs, hl with
  | [v0, v1], _, [y0, y1], _ =>
    have g0 := hg 0 _ rfl
    have g1 := hg 1 _ rfl
    simp [cellsS, cellsSS] at g0 g1
    obtain ⟨s0, e0, _, _⟩ := DataW.trod_string Tryz.underlying9 g0
    obtain ⟨l1, a1, c1, e1, h1, R1, _⟩ := wopen_row eS (fun _ => True) Tryz.underlying64 (by kernel_rfl) (by decide) (of_decide_eq_true (by kernel_rfl)) g1 (fun n hn => hz n (by rw [hx]; simp only [DataW.weights, Tryz.underlying66]; exact DataW.weights_mem_each (j := 1) (t := 64) (d := y1.1) rfl rfl _ hn)) (fun m cs' x' _ _ h hz => wopen_text m cs' x' h hz)
    simp at e0 e1
    subst e0
    subst e1
    exact ⟨(s0.data.toList, l1), ⟨a1, c1, rfl, R1⟩, h1⟩
set_option maxRecDepth 100000 in
set_option maxHeartbeats 1000000 in
theorem wopen_table {H : Type} {enc : TypeId × Value → H} {W : World} (fuel : Nat) (cs : List Value) (x : DataW H × List MemPlace) (hf : DataW.trod enc Tryz.prog W 0 (fun _ => true) true fuel 69 cs = some x) (hz : ∀ n ∈ x.1.weights Tryz.prog 69, n ≤ reachBytes) : ∃ o : List UInt8 × List (Int × Int), eT.E W AnyB o cs ∧ (o.2.length ≤ 140737488355328) := by
  obtain ⟨xs, n, hfu, hx, hcl, hl, hg⟩ := DataW.trod_struct Tryz.underlying69 hf
  rw [show Tryz.prog.cellsOf 69 = 2 from by kernel_rfl] at hcl
  match cs, hcl, xs, hl with
  | [v0, v1], _, [y0, y1], _ =>
    have g0 := hg 0 _ rfl
    have g1 := hg 1 _ rfl
    simp [cellsS, cellsSB] at g0 g1
    obtain ⟨s0, e0, _, _⟩ := DataW.trod_string Tryz.underlying9 g0
    obtain ⟨l1, a1, c1, e1, h1, R1, _⟩ := wopen_row eBd (fun _ => True) Tryz.underlying67 (by kernel_rfl) (by decide) (of_decide_eq_true (by kernel_rfl)) g1 (fun n hn => hz n (by rw [hx]; simp only [DataW.weights, Tryz.underlying69]; exact DataW.weights_mem_each (j := 1) (t := 67) (d := y1.1) rfl rfl _ hn)) (fun m cs' x' _ _ h hz => wopen_band m cs' x' h hz)
    simp at e0 e1
    subst e0
    subst e1
    exact ⟨(s0.data.toList, l1), ⟨a1, c1, rfl, R1⟩, h1⟩
set_option maxRecDepth 100000 in
set_option maxHeartbeats 1000000 in
theorem wopen_clause {H : Type} {enc : TypeId × Value → H} {W : World} (fuel : Nat) (cs : List Value) (x : DataW H × List MemPlace) (hf : DataW.trod enc Tryz.prog W 0 (fun _ => true) true fuel 80 cs = some x) (hz : ∀ n ∈ x.1.weights Tryz.prog 80, n ≤ reachBytes) : ∃ o : Cl, eC.E W AnyB o cs ∧ (SwC o) := by
  obtain ⟨xs, n, hfu, hx, hcl, hl, hg⟩ := DataW.trod_struct Tryz.underlying80 hf
  rw [show Tryz.prog.cellsOf 80 = 12 from by kernel_rfl] at hcl
  match cs, hcl, xs, hl with
  | [v0, v1, v2, v3, v4, v5, v6, v7, v8, v9, v10, v11], _, [y0, y1, y2, y3], _ =>
    have g0 := hg 0 _ rfl
    have g1 := hg 1 _ rfl
    have g2 := hg 2 _ rfl
    have g3 := hg 3 _ rfl
    simp [cellsI, cellsBo, cellsE] at g0 g1 g2 g3
    obtain ⟨z0, e0, _, w0⟩ := DataW.trod_int Tryz.underlying3 g0
    obtain ⟨z1, e1, _⟩ := DataW.trod_bool Tryz.underlying4 g1
    obtain ⟨x2, ⟨a2, c2, e2, r2, f2⟩, s2⟩ := wopen_expr _ _ _ g2 (fun n hn => hz n (by rw [hx]; simp only [DataW.weights, Tryz.underlying80]; exact DataW.weights_mem_each (j := 2) (t := 73) (d := y2.1) rfl rfl _ hn))
    obtain ⟨x3, ⟨a3, c3, e3, r3, f3⟩, s3⟩ := wopen_expr _ _ _ g3 (fun n hn => hz n (by rw [hx]; simp only [DataW.weights, Tryz.underlying80]; exact DataW.weights_mem_each (j := 3) (t := 73) (d := y3.1) rfl rfl _ hn))
    simp at e0 e1 e2 e3
    subst e0
    subst e1
    obtain ⟨e2_0, e2_1, e2_2, e2_3, e2_4⟩ := e2
    subst e2_0 e2_1 e2_2 e2_3 e2_4
    obtain ⟨e3_0, e3_1, e3_2, e3_3, e3_4⟩ := e3
    subst e3_0 e3_1 e3_2 e3_3 e3_4
    exact ⟨⟨z0, z1, x2, x3⟩, ⟨a2, c2, a3, c3, rfl, rg_of w0, ⟨r2, r3⟩, f2, f3⟩, s2, s3⟩
set_option maxRecDepth 100000 in
set_option maxHeartbeats 1000000 in
theorem wopen_line {H : Type} {enc : TypeId × Value → H} {W : World} (fuel : Nat) (cs : List Value) (x : DataW H × List MemPlace) (hf : DataW.trod enc Tryz.prog W 0 (fun _ => true) true fuel 78 cs = some x) (hz : ∀ n ∈ x.1.weights Tryz.prog 78, n ≤ reachBytes) : ∃ o : Ln, eL.E W AnyB o cs ∧ (SwL o) := by
  obtain ⟨xs, n, hfu, hx, hcl, hl, hg⟩ := DataW.trod_struct Tryz.underlying78 hf
  rw [show Tryz.prog.cellsOf 78 = 7 from by kernel_rfl] at hcl
  match cs, hcl, xs, hl with
  | [v0, v1, v2, v3, v4, v5, v6], _, [y0, y1, y2, y3, y4, y5, y6], _ =>
    have g0 := hg 0 _ rfl
    have g1 := hg 1 _ rfl
    have g2 := hg 2 _ rfl
    have g3 := hg 3 _ rfl
    have g4 := hg 4 _ rfl
    have g5 := hg 5 _ rfl
    have g6 := hg 6 _ rfl
    simp [cellsI, cellsS, cellsBo, cellsSC] at g0 g1 g2 g3 g4 g5 g6
    obtain ⟨s0, e0, _, _⟩ := DataW.trod_string Tryz.underlying9 g0
    obtain ⟨z1, e1, _⟩ := DataW.trod_bool Tryz.underlying4 g1
    obtain ⟨z2, e2, _⟩ := DataW.trod_bool Tryz.underlying4 g2
    obtain ⟨z3, e3, _, w3⟩ := DataW.trod_int Tryz.underlying3 g3
    obtain ⟨z4, e4, _, w4⟩ := DataW.trod_int Tryz.underlying3 g4
    obtain ⟨z5, e5, _, w5⟩ := DataW.trod_int Tryz.underlying3 g5
    obtain ⟨l6, a6, c6, e6, h6, R6, Z6⟩ := wopen_row eC SwC Tryz.underlying76 (by kernel_rfl) (by decide) (of_decide_eq_true (by kernel_rfl)) g6 (fun n hn => hz n (by rw [hx]; simp only [DataW.weights, Tryz.underlying78]; exact DataW.weights_mem_each (j := 6) (t := 76) (d := y6.1) rfl rfl _ hn)) (fun m cs' x' _ _ h hz => wopen_clause m cs' x' h hz)
    simp at e0 e1 e2 e3 e4 e5 e6
    subst e0
    subst e1
    subst e2
    subst e3
    subst e4
    subst e5
    subst e6
    exact ⟨⟨s0.data.toList, z1, z2, z3, z4, z5, l6⟩, ⟨a6, c6, rfl, ⟨rg_of w3, rg_of w4, rg_of w5⟩, R6⟩, h6, Z6⟩
set_option maxRecDepth 100000 in
set_option maxHeartbeats 1000000 in
theorem wopen_check {H : Type} {enc : TypeId × Value → H} {W : World} (fuel : Nat) (cs : List Value) (x : DataW H × List MemPlace) (hf : DataW.trod enc Tryz.prog W 0 (fun _ => true) true fuel 75 cs = some x) (hz : ∀ n ∈ x.1.weights Tryz.prog 75, n ≤ reachBytes) : ∃ o : Ck, eK.E W AnyB o cs ∧ (SwE o.when_) := by
  obtain ⟨xs, n, hfu, hx, hcl, hl, hg⟩ := DataW.trod_struct Tryz.underlying75 hf
  rw [show Tryz.prog.cellsOf 75 = 9 from by kernel_rfl] at hcl
  match cs, hcl, xs, hl with
  | [v0, v1, v2, v3, v4, v5, v6, v7, v8], _, [y0, y1, y2, y3, y4], _ =>
    have g0 := hg 0 _ rfl
    have g1 := hg 1 _ rfl
    have g2 := hg 2 _ rfl
    have g3 := hg 3 _ rfl
    have g4 := hg 4 _ rfl
    simp [cellsI, cellsS, cellsBo, cellsE] at g0 g1 g2 g3 g4
    obtain ⟨s0, e0, _, _⟩ := DataW.trod_string Tryz.underlying9 g0
    obtain ⟨z1, e1, _⟩ := DataW.trod_bool Tryz.underlying4 g1
    obtain ⟨z2, e2, _, w2⟩ := DataW.trod_int Tryz.underlying3 g2
    obtain ⟨x3, ⟨a3, c3, e3, r3, f3⟩, s3⟩ := wopen_expr _ _ _ g3 (fun n hn => hz n (by rw [hx]; simp only [DataW.weights, Tryz.underlying75]; exact DataW.weights_mem_each (j := 3) (t := 73) (d := y3.1) rfl rfl _ hn))
    obtain ⟨s4, e4, _, _⟩ := DataW.trod_string Tryz.underlying9 g4
    simp at e0 e1 e2 e3 e4
    subst e0
    subst e1
    subst e2
    obtain ⟨e3_0, e3_1, e3_2, e3_3, e3_4⟩ := e3
    subst e3_0 e3_1 e3_2 e3_3 e3_4
    subst e4
    exact ⟨⟨s0.data.toList, z1, z2, x3, s4.data.toList⟩, ⟨a3, c3, rfl, rg_of w2, r3, f3⟩, s3⟩
set_option maxRecDepth 100000 in
set_option maxHeartbeats 1000000 in
theorem wopen_pack {H : Type} {enc : TypeId × Value → H} {W : World} (fuel : Nat) (cs : List Value) (x : DataW H × List MemPlace) (hf : DataW.trod enc Tryz.prog W 0 (fun _ => true) true fuel 28 cs = some x) (hz : ∀ n ∈ x.1.weights Tryz.prog 28, n ≤ reachBytes) : ∃ o : Pk, PkE W AnyB o cs ∧ (SwP o) := by
  obtain ⟨xs, n, hfu, hx, hcl, hl, hg⟩ := DataW.trod_struct Tryz.underlying28 hf
  rw [show Tryz.prog.cellsOf 28 = 7 from by kernel_rfl] at hcl
  match cs, hcl, xs, hl with
  | [v0, v1, v2, v3, v4, v5, v6], _, [y0, y1, y2, y3, y4, y5, y6], _ =>
    have g0 := hg 0 _ rfl
    have g1 := hg 1 _ rfl
    have g2 := hg 2 _ rfl
    have g3 := hg 3 _ rfl
    have g4 := hg 4 _ rfl
    have g5 := hg 5 _ rfl
    have g6 := hg 6 _ rfl
    simp [cellsI, cellsS, cellsSG, cellsSK, cellsSL, cellsSO, cellsST] at g0 g1 g2 g3 g4 g5 g6
    obtain ⟨s0, e0, _, _⟩ := DataW.trod_string Tryz.underlying9 g0
    obtain ⟨z1, e1, _, w1⟩ := DataW.trod_int Tryz.underlying3 g1
    obtain ⟨l2, a2, c2, e2, h2, R2, Z2⟩ := wopen_row eO (fun o => o.2.length ≤ 140737488355328) Tryz.underlying22 (by kernel_rfl) (by decide) (of_decide_eq_true (by kernel_rfl)) g2 (fun n hn => hz n (by rw [hx]; simp only [DataW.weights, Tryz.underlying28]; exact DataW.weights_mem_each (j := 2) (t := 22) (d := y2.1) rfl rfl _ hn)) (fun m cs' x' _ _ h hz => wopen_options m cs' x' h hz)
    obtain ⟨l3, a3, c3, e3, h3, R3, Z3⟩ := wopen_row eT (fun o => o.2.length ≤ 140737488355328) Tryz.underlying23 (by kernel_rfl) (by decide) (of_decide_eq_true (by kernel_rfl)) g3 (fun n hn => hz n (by rw [hx]; simp only [DataW.weights, Tryz.underlying28]; exact DataW.weights_mem_each (j := 3) (t := 23) (d := y3.1) rfl rfl _ hn)) (fun m cs' x' _ _ h hz => wopen_table m cs' x' h hz)
    obtain ⟨l4, a4, c4, e4, h4, R4, _⟩ := wopen_row eG (fun _ => True) Tryz.underlying24 (by kernel_rfl) (by decide) (of_decide_eq_true (by kernel_rfl)) g4 (fun n hn => hz n (by rw [hx]; simp only [DataW.weights, Tryz.underlying28]; exact DataW.weights_mem_each (j := 4) (t := 24) (d := y4.1) rfl rfl _ hn)) (fun m cs' x' _ _ h hz => wopen_group m cs' x' h hz)
    obtain ⟨l5, a5, c5, e5, h5, R5, Z5⟩ := wopen_row eL SwL Tryz.underlying25 (by kernel_rfl) (by decide) (of_decide_eq_true (by kernel_rfl)) g5 (fun n hn => hz n (by rw [hx]; simp only [DataW.weights, Tryz.underlying28]; exact DataW.weights_mem_each (j := 5) (t := 25) (d := y5.1) rfl rfl _ hn)) (fun m cs' x' _ _ h hz => wopen_line m cs' x' h hz)
    obtain ⟨l6, a6, c6, e6, h6, R6, Z6⟩ := wopen_row eK (fun o => SwE o.when_) Tryz.underlying26 (by kernel_rfl) (by decide) (of_decide_eq_true (by kernel_rfl)) g6 (fun n hn => hz n (by rw [hx]; simp only [DataW.weights, Tryz.underlying28]; exact DataW.weights_mem_each (j := 6) (t := 26) (d := y6.1) rfl rfl _ hn)) (fun m cs' x' _ _ h hz => wopen_check m cs' x' h hz)
    simp at e0 e1 e2 e3 e4 e5 e6
    subst e0
    subst e1
    subst e2
    subst e3
    subst e4
    subst e5
    subst e6
    exact ⟨⟨s0.data.toList, z1, l2, l3, l4, l5, l6⟩, ⟨a2, c2, a3, c3, a4, c4, a5, c5, a6, c6, rfl, rg_of w1, R2, R3, R4, R5, R6⟩, ⟨h2, Z2⟩, ⟨h3, Z3⟩, h4, ⟨h5, Z5⟩, h6, Z6⟩


end Go.Proofs.YthnmjafoplfikaaGreatDoor


namespace Go.Proofs.YthnmjafoplfikaaGreatDoor
open Go.RowKit

theorem toL_sw : ∀ f : Fo, SwF f → ∀ x ∈ toL f, SwE x
  | .nil, _, x, hx => by cases hx
  | .cons a b c d y r, h, x, hx => by
    rcases List.mem_cons.1 hx with rfl | hx
    · exact h.1
    · exact toL_sw r h.2 x hx
/-- What exprParts tells: all parts, if they are at most so many. -/
def PtR (x : Ex) (most : Int) (W : World) (e : Ending) (W' : World) : Prop := ∃ r : Int, e = .returned (.int .i64 r) ∧ (1 ≤ r ∧ r ≤ most + 1) ∧ Hid (r ≤ most → r = 1 + (cNf x.args : Int)) ∧ Below W.heap.size W W'
theorem bel2 {W A B : World} (h : Below W.heap.size W A) (k : Below A.heap.size A B) : Below W.heap.size W B := h.trans (k.mono h.size)

set_option maxRecDepth 4000 in
set_option maxHeartbeats 4000000 in
theorem parts_s (x : Ex) (ih : ∀ y : Ex, cNf y.args < cNf x.args → ∀ (a : Option Addr) (cap : Nat) (W : World) (most : Int), 0 ≤ most → most ≤ 10000 → SwE y → FoAt W AnyB y.args a → Calls Tryz.prog 17 #[.agg #[.int .i64 y.op, .int .i64 y.num, .int .i64 y.den, .int .i64 y.mode, .slice a y.args.len cap], .int .i64 most] W (PtR y most W))
    (a : Option Addr) (cap : Nat) (W : World) (most : Int) (hm0 : 0 ≤ most) (hm1 : most ≤ 10000) (hS : SwE x) (hF : FoAt W AnyB x.args a) : Calls Tryz.prog 17 #[.agg #[.int .i64 x.op, .int .i64 x.num, .int .i64 x.den, .int .i64 x.mode, .slice a x.args.len cap], .int .i64 most] W (PtR x most W) := by
  have hb0 := bel_alloc W (.cells #[.int .i64 x.op, .int .i64 x.num, .int .i64 x.den, .int .i64 x.mode, .slice a x.args.len cap] 73)
  have hr0 := heap_alloc_new W (.cells #[.int .i64 x.op, .int .i64 x.num, .int .i64 x.den, .int .i64 x.mode, .slice a x.args.len cap] 73)
  have hrow := row_of_fo (fo_bel hF hb0 (Nat.le_refl _))
  have hsw := Hid.mk (toL_sw _ hS.2)
  have hlen := hS.1
  rw [← toL_len] at hlen hr0 hb0 hrow ⊢
  have hcN := Hid.mk (cL_toL x.args)
  have hcm := Hid.mk (cL_mem (toL x.args))
  have ihH := Hid.mk ih
  clear ih hF hS
  go_enter Tryz.func17, Tryz.ntmps17
  go_wp2
  generalize hX : W.alloc (.cells #[.int .i64 x.op, .int .i64 x.num, .int .i64 x.den, .int .i64 x.mode, .slice a (toL x.args).length cap] 73) = X at *
  clear hX
  have c4 : X.cell? ⟨W.heap.size, 4, none⟩ = some (.slice a (toL x.args).length cap) := cell_of_row _ _ 4 _ _ _ hr0
  generalize hxs : toL x.args = xs at *
  have hXl := (Array.getElem?_eq_some_iff.1 hr0).1
  clear hxs hr0
  go_loopw [5, 6] (fun nv iv wr => ∃ (k : Nat) (n : Int), k ≤ xs.length ∧ iv = .int .i64 (k : Int) ∧ nv = .int .i64 n ∧ (1 ≤ n ∧ n ≤ most + 1) ∧ Hid (n ≤ most → n = 1 + (cL (xs.take k) : Int)) ∧ Below X.heap.size X wr) (fun _ iv _ => xs.length - (intOf iv).toNat)
  case atStart => exact ⟨0, 1, Nat.zero_le _, rfl, rfl, ⟨by omega, by omega⟩, ⟨fun _ => by simp [cL]⟩, Below.refl _ _⟩
  case round =>
    obtain ⟨k, n, hk, rfl, rfl, ⟨hn0, hn1⟩, hn, hb⟩ := hrel
    have d4 := (hb.cell (p := ⟨W.heap.size, 4, none⟩) hXl).trans c4
    by_cases hlt : k < xs.length
    · have hlt' : (k : Int) < (xs.length : Int) := by omega
      have hk0 : (0 : Int) ≤ (k : Int) := by omega
      by_cases hle : n ≤ most
      · obtain ⟨ga, oa, rfl⟩ : ∃ ga oa, a = some ⟨ga, oa, none⟩ := by
          rcases hrow with h0 | ⟨ga, oa, -, h1, -⟩
          · rw [h0] at hlt; simp at hlt
          · exact ⟨ga, oa, h1⟩
        obtain ⟨cx, hcl, -, hE1, hcc⟩ := (row_bel hrow hb (Nat.le_refl _)).item hlt
        have hym : xs[k] ∈ xs := List.getElem_mem hlt
        have htk : Hid (cL (xs.take (k + 1)) = cL (xs.take k) + (1 + cNf xs[k].args)) := ⟨by rw [List.take_succ_eq_append_getElem hlt, cL_snoc]⟩
        have hsy := hsw.out _ hym
        have hcy := hcm.out _ hym
        have hc0 := hcc 0 (by decide)
        have hc1 := hcc 1 (by decide)
        have hc2 := hcc 2 (by decide)
        have hc3 := hcc 3 (by decide)
        have hc4 := hcc 4 (by decide)
        generalize xs[k] = y at *
        obtain ⟨a1, c1, rfl, -, hFo⟩ := hE1
        have e0 : wr.cell? ⟨ga, oa + k * 5, none⟩ = some (.int .i64 y.op) := hc0
        have e1 : wr.cell? ⟨ga, oa + k * 5 + 1, none⟩ = some (.int .i64 y.num) := hc1
        have e2 : wr.cell? ⟨ga, oa + k * 5 + 2, none⟩ = some (.int .i64 y.den) := hc2
        have e3 : wr.cell? ⟨ga, oa + k * 5 + 3, none⟩ = some (.int .i64 y.mode) := hc3
        have e4 : wr.cell? ⟨ga, oa + k * 5 + 4, none⟩ = some (.slice a1 y.args.len c1) := hc4
        have hcall := ihH.out y (by have := hcN.out; omega) a1 c1 wr (most - n) (by omega) (by omega) hsy hFo
        have hnv := hn.out hle
        have hnvH := Hid.mk hnv
        clear hc0 hc1 hc2 hc3 hc4 hcc hcl hn hnv hcy hsy
        go_wp2_with (go_at_call 17; fail)
        refine hcall.mono ?_
        rintro e w3 ⟨r, rfl, ⟨hr0, hr1⟩, hr, hb3⟩
        clear e0 e1 e2 e3 e4 hcall
        go_wp2
        go_roundw
        case rel =>
          refine ⟨k + 1, n + r, by omega, by go_num, by go_num, ⟨by omega, by omega⟩, ⟨fun h => ?_⟩, bel2 hb hb3⟩
          have h1 := hr.out (by omega)
          have h2 := hnvH.out
          have h3 := htk.out
          omega
        case measure => simp [intOf]; omega
      · have hle' : ¬ n ≤ most := hle
        clear hn
        go_wp2
        go_ret
        exact ⟨n, rfl, ⟨hn0, hn1⟩, ⟨fun h => by omega⟩, bel2 hb0 hb⟩
    · have hlt' : ¬ (k : Int) < (xs.length : Int) := by omega
      obtain rfl : k = xs.length := by omega
      go_wp2
      go_ret
      refine ⟨n, rfl, ⟨hn0, hn1⟩, ⟨fun h => ?_⟩, bel2 hb0 hb⟩
      have h1 := hn.out h
      rw [List.take_length, hcN.out] at h1
      exact h1

theorem parts_any : ∀ (n : Nat) (x : Ex), cNf x.args < n → ∀ (a : Option Addr) (cap : Nat) (W : World) (most : Int), 0 ≤ most → most ≤ 10000 → SwE x → FoAt W AnyB x.args a → Calls Tryz.prog 17 #[.agg #[.int .i64 x.op, .int .i64 x.num, .int .i64 x.den, .int .i64 x.mode, .slice a x.args.len cap], .int .i64 most] W (PtR x most W)
  | 0, _, h => absurd h (Nat.not_lt_zero _)
  | n + 1, x, h => fun a cap W most h0 h1 hS hF => parts_s x (fun y hy => parts_any n y (by omega)) a cap W most h0 h1 hS hF

set_option maxRecDepth 4000 in
set_option maxHeartbeats 4000000 in
theorem parts_neg (x : Ex) (a : Option Addr) (cap : Nat) (W : World) (hS : SwE x) : Calls Tryz.prog 17 #[.agg #[.int .i64 x.op, .int .i64 x.num, .int .i64 x.den, .int .i64 x.mode, .slice a x.args.len cap], .int .i64 (-1)] W (fun e W' => e = .returned (.int .i64 1) ∧ Below W.heap.size W W') := by
  have hb0 := bel_alloc W (.cells #[.int .i64 x.op, .int .i64 x.num, .int .i64 x.den, .int .i64 x.mode, .slice a x.args.len cap] 73)
  have hr0 := heap_alloc_new W (.cells #[.int .i64 x.op, .int .i64 x.num, .int .i64 x.den, .int .i64 x.mode, .slice a x.args.len cap] 73)
  have hlen := hS.1
  generalize x.args.len = m at *
  clear hS
  go_enter Tryz.func17, Tryz.ntmps17
  go_wp2
  generalize hX : W.alloc (.cells #[.int .i64 x.op, .int .i64 x.num, .int .i64 x.den, .int .i64 x.mode, .slice a m cap] 73) = X at *
  clear hX
  have c4 : X.cell? ⟨W.heap.size, 4, none⟩ = some (.slice a m cap) := cell_of_row _ _ 4 _ _ _ hr0
  clear hr0
  go_loopw [5, 6] (fun nv iv wr => iv = .int .i64 0 ∧ nv = .int .i64 1 ∧ wr = X) (fun _ _ _ => 0)
  case atStart => exact ⟨rfl, rfl, rfl⟩
  case round =>
    obtain ⟨rfl, rfl, rfl⟩ := hrel
    by_cases hlt : (0 : Int) < (m : Int)
    · go_wp2
      go_ret
      exact ⟨rfl, hb0⟩
    · go_wp2
      go_ret
      exact ⟨rfl, hb0⟩
/-- The same for a bound that may be -1. -/
theorem parts_two (x : Ex) (a : Option Addr) (cap : Nat) (W : World) (most : Int) (h0 : -1 ≤ most) (h1 : most ≤ 10000) (hS : SwE x) (hF : FoAt W AnyB x.args a) : Calls Tryz.prog 17 #[.agg #[.int .i64 x.op, .int .i64 x.num, .int .i64 x.den, .int .i64 x.mode, .slice a x.args.len cap], .int .i64 most] W (fun e W' => ∃ r : Int, e = .returned (.int .i64 r) ∧ (1 ≤ r ∧ r ≤ 10001 ∧ (0 ≤ most → r ≤ most + 1)) ∧ Hid (r ≤ most → r = 1 + (cNf x.args : Int)) ∧ Below W.heap.size W W') := by
  by_cases hm : 0 ≤ most
  · refine (parts_any (cNf x.args + 1) x (Nat.lt_succ_self _) a cap W most hm h1 hS hF).mono ?_
    rintro e w ⟨r, rfl, ⟨hr0, hr1⟩, hr, hb⟩
    exact ⟨r, rfl, ⟨hr0, by omega, fun _ => hr1⟩, hr, hb⟩
  · obtain rfl : most = -1 := by omega
    refine (parts_neg x a cap W hS).mono ?_
    rintro e w ⟨rfl, hb⟩
    exact ⟨1, rfl, ⟨by omega, by omega, fun h => by omega⟩, ⟨fun h => by omega⟩, hb⟩

end Go.Proofs.YthnmjafoplfikaaGreatDoor
