import Derived.Test.YtpmfgffhkklfeaaDoorTShL
import Derived.Deep.RegionHeld3
import Derived.Deep.DeepCutAuto
import Derived.Deep.CutBlock
import Derived.Deep.QuietTactic
import Derived.BigQuiet
namespace Go.Proofs.YtpmfgffhkklfeaaDoor
open Go.RowKit

theorem nodes_nil (w : World) : Calls Tryd.prog 27 #[.pointer none] w fun e w' => e = .returned (.int .i64 0) ∧ Below w.heap.size w w' := by
  go_enter Tryd.func27, Tryd.ntmps27
  go_wp2_with fail
  go_ret
  exact ⟨rfl, Below.refl _ _⟩

theorem idx16 (pv : Nat → Value) : ∀ j : Nat, j < 16 → ∀ W : World, (Instr.index 55 (.agg ((List.range 16).map pv).toArray) (.int .i64 (j : Int))).run Tryd.prog W = .ok (pv j) W
  | 0, _, W => by kernel_rfl
  | 1, _, W => by kernel_rfl
  | 2, _, W => by kernel_rfl
  | 3, _, W => by kernel_rfl
  | 4, _, W => by kernel_rfl
  | 5, _, W => by kernel_rfl
  | 6, _, W => by kernel_rfl
  | 7, _, W => by kernel_rfl
  | 8, _, W => by kernel_rfl
  | 9, _, W => by kernel_rfl
  | 10, _, W => by kernel_rfl
  | 11, _, W => by kernel_rfl
  | 12, _, W => by kernel_rfl
  | 13, _, W => by kernel_rfl
  | 14, _, W => by kernel_rfl
  | 15, _, W => by kernel_rfl
  | n + 16, h, _ => absurd h (by omega)

set_option maxRecDepth 4000 in
set_option maxHeartbeats 1000000 in
theorem nodes_at (b : Nat) (pv : Nat → Value) (sv : Value) (c s : Nat → Nat) (hs0 : s 0 = 1) (hs : ∀ i, i < 16 → s (i + 1) = s i + c i) (hb : ∀ i, i ≤ 16 → s i < 4611686018427387904) (w : World) (h : NodeAt w b pv sv)
    (hk : ∀ i, i < 16 → ∀ W, Below w.heap.size w W → Calls Tryd.prog 27 #[pv i] W fun e w' => e = .returned (.int .i64 (c i : Int)) ∧ Below W.heap.size W w') :
    Calls Tryd.prog 27 #[.pointer (some ⟨b, 0, none⟩)] w fun e w' => e = .returned (.int .i64 (s 16 : Int)) ∧ Below w.heap.size w w' := by
  go_enter Tryd.func27, Tryd.ntmps27
  obtain ⟨A, hA, hlen, hrange⟩ : ∃ A : List Value, (∀ j : Nat, j < 16 → ∀ W : World, (Instr.index 55 (.agg A.toArray) (.int .i64 (j : Int))).run Tryd.prog W = .ok (pv j) W) ∧ A.length = 16 ∧ w.rangeAt b 0 A := ⟨(List.range 16).map pv, idx16 pv, by simp, fun j v hv => by
    have hj : j < 16 := by
      have := (List.getElem?_eq_some_iff.1 hv).1
      simpa using this
    have hv' : v = pv j := by
      simp [hj] at hv
      exact hv.symm
    rw [hv', Nat.zero_add]
    exact h.kid hj⟩
  have hinfo : (Tryd.prog.info? 55).map (·.size) = some A.length := by rw [hlen]; kernel_rfl
  have hlenI : (A.toArray.size : Int) = 16 := by simp [hlen]
  go_upto_block 0 with (refine wpList_load_mid rfl 55 _ rfl b 0 rfl A _ hrange Tryd.underlying55 rfl hinfo ?_)
  go_wp2_with fail
  go_loopw [3, 12] (fun cv iv W => ∃ j : Nat, j ≤ 16 ∧ iv = .int .i64 j ∧ cv = .int .i64 (s j : Int) ∧ Below w.heap.size w W) (fun _ i _ => 16 - (intOf i).toNat)
  case atStart => exact ⟨0, by omega, rfl, by rw [hs0]; rfl, Below.refl _ _⟩
  case round =>
    obtain ⟨j, hj, rfl, rfl, hB⟩ := hrel
    by_cases hlt : j < 16
    · have hlt' : (j : Int) < 16 := by omega
      have hj0 : (0 : Int) ≤ (j : Int) := by omega
      have hAj := hA j hlt
      have hkj := hk j hlt
      have h1 := hs j hlt
      have h2 := hb (j + 1) (by omega)
      have h3 := hb j (by omega)
      go_wp2_with (first | (go_at_call 27; refine (hkj _ hB).mono ?_; rintro e w1 ⟨rfl, hb1⟩))
      go_roundw
      case rel => exact ⟨j + 1, by omega, by go_num, by rw [h1]; go_num, below_step hB hb1⟩
      case measure => simp [intOf]; omega
    · obtain rfl : j = 16 := by omega
      go_wp2_with fail
      go_ret
      exact ⟨rfl, hB⟩

end Go.Proofs.YtpmfgffhkklfeaaDoor
