import Derived.Test.YtpmfgffhkklfeaaDoorTShC
import Derived.Test.YtpmfgffhkklfeaaDoorTDiffer
namespace Go.Proofs.YtpmfgffhkklfeaaDoor
open Go.RowKit

theorem shared_nil (u : Option Addr) (w : World) : Calls Tryd.prog 20 #[.pointer u, .pointer none] w fun e w' => e = .returned (.tuple #[.int .i64 0, .int .i64 0]) ∧ Below w.heap.size w w' := by
  go_enter Tryd.func20, Tryd.ntmps20
  go_wp2_with fail
  exact bodyPost_ret (v := .tuple #[.int .i64 0, .int .i64 0]) (by simp [results, Tryd.results20, go_sem]) rfl ⟨rfl, Below.refl _ _⟩
theorem shared_new (b : Nat) (c : Nat) (w : World) (hk : ∀ W, Below w.heap.size w W → Calls Tryd.prog 27 #[.pointer (some ⟨b, 0, none⟩)] W fun e w' => e = .returned (.int .i64 (c : Int)) ∧ Below W.heap.size W w') : Calls Tryd.prog 20 #[.pointer none, .pointer (some ⟨b, 0, none⟩)] w fun e w' => e = .returned (.tuple #[.int .i64 0, .int .i64 (c : Int)]) ∧ Below w.heap.size w w' := by
  go_enter Tryd.func20, Tryd.ntmps20
  go_wp2_with (go_at_call 27; refine (hk _ (Below.refl _ _)).mono ?_; rintro e w1 ⟨rfl, hb1⟩)
  exact bodyPost_ret (v := .tuple #[.int .i64 0, .int .i64 (c : Int)]) (by simp [results, Tryd.results20, go_sem]) rfl ⟨rfl, hb1⟩
theorem shared_same (b : Nat) (c : Nat) (w : World) (hk : ∀ W, Below w.heap.size w W → Calls Tryd.prog 27 #[.pointer (some ⟨b, 0, none⟩)] W fun e w' => e = .returned (.int .i64 (c : Int)) ∧ Below W.heap.size W w') : Calls Tryd.prog 20 #[.pointer (some ⟨b, 0, none⟩), .pointer (some ⟨b, 0, none⟩)] w fun e w' => e = .returned (.tuple #[.int .i64 (c : Int), .int .i64 0]) ∧ Below w.heap.size w w' := by
  have hq := eql_same w ⟨b, 0, none⟩
  go_enter Tryd.func20, Tryd.ntmps20
  go_wp2_with (go_at_call 27; refine (hk _ (Below.refl _ _)).mono ?_; rintro e w1 ⟨rfl, hb1⟩)
  exact bodyPost_ret (v := .tuple #[.int .i64 (c : Int), .int .i64 0]) (by simp [results, Tryd.results20, go_sem]) rfl ⟨rfl, hb1⟩

set_option maxRecDepth 4000 in
set_option maxHeartbeats 1000000 in
theorem shared_at (a b : Nat) (hab : a ≠ b) (qv pv : Nat → Value) (sa sv : Value) (c d s f : Nat → Nat) (hs0 : s 0 = 0) (hf0 : f 0 = 1) (hs : ∀ i, i < 16 → s (i + 1) = s i + c i) (hf : ∀ i, i < 16 → f (i + 1) = f i + d i) (hb : ∀ i, i ≤ 16 → s i < 4611686018427387904 ∧ f i < 4611686018427387904) (w : World) (ha : NodeAt w a qv sa) (h : NodeAt w b pv sv)
    (hk : ∀ i, i < 16 → ∀ W, Below w.heap.size w W → Calls Tryd.prog 20 #[qv i, pv i] W fun e w' => e = .returned (.tuple #[.int .i64 (c i : Int), .int .i64 (d i : Int)]) ∧ Below W.heap.size W w') :
    Calls Tryd.prog 20 #[.pointer (some ⟨a, 0, none⟩), .pointer (some ⟨b, 0, none⟩)] w fun e w' => e = .returned (.tuple #[.int .i64 (s 16 : Int), .int .i64 (f 16 : Int)]) ∧ Below w.heap.size w w' := by
  have hq := eql_other w a b hab ha h
  go_enter Tryd.func20, Tryd.ntmps20
  obtain ⟨A, hA, hlen, hrange⟩ : ∃ A : List Value, (∀ j : Nat, j < 16 → ∀ W : World, (Instr.index 55 (.agg A.toArray) (.int .i64 (j : Int))).run Tryd.prog W = .ok (pv j) W) ∧ A.length = 16 ∧ w.rangeAt b 0 A := ⟨(List.range 16).map pv, idx16 pv, by simp, fun j v hv => by
    have hj : j < 16 := by
      have := (List.getElem?_eq_some_iff.1 hv).1
      simpa using this
    have hv' : v = pv j := by
      simp [hj] at hv
      exact hv.symm
    rw [hv', Nat.zero_add]
    exact h.kid hj⟩
  have hinfo : (Tryd.prog.info? 55).map (·.size) = some A.length := by rw [hlen]; kernel_rfl
  go_wp2_with (refine wpList_load_mid rfl 55 _ rfl b 0 rfl A _ hrange Tryd.underlying55 rfl hinfo ?_)
  go_loopw [4, 5, 28] (fun cv fv iv W => ∃ j : Nat, j ≤ 16 ∧ iv = .int .i64 j ∧ cv = .int .i64 (s j : Int) ∧ fv = .int .i64 (f j : Int) ∧ Below w.heap.size w W) (fun _ _ i _ => 16 - (intOf i).toNat)
  case atStart => exact ⟨0, by omega, rfl, by rw [hs0]; rfl, by rw [hf0]; rfl, Below.refl _ _⟩
  case round =>
    obtain ⟨j, hj, rfl, rfl, rfl, hB⟩ := hrel
    by_cases hlt : j < 16
    · have hlt' : (j : Int) < 16 := by omega
      have hj0 : (0 : Int) ≤ (j : Int) := by omega
      have hAj := hA j hlt
      have hkj := hk j hlt
      have h1 := hs j hlt
      have g1 := hf j hlt
      have h2 := hb (j + 1) (by omega)
      have h3 := hb j (by omega)
      have hqc := (hB.cell (p := ⟨a, j, none⟩) ha.lt).trans (ha.kid hlt)
      go_wp2_with (first | (go_at_call 20; refine (hkj _ hB).mono ?_; rintro e w1 ⟨rfl, hb1⟩))
      go_roundw
      case rel => exact ⟨j + 1, by omega, by go_num, by rw [h1]; go_num, by rw [g1]; go_num, below_step hB hb1⟩
      case measure => simp [intOf]; omega
    · obtain rfl : j = 16 := by omega
      go_wp2_with fail
      exact bodyPost_ret (v := .tuple #[.int .i64 (s 16 : Int), .int .i64 (f 16 : Int)]) (by simp [results, Tryd.results20, go_sem]) rfl ⟨rfl, hB⟩

end Go.Proofs.YtpmfgffhkklfeaaDoor
