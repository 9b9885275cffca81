import Derived.Test.YtkojgbfocdefnaaHBld
import Derived.Laws.StructEq
namespace Go.Proofs.Ytkojgbfocdefnaa
open Go.RowKit

theorem eqVal (d : Nat) (x y : Int) (w : World) : (Op.equalIn (d + 2) 58 (.agg #[.int .i64 x, .int .i64 y]) (.agg #[.int .i64 x, .int .i64 y])).run Try.prog w = .ok true w := by
  have hS : Try.prog.underlying 58 = some (.struct (Try.prog.fieldsOf 58)) := by kernel_rfl
  have hp : Try.prog.stoodInHeld 58 = false := by kernel_rfl
  rw [show d + 2 = (d + 1) + 1 from rfl, run_equalIn_agg w (d + 1) 58 _ _ hS hp]
  simp only [Program.fieldsOf, Try.underlying58]
  go_simp
theorem eqEnt (k : Int) (x y : Int) (w : World) : (Op.equalIn 10000 98 (.agg #[.int .u32 k, .int .i64 x, .int .i64 y]) (.agg #[.int .u32 k, .int .i64 x, .int .i64 y])).run Try.prog w = .ok true w := by
  have hS : Try.prog.underlying 98 = some (.struct (Try.prog.fieldsOf 98)) := by kernel_rfl
  have hp : Try.prog.stoodInHeld 98 = false := by kernel_rfl
  have hv := fun W => eqVal 9997 x y W
  rw [show (10000 : Nat) = 9999 + 1 from rfl, run_equalIn_agg w 9999 98 _ _ hS hp]
  simp only [Program.fieldsOf, Try.underlying98]
  go_simp

set_option maxRecDepth 4000 in
set_option maxHeartbeats 1000000 in
/-- Of two lists with the same entries sameEntries says yes. -/
theorem same_ents (va vb : Value) (L : Es) (hl : L.length ≤ 1000000000) (w : World) (ha : EntsAt w va L) (hb : EntsAt w vb L) : Calls Try.prog 49 #[va, vb] w fun e w' => e = .returned (.bool true) ∧ Below w.heap.size w w' := by
  obtain ⟨aa, ca, rfl, hda⟩ := ha
  obtain ⟨ab, cb, rfl, hdb⟩ := hb
  have heq := eqEnt
  go_enter Try.func49, Try.ntmps49
  go_wp2
  go_loopw [5] (fun i wr => ∃ j : Nat, j ≤ L.length ∧ i = .int .i64 j ∧ Below w.heap.size w wr) (fun i _ => L.length - (intOf i).toNat)
  case atStart => exact ⟨0, by omega, rfl, Below.refl _ _⟩
  case round =>
    obtain ⟨j, hj, rfl, hB⟩ := hrel
    by_cases hlt : j < L.length
    · have hlt' : (j : Int) < L.length := by omega
      have hj0 : (0 : Int) ≤ (j : Int) := by omega
      rcases hda with h0 | ⟨ga, oa, rfl, hga, hca⟩
      · rw [h0] at hlt; simp at hlt
      rcases hdb with h0 | ⟨gb, ob, rfl, hgb, hcb⟩
      · rw [h0] at hlt; simp at hlt
      obtain ⟨a0, a1, a2⟩ := hca j hlt
      obtain ⟨b0, b1, b2⟩ := hcb j hlt
      generalize L[j].1 = k at *
      generalize L[j].2.1 = x at *
      generalize L[j].2.2 = y at *
      replace a0 := (hB.cell (p := ⟨ga, _, none⟩) hga).trans a0
      replace a1 := (hB.cell (p := ⟨ga, _, none⟩) hga).trans a1
      replace a2 := (hB.cell (p := ⟨ga, _, none⟩) hga).trans a2
      replace b0 := (hB.cell (p := ⟨gb, _, none⟩) hgb).trans b0
      replace b1 := (hB.cell (p := ⟨gb, _, none⟩) hgb).trans b1
      replace b2 := (hB.cell (p := ⟨gb, _, none⟩) hgb).trans b2
      clear hca hcb
      go_wp2
      go_quiet (fail)
      go_wp2
      go_roundw
      case rel => exact ⟨j + 1, by omega, by go_num, below_drewN hB nq⟩
      case measure => simp [intOf]; omega
    · have hlt' : ¬ (j : Int) < L.length := by omega
      go_wp2
      go_ret
      exact ⟨rfl, hB⟩

end Go.Proofs.Ytkojgbfocdefnaa
