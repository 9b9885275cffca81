import Derived.Test.YteefieidfgpijaaCgE
import Derived.Test.YteefieidfgpijaaRows
import Derived.Deep.SlicePairs
import Derived.SizedLaws
import Derived.ProofKit
import Derived.OpenShut
namespace Go.Proofs.Yteefieidfgpijaa.CF
open Go.ChangeShapes Go.WideShapes Go.ChangeAt Go.WideMaps Go.WideElems Go.RowKit

theorem own : ownKnob Try.prog.godebug = none := by kernel_rfl
theorem laidOutP : laidOutB Try.prog = true := by kernel_rfl
theorem cDot : Try.prog.cellsOf 62 = 2 := by kernel_rfl
theorem bDot : Try.prog.bytesOf 62 = 16 := by kernel_rfl
theorem cI64 : Try.prog.cellsOf 2 = 1 := by kernel_rfl
theorem cU32 : Try.prog.cellsOf 60 = 1 := by kernel_rfl
theorem wf_i64 {n : Int} (h : (Lit.int .i64 n).wf = true) : -9223372036854775808 ≤ n ∧ n ≤ 9223372036854775807 := by
  simp [Lit.wf] at h
  have h1 : IntKind.i64.min = -9223372036854775808 := by decide
  have h2 : IntKind.i64.max = 9223372036854775807 := by decide
  first | (rw [h1, h2] at h; exact h) | exact h | (simp at h; omega)
theorem wf_u32 {n : Int} (h : (Lit.int .u32 n).wf = true) : 0 ≤ n ∧ n < 4294967296 := by
  simp [Lit.wf] at h
  have h1 : IntKind.u32.min = 0 := by decide
  have h2 : IntKind.u32.max = 4294967295 := by decide
  rw [h1, h2] at h
  omega
set_option maxRecDepth 100000 in
/-- A list of dots that came in. -/
theorem open_dots {H : Type} {enc : TypeId × Value → H} {W : World} {base : Nat} {v : Value} {d : DataW H} {ps : List MemPlace} (hval : Value.okWide Try.prog W .any base 41 v)
    (h : DataW.Trod enc Try.prog W 0 (fun _ => true) true 41 v d ps) (hsz : ∀ elems spare, d = .slice elems spare → (elems.length + spare.length) * Try.prog.bytesOf 62 ≤ reachBytes) :
    ∃ a cap D, v = .slice a (List.length D) cap ∧ (a = none → cap = 0) ∧ RtAt W a D ∧ Ok D ∧ D.length ≤ 8796093021952 := by
  obtain ⟨a0, len, cap, rfl⟩ := okWide_slice Try.underlying41 hval
  obtain ⟨fuel, hf⟩ := h
  rcases Go.Deep.open_slice_pairs Try.underlying41 Try.underlying62 cDot rfl rfl cI64 cU32 hf with ⟨hcs, hx⟩ | ⟨a, len', cap', m, n, V0, V1, D0, D1, P0, P1, hcs, _, hl, hm, hmm, hx, hcell⟩
  · simp [Value.cells] at hcs
    obtain ⟨rfl, rfl, rfl⟩ := hcs
    exact ⟨none, 0, [], rfl, fun _ => rfl, .inl rfl, fun d hd => (by cases hd), by decide⟩
  · simp [Value.cells] at hcs
    obtain ⟨rfl, rfl, rfl⟩ := hcs
    simp only [if_true] at hmm
    simp only [Prod.mk.injEq] at hx
    obtain ⟨rfl, rfl⟩ := hx
    have hs := hsz _ _ rfl
    rw [bDot] at hs
    simp only [List.length_map, List.length_range, reachBytes] at hs
    rw [hmm] at hcell
    have key : ∀ i, i < cap → ∃ q : Int × Nat, (W.cell? (a.add (i * 2)) = some (.int .i64 q.1) ∧ W.cell? (a.add (i * 2 + 1)) = some (.int .u32 (q.2 : Int))) ∧ (-9223372036854775808 ≤ q.1 ∧ q.1 ≤ 9223372036854775807) ∧ q.2 < 4294967296 := fun i hi => by
      obtain ⟨h0, h1, t0, t1⟩ := hcell i hi
      obtain ⟨x, ex, _, wx⟩ := DataW.trod_int Try.underlying2 t0
      obtain ⟨y, ey, _, wy⟩ := DataW.trod_int Try.underlying60 t1
      simp at ex ey
      have hy := wf_u32 wy
      refine ⟨(x, y.toNat), ⟨by rw [h0, ex], ?_⟩, wf_i64 wx, ?_⟩
      · rw [h1, ey]
        simp only [Int.toNat_of_nonneg hy.1]
      · simp only
        omega
    obtain ⟨q, hq⟩ := Go.Deep.choose_lt key
    have hlen : ((List.range len).map q).length = len := by simp
    refine ⟨some a, cap, (List.range len).map q, by rw [hlen], fun h => (nomatch h), ?_, ?_, ?_⟩
    · by_cases h0 : len = 0
      · left
        rw [h0]
        rfl
      · obtain ⟨b, off, spot⟩ := a
        have hspot : spot = none := by simpa [Addr.add] using World.cell?_spot (hq 0 (by omega)).1.1
        subst hspot
        have hc : ∀ i, i < len → W.cell? ⟨b, off + i * 2, none⟩ = some (.int .i64 (q i).1) ∧ W.cell? ⟨b, off + i * 2 + 1, none⟩ = some (.int .u32 ((q i).2 : Int)) := fun i hi => by
          have := (hq i (by omega)).1
          rw [add_plain, add_plain] at this
          exact this
        refine .inr ⟨b, off, rfl, World.block_lt_of_cell? _ _ (hc 0 (by omega)).1, fun i hi => ?_⟩
        rw [hlen] at hi
        have := hc i hi
        simpa using this
    · intro d hd
      obtain ⟨i, hi, rfl⟩ := List.mem_map.1 hd
      have := List.mem_range.1 hi
      exact (hq i (by omega)).2
    · rw [hlen]
      omega
end Go.Proofs.Yteefieidfgpijaa.CF
