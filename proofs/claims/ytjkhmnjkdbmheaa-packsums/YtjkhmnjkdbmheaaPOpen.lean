import Derived.Test.YtjkhmnjkdbmheaaPSum
import Derived.Test.YtjkhmnjkdbmheaaRows
import Derived.ProofKit
import Derived.OpenShut
import Derived.SizedLaws
namespace Go.Proofs.Ytjkhmnjkdbmheaa
open Go.ChangeShapes Go.WideShapes Go.ChangeAt Go.WideMaps Go.WideElems Go.RowKit

theorem own : ownKnob Try.prog.godebug = none := by kernel_rfl
theorem cellsB : Try.prog.cellsOf 5 = 1 := by kernel_rfl
theorem laidOutP : laidOutB Try.prog = true := by kernel_rfl

theorem u8_nat {n : Int} (h : (Lit.int .u8 n).wf = true) : 0 ≤ n ∧ n < 256 := by
  simp [Lit.wf] at h
  have h1 : IntKind.u8.min = 0 := by decide
  have h2 : IntKind.u8.max = 255 := by decide
  rw [h1, h2] at h
  omega

set_option maxRecDepth 100000 in
/-- A list of bytes that came in. -/
theorem open_byts {H : Type} {enc : TypeId × Value → H} {W : World} {base : Nat} {v : Value} {d : DataW H} {ps : List MemPlace} (hval : Value.okWide Try.prog W .any base 22 v)
    (h : DataW.Trod enc Try.prog W 0 (fun _ => true) true 22 v d ps) : ∃ a cap bs, v = .slice a bs.length cap ∧ (a = none → cap = 0) ∧ Byts W a bs := by
  obtain ⟨a0, len, cap, rfl⟩ := okWide_slice Try.underlying22 hval
  obtain ⟨fuel, hf⟩ := h
  rcases open_ints Try.underlying22 Try.underlying5 cellsB hf with ⟨hcs, hx⟩ | ⟨a, len', cap', zs, hcs, _, hl, hm, hz, hx, hcell, hwz⟩
  · simp [Value.cells] at hcs
    obtain ⟨rfl, rfl, rfl⟩ := hcs
    exact ⟨none, 0, [], rfl, fun _ => rfl, by simp, .inl rfl⟩
  · simp [Value.cells] at hcs
    obtain ⟨rfl, rfl, rfl⟩ := hcs
    simp only [Prod.mk.injEq] at hx
    obtain ⟨rfl, rfl⟩ := hx
    simp only [if_true] at hz
    have hlen : ((zs.take len).map Int.toNat).length = len := by rw [List.length_map, List.length_take]; omega
    refine ⟨some a, cap, (zs.take len).map Int.toNat, by rw [hlen], fun h => (nomatch h), fun n hn => ?_, ?_⟩
    · obtain ⟨z, hz', rfl⟩ := List.mem_map.1 hn
      have := u8_nat (hwz z (List.mem_of_mem_take hz'))
      omega
    · by_cases h0 : len = 0
      · left
        rw [h0]
        rfl
      · obtain ⟨b, off, rfl, hc⟩ := ints_at hcell (by omega)
        refine .inr ⟨b, off, rfl, World.block_lt_of_cell? _ _ (hc 0 (by omega)), fun i hi => ?_⟩
        rw [hlen] at hi
        have hiz : i < zs.length := by omega
        have hw := u8_nat (hwz _ (List.getElem_mem hiz))
        rw [hc i (by omega), List.getD_eq_getElem?_getD, List.getElem?_eq_getElem hiz]
        simp only [Option.getD_some, List.getElem_map, List.getElem_take]
        rw [Int.toNat_of_nonneg hw.1]

end Go.Proofs.Ytjkhmnjkdbmheaa
