import Derived.Test.YtjgngmmepheioaaPkQa
import Derived.Laws.OwnMore
namespace Go.Proofs.Ytjgngmmepheioaa
open Go.RowKit

theorem WS.byts {wb : Nat} {W : World} {acc : List UInt8} {p : Option Addr} {cap : Nat} (ho : W.ownsRow (wb + 1) 5 1 (.slice p acc.length cap) acc.length (Go.Lib.byteCells acc)) : Byts W p (acc.map UInt8.toNat) := by
  refine ⟨fun n hn => by obtain ⟨x, _, rfl⟩ := List.mem_map.mp hn; exact x.toNat_lt, ?_⟩
  have ho' := ho
  rcases ho' with ⟨hl, ⟨e, h0⟩ | ⟨g, c2, cur, e, hge, hc, _⟩⟩
  · left
    rw [List.map_eq_nil_iff]
    exact List.length_eq_zero_iff.mp h0
  · right
    injection e with e
    subst e
    refine ⟨g, 0, rfl, heap_lt hc, fun i hi => ?_⟩
    rw [List.length_map] at hi
    rw [Nat.zero_add, ho.cellAt i (by omega)]
    unfold Go.Lib.byteCells
    rw [List.getElem?_map, List.getElem?_eq_getElem hi, List.getElem_map]
    rfl

theorem sum4_step (n i : Nat) (hn : n < 4294967296) (hi : i < 4) : (sum4 n).take (i + 1) = (sum4 n).take i ++ [UInt8.ofNat (n / 256 ^ i % 256)] := by
  have h3 : n / 16777216 % 256 = n / 16777216 := by omega
  rcases (by omega : i = 0 ∨ i = 1 ∨ i = 2 ∨ i = 3) with rfl | rfl | rfl | rfl
  · simp [sum4]
  · simp [sum4]
  · simp [sum4]
  · simp [sum4, h3]
theorem div_step (n i : Nat) : n / 256 ^ i / 256 = n / 256 ^ (i + 1) := by rw [Nat.div_div_eq_div_mul, Nat.pow_succ]
end Go.Proofs.Ytjgngmmepheioaa
