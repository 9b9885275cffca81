import Derived.Test.YtakcdgeanbpllaaGreatDoorPSumM
import Derived.WalkKit
import Derived.OwnWalk
import Derived.Laws.OwnMore
import Derived.Lib.SmallJoins
import Derived.Deep.QuietTactic
namespace Go.Proofs.YtakcdgeanbpllaaGreatDoor
open Go.RowKit

/-- Bytes in memory. -/
def Byts (w : World) (a : Option Addr) (bs : List Nat) : Prop := (∀ n ∈ bs, n < 256) ∧ (bs = [] ∨ ∃ b off, a = some ⟨b, off, none⟩ ∧ b < w.heap.size ∧ ∀ i (h : i < bs.length), w.cell? ⟨b, off + i, none⟩ = some (.int .u8 (bs[i] : Int)))
theorem Byts.later {w w' : World} {a : Option Addr} {bs : List Nat} (h : Byts w a bs) (hb : Below w.heap.size w w') : Byts w' a bs := by
  obtain ⟨h0, h | ⟨b, off, rfl, hlt, hc⟩⟩ := h
  · exact ⟨h0, .inl h⟩
  · exact ⟨h0, .inr ⟨b, off, rfl, Nat.lt_of_lt_of_le hlt hb.size, fun i hi => (hb.cell (p := ⟨b, off + i, none⟩) hlt).trans (hc i hi)⟩⟩
structure Hid (p : Prop) : Prop where
  out : p

set_option maxRecDepth 4000 in
theorem sum_any (a : Option Addr) (cap : Nat) (bs : List Nat) (hl : bs.length ≤ 1000000000) (w : World) (h : Byts w a bs) :
    Calls Tryz.prog 59 #[.slice a bs.length cap] w fun e w' => e = .returned (.int .u32 (fnv bs : Int)) ∧ w' = w := by
  obtain ⟨hb, hm⟩ := h
  go_enter Tryz.func59, Tryz.ntmps59
  go_wp2
  go_loopw [3, 8] (fun nv iv W => ∃ i : Nat, i ≤ bs.length ∧ iv = .int .i64 (i : Int) ∧ nv = .int .u32 (fnv (bs.take i) : Int) ∧ W = w) (fun _ iv _ => bs.length - (intOf iv).toNat)
  case atStart => exact ⟨0, by omega, rfl, by rw [List.take_zero]; show _ = Value.int .u32 (fnv0 : Int); rw [fnv0_is], rfl⟩
  case round =>
    obtain ⟨i, hi, rfl, rfl, rfl⟩ := hrel
    by_cases hlt : i < bs.length
    · have hlt' : (i : Int) < (bs.length : Int) := by omega
      have hi0 : (0 : Int) ≤ (i : Int) := by omega
      rcases hm with h0 | ⟨b, off, rfl, hblt, hc⟩
      · rw [h0] at hlt; simp at hlt
      have ci := hc i hlt
      have hx := hb _ (List.getElem_mem hlt)
      have hst : Hid (fnv (bs.take (i + 1)) = fn1 (fnv (bs.take i)) bs[i]) := ⟨fnv_take hlt⟩
      have hh := fnv_lt (bs.take i)
      generalize bs[i] = x at *
      generalize fnv (bs.take i) = hv at *
      have hxor := u32_xor_nat hv x hh (by omega)
      have hxl : hv ^^^ x < 4294967296 := Nat.xor_lt_two_pow (n := 32) hh (by omega)
      have hmul : IntKind.u32.wrap (((hv ^^^ x : Nat) : Int) * 16777619) = (fn1 hv x : Int) := by
        rw [IntKind.wrap_u32]
        unfold fn1
        omega
      clear hc hb
      go_wp2_with fail
      go_roundw
      case rel => exact ⟨i + 1, by omega, by go_num, by rw [hst.out], trivial⟩
      case measure => simp [intOf]; omega
    · obtain rfl : i = bs.length := by omega
      go_wp2_with fail
      go_ret
      exact ⟨by rw [List.take_length]; rfl, rfl⟩

end Go.Proofs.YtakcdgeanbpllaaGreatDoor
