import Derived.Test.YtakcdgeanbpllaaGreatDoorDmQ
import Derived.Lib.EndianBits
import Derived.Laws.Shifts
/- wordAt, appendWord. -/
namespace Go.Proofs.YtakcdgeanbpllaaGreatDoor.DJ
open Go.RowKit

theorem byts_at {W : World} {a : Option Addr} {bs : List Nat} (h : Byts W a bs) {i : Nat} (hi : i < bs.length) : ∃ b off, a = some ⟨b, off, none⟩ ∧ W.cell? ⟨b, off + i, none⟩ = some (.int .u8 (bs[i] : Int)) ∧ bs[i] < 256 := by
  obtain ⟨h0, h1 | ⟨b, off, rfl, hlt, hc⟩⟩ := h
  · rw [h1] at hi; simp at hi
  · exact ⟨b, off, rfl, hc i hi, h0 _ (List.getElem_mem hi)⟩

theorem or4 {x0 x1 x2 x3 : Nat} (l0 : x0 < 256) (l1 : x1 < 256) (l2 : x2 < 256) (l3 : x3 < 256) : bits .or .u32 (bits .or .u32 (bits .or .u32 (x0 : Int) ((x1 : Int) * 256)) ((x2 : Int) * 65536)) ((x3 : Int) * 16777216) = ((x0 + 256 * x1 + 65536 * x2 + 16777216 * x3 : Nat) : Int) := by
  rw [u32_or8 (x0 : Int) ((x1 : Int) * 256) (by omega) (by omega) (by omega) (by omega) (by omega)]
  rw [u32_or16 ((x0 : Int) + (x1 : Int) * 256) ((x2 : Int) * 65536) (by omega) (by omega) (by omega) (by omega) (by omega)]
  rw [u32_or24 ((x0 : Int) + (x1 : Int) * 256 + (x2 : Int) * 65536) ((x3 : Int) * 16777216) (by omega) (by omega) (by omega) (by omega) (by omega)]
  omega
set_option maxRecDepth 4000 in
set_option maxHeartbeats 1000000 in
theorem wordAt_any (a : Option Addr) (cap : Nat) (bs : List Nat) (i : Nat) (hi : i + 4 ≤ bs.length) (hl : bs.length ≤ 4611686018427387904) (w : World) (h : Byts w a bs) :
    Calls Tryz.prog 158 #[.slice a bs.length cap, .int .i64 (i : Int)] w fun e w' => e = .returned (.int .u32 (told (bs.drop i) : Nat)) ∧ ∃ m, w' = w.drewN m := by
  obtain ⟨b, off, rfl, k0, l0⟩ := byts_at h (i := i) (by omega)
  obtain ⟨b', off', e, k1, l1⟩ := byts_at h (i := i + 1) (by omega)
  cases e
  obtain ⟨b', off', e, k2, l2⟩ := byts_at h (i := i + 2) (by omega)
  cases e
  obtain ⟨b', off', e, k3, l3⟩ := byts_at h (i := i + 3) (by omega)
  cases e
  have ht : told (bs.drop i) = bs[i] + 256 * bs[i + 1] + 65536 * bs[i + 2] + 16777216 * bs[i + 3] := by
    unfold told
    simp only [List.getD_eq_getElem?_getD, List.getElem?_drop]
    rw [List.getElem?_eq_getElem (by omega), List.getElem?_eq_getElem (by omega), List.getElem?_eq_getElem (by omega), List.getElem?_eq_getElem (by omega)]
    rfl
  rw [ht]
  clear ht h
  have n0 : (i : Int) < (bs.length : Int) := by omega
  have n1 : ((i + 1 : Nat) : Int) < (bs.length : Int) := by omega
  have n2 : ((i + 2 : Nat) : Int) < (bs.length : Int) := by omega
  have n3 : ((i + 3 : Nat) : Int) < (bs.length : Int) := by omega
  have m0 : (0 : Int) ≤ (i : Int) := by omega
  have q1 : IntKind.i64.wrap ((i : Int) + 1) = ((i + 1 : Nat) : Int) := by rw [IntKind.wrap_i64]; omega
  have q2 : IntKind.i64.wrap ((i : Int) + 2) = ((i + 2 : Nat) : Int) := by rw [IntKind.wrap_i64]; omega
  have q3 : IntKind.i64.wrap ((i : Int) + 3) = ((i + 3 : Nat) : Int) := by rw [IntKind.wrap_i64]; omega
  obtain ⟨i1, hi1⟩ : ∃ i1, i + 1 = i1 := ⟨_, rfl⟩
  obtain ⟨i2, hi2⟩ : ∃ i2, i + 2 = i2 := ⟨_, rfl⟩
  obtain ⟨i3, hi3⟩ : ∃ i3, i + 3 = i3 := ⟨_, rfl⟩
  simp only [hi1, hi2, hi3] at k1 k2 k3 l1 l2 l3 n1 n2 n3 q1 q2 q3 ⊢
  have m1 : (0 : Int) ≤ (i1 : Int) := by omega
  have m2 : (0 : Int) ≤ (i2 : Int) := by omega
  have m3 : (0 : Int) ≤ (i3 : Int) := by omega
  generalize bs[i] = x0 at *
  generalize bs[i1] = x1 at *
  generalize bs[i2] = x2 at *
  generalize bs[i3] = x3 at *
  clear hi1 hi2 hi3 hi hl
  generalize bs.length = n at *
  have u0 : IntKind.u32.wrap (x0 : Int) = (x0 : Int) := by rw [IntKind.wrap_u32]; omega
  have u1 : IntKind.u32.wrap (x1 : Int) = (x1 : Int) := by rw [IntKind.wrap_u32]; omega
  have u2 : IntKind.u32.wrap (x2 : Int) = (x2 : Int) := by rw [IntKind.wrap_u32]; omega
  have u3 : IntKind.u32.wrap (x3 : Int) = (x3 : Int) := by rw [IntKind.wrap_u32]; omega
  go_enter Tryz.func158, Tryz.ntmps158
  go_wp2_with fail
  go_quiet (fail)
  go_wp2
  go_ret
  exact ⟨congrArg (fun z => Ending.returned (.int .u32 z)) (or4 l0 l1 l2 l3), nq, rfl⟩
end Go.Proofs.YtakcdgeanbpllaaGreatDoor.DJ
