import Derived.Test.YtjgkjdalnjlefaaPkQa
import Derived.Laws.OwnMore
namespace Go.Proofs.Ytjgkjdalnjlefaa
open Go.RowKit

theorem WS.byts {wb : Nat} {W : World} {acc : List UInt8} {p : Option Addr} {cap : Nat} (ho : W.ownsRow (wb + 1) 5 1 (.slice p acc.length cap) acc.length (Go.Lib.byteCells acc)) : Byts W p (acc.map UInt8.toNat) := by
  refine ⟨fun n hn => by obtain ⟨x, _, rfl⟩ := List.mem_map.mp hn; exact x.toNat_lt, ?_⟩
  have ho' := ho
  rcases ho' with ⟨hl, ⟨e, h0⟩ | ⟨g, c2, cur, e, hge, hc, _⟩⟩
  · left
    rw [List.map_eq_nil_iff]
    exact List.length_eq_zero_iff.mp h0
  · right
    injection e with e
    subst e
    refine ⟨g, 0, rfl, heap_lt hc, fun i hi => ?_⟩
    rw [List.length_map] at hi
    rw [Nat.zero_add, ho.cellAt i (by omega)]
    unfold Go.Lib.byteCells
    rw [List.getElem?_map, List.getElem?_eq_getElem hi, List.getElem_map]
    rfl

theorem sum4_step (n i : Nat) (hn : n < 4294967296) (hi : i < 4) : (sum4 n).take (i + 1) = (sum4 n).take i ++ [UInt8.ofNat (n / 256 ^ i % 256)] := by
  have h3 : n / 16777216 % 256 = n / 16777216 := by omega
  rcases (by omega : i = 0 ∨ i = 1 ∨ i = 2 ∨ i = 3) with rfl | rfl | rfl | rfl
  · simp [sum4]
  · simp [sum4]
  · simp [sum4]
  · simp [sum4, h3]
theorem div_step (n i : Nat) : n / 256 ^ i / 256 = n / 256 ^ (i + 1) := by rw [Nat.div_div_eq_div_mul, Nat.pow_succ]
set_option maxRecDepth 8000 in
set_option maxHeartbeats 1000000 in
theorem wsum_any (lo wb : Nat) (W : World) {acc : List UInt8} {b : Bool} (h : WS lo wb W acc b) : Calls Try.prog 102 #[.pointer (some ⟨wb, 0, none⟩)] W (Wp lo wb acc b (sum4 (fnvB acc)) True W) := by
  obtain ⟨p0, cap0, c0, ho⟩ := h.own
  have hle := h.le
  have hk0 := sum_any p0 cap0 (acc.map UInt8.toNat) (by rw [List.length_map]; omega) W (WS.byts ho)
  rw [List.length_map] at hk0
  have hn := fnv_lt (acc.map UInt8.toNat)
  unfold fnvB
  generalize fnv (acc.map UInt8.toNat) = n at *
  have h' := h
  clear h ho
  go_enter Try.func102, Try.ntmps102
  go_wp2_with (go_at_call 114; go_loud (refine hk0.mono ?_; clear hk0; rintro e w1 ⟨rfl, rfl⟩))
  go_loopw [2, 8] (fun nv iv W2 => ∃ (i : Nat) (acc2 : List UInt8) (b2 : Bool), nv = .int .u32 ((n / 256 ^ i : Nat) : Int) ∧ iv = .int .i64 (i : Int) ∧ i ≤ 4 ∧ WS lo wb W2 acc2 b2 ∧ Bk lo wb w1 W2 ∧ Wr acc b acc2 b2 ((sum4 n).take i) True) (fun _ iv _ => 4 - (intOf iv).toNat)
  case atStart => exact ⟨0, acc, b, by simp, rfl, by omega, h', Bk.refl _ _ _, by rw [List.take_zero]; exact ⟨fun h => ⟨h, by simp, trivial⟩, fun h _ _ => h⟩⟩
  case round =>
    clear h' c0
    obtain ⟨i, acc2, b2, rfl, rfl, hi, hW2, hB2, hr2⟩ := hrel
    by_cases hlt : i < 4
    · have hlt' : (i : Int) < 4 := by omega
      have hst := Hid.mk (sum4_step n i hn hlt)
      have hdv := Hid.mk (div_step n i)
      have hml : n / 256 ^ i < 4294967296 := Nat.lt_of_le_of_lt (Nat.div_le_self _ _) hn
      generalize n / 256 ^ i = m at *
      have hk := wbyte_any lo wb (m % 256) (Nat.mod_lt _ (by decide)) _ hW2
      rw [show ((m % 256 : Nat) : Int) = (m : Int) % 256 by omega] at hk
      clear hW2
      go_wp2_with (go_at_call 125; go_loud (refine hk.mono ?_; clear hk; rintro e w3 ⟨rfl, acc3, b3, hW3, hB3, hr3⟩))
      go_roundw
      case rel => exact ⟨i + 1, acc3, b3, by rw [← hdv.out]; go_num, by go_num, by omega, hW3, hB2.trans hB3, by rw [hst.out]; exact hr2.tr hr3⟩
      case measure => simp [intOf]; omega
    · obtain rfl : i = 4 := by omega
      have hfin : Wp lo wb acc b (sum4 n) True w1 (.returned (.tuple #[])) wr := ⟨rfl, acc2, b2, hW2, hB2, hr2⟩
      clear hW2 hB2 hr2
      go_wp2
      exact bodyPost_end (v := .tuple #[]) (by simp [results, Try.results102, go_sem]) rfl hfin

end Go.Proofs.Ytjgkjdalnjlefaa
