import Derived.Test.YtjgkjdalnjlefaaPkQ2
import Derived.Laws.BitsAllLaws
import Derived.Laws.Shifts
namespace Go.Proofs.Ytjgkjdalnjlefaa
open Go.RowKit

set_option maxRecDepth 100000 in
theorem or128 (m : Nat) : m % 256 ||| 128 = m % 128 + 128 := by
  have h1 : ∀ x : Fin 256, x.1 ||| 128 = x.1 % 128 + 128 := by decide
  have h2 := h1 ⟨m % 256, Nat.mod_lt _ (by decide)⟩
  simp only [] at h2
  rw [h2]
  omega
set_option maxRecDepth 8000 in
set_option maxHeartbeats 4000000 in
theorem wnumber_any (lo wb n : Nat) (hn : n < 18446744073709551616) (W : World) {acc : List UInt8} {b : Bool} (h : WS lo wb W acc b) : Calls Try.prog 117 #[.pointer (some ⟨wb, 0, none⟩), .int .u64 (n : Int)] W (Wp lo wb acc b (encN n) True W) := by
  go_enter Try.func117, Try.ntmps117
  go_wp2
  go_loopw [1] (fun nv W1 => ∃ m acc1 b1 pre, nv = .int .u64 ((m : Nat) : Int) ∧ m < 18446744073709551616 ∧ WS lo wb W1 acc1 b1 ∧ Bk lo wb W W1 ∧ Wr acc b acc1 b1 pre True ∧ pre ++ encN m = encN n) (fun nv _ => (intOf nv).toNat)
  case atStart => exact ⟨n, acc, b, [], rfl, hn, h, Bk.refl _ _ _, ⟨fun h => ⟨h, by simp, trivial⟩, fun h _ _ => h⟩, rfl⟩
  case round =>
    obtain ⟨m, acc1, b1, pre, rfl, hm, hW1, hB, hp, he⟩ := hrel
    by_cases hlt : m < 128
    · have hlt' : (m : Int) < 128 := by omega
      have hk := wbyte_any lo wb m (by omega) _ hW1
      clear hW1
      go_wp2_with (go_at_call 125; go_loud (refine hk.mono ?_; clear hk; rintro e w1 ⟨rfl, acc2, b2, hW2, hB2, hr2⟩))
      have hfin : Wp lo wb acc b (encN n) True W (.returned (.tuple #[])) w1 := ⟨rfl, acc2, b2, hW2, hB.trans hB2, by
        rw [← he, encN_small hlt]
        exact (hp.trans hr2).imp_ok⟩
      exact bodyPost_end (v := .tuple #[]) (by simp [results, Try.results117, go_sem]) rfl hfin
    · have hlt' : ¬ (m : Int) < 128 := by omega
      have hk := wbyte_any lo wb (m % 128 + 128) (by omega) _ hW1
      rw [show ((m % 128 + 128 : Nat) : Int) = (m : Int) % 128 + 128 by omega] at hk
      have hor : bits .or .u8 ((m : Int) % 256) 128 = ((m % 128 + 128 : Nat) : Int) := by
        rw [show (128 : Int) = ((128 : Nat) : Int) from rfl, show (m : Int) % 256 = ((m % 256 : Nat) : Int) by omega, u8_or_nat _ _ (Nat.mod_lt _ (by decide)) (by decide), or128]
      clear hW1
      go_wp2_with (go_at_call 125; go_loud (refine hk.mono ?_; clear hk; rintro e w1 ⟨rfl, acc2, b2, hW2, hB2, hr2⟩))
      go_roundw
      case rel => exact ⟨m / 128, acc2, b2, pre ++ [UInt8.ofNat (m % 128 + 128)], by go_num, by omega, hW2, hB.trans hB2, (hp.trans hr2).imp_ok, by rw [← he, encN_big hlt, List.append_assoc]; rfl⟩
      case measure => simp [intOf]; omega

end Go.Proofs.Ytjgkjdalnjlefaa
