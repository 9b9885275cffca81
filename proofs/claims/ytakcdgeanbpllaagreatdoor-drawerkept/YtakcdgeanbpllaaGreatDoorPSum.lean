import Derived.Test.YtakcdgeanbpllaaGreatDoorPSum0
namespace Go.Proofs.YtakcdgeanbpllaaGreatDoor
open Go.RowKit

set_option maxRecDepth 4000 in
theorem rsum_any (a : Option Addr) (cap : Nat) (bs : List Nat) (hl : bs.length ≤ 1000000000) (w : World) (h : Byts w a bs) :
    Calls Tryz.prog 129 #[.slice a bs.length cap] w fun e w' => e = .returned (.int .u32 (fnv bs : Int)) ∧ w' = w := by
  obtain ⟨hb, hm⟩ := h
  go_enter Tryz.func129, Tryz.ntmps129
  go_wp2
  go_loopw [3, 4] (fun nv iv W => ∃ i : Nat, i ≤ bs.length ∧ iv = .int .i64 (i : Int) ∧ nv = .int .u64 (fnv (bs.take i) : Int) ∧ W = w) (fun _ iv _ => bs.length - (intOf iv).toNat)
  case atStart => exact ⟨0, by omega, rfl, by rw [List.take_zero]; show _ = Value.int .u64 (fnv0 : Int); rw [fnv0_is], rfl⟩
  case round =>
    obtain ⟨i, hi, rfl, rfl, rfl⟩ := hrel
    by_cases hlt : i < bs.length
    · have hlt' : (i : Int) < (bs.length : Int) := by omega
      have hi0 : (0 : Int) ≤ (i : Int) := by omega
      rcases hm with h0 | ⟨b, off, rfl, hblt, hc⟩
      · rw [h0] at hlt; simp at hlt
      have ci := hc i hlt
      have hx := hb _ (List.getElem_mem hlt)
      have hst : Hid (fnv (bs.take (i + 1)) = fn1 (fnv (bs.take i)) bs[i]) := ⟨fnv_take hlt⟩
      have hh := fnv_lt (bs.take i)
      generalize bs[i] = x at *
      generalize fnv (bs.take i) = hv at *
      clear hc hb
      obtain ⟨q, hq⟩ : ∃ q, hv % 256 = q := ⟨_, rfl⟩
      have hq' : (hv : Int) % 256 = (q : Int) := by omega
      have hql : q < 256 := by omega
      have hqh : q ≤ hv := by omega
      have hlow : Hid (hv - q + (q ^^^ x) = hv ^^^ x) := ⟨by rw [← hq]; exact low_xor hv x hx⟩
      have hfin : Hid (((hv ^^^ x) * 16777619) % 4294967296 = fn1 hv x) := ⟨rfl⟩
      have hyl := xor_byte q x hql hx
      clear hq
      go_wp2_with fail
      go_loopw [5, 6, 7, 8, 9] (fun lv xv yv uv kv W => ∃ k : Nat, k ≤ 8 ∧ kv = .int .i64 (k : Int) ∧ lv = .int .u64 ((q / 2 ^ k : Nat) : Int) ∧ xv = .int .u64 ((x / 2 ^ k : Nat) : Int) ∧ yv = .int .u64 (((q ^^^ x) % 2 ^ k : Nat) : Int) ∧ uv = .int .u64 ((2 ^ k : Nat) : Int) ∧ W = wr) (fun _ _ _ _ kv _ => 8 - (intOf kv).toNat)
      case atStart => exact ⟨0, by omega, rfl, by simp; omega, by simp, by simp [Nat.mod_one], rfl, rfl⟩
      case round =>
        obtain ⟨k, hk, rfl, rfl, rfl, rfl, rfl, rfl⟩ := hrel
        by_cases hk8 : k < 8
        · have hk8' : (k : Int) < 8 := by omega
          have hds : Hid ((q ^^^ x) % 2 ^ (k + 1) = (q ^^^ x) % 2 ^ k + 2 ^ k * ((q / 2 ^ k + x / 2 ^ k) % 2)) := ⟨dig_step q x k⟩
          have hd1 : Hid (q / 2 ^ (k + 1) = q / 2 ^ k / 2) := ⟨by rw [Nat.pow_succ, Nat.div_div_eq_div_mul]⟩
          have hd2 : Hid (x / 2 ^ (k + 1) = x / 2 ^ k / 2) := ⟨by rw [Nat.pow_succ, Nat.div_div_eq_div_mul]⟩
          have hd3 : Hid (2 ^ (k + 1) = 2 ^ k * 2) := ⟨Nat.pow_succ ..⟩
          have l1 : q / 2 ^ k < 256 := Nat.lt_of_le_of_lt (Nat.div_le_self _ _) hql
          have l2 : x / 2 ^ k < 256 := Nat.lt_of_le_of_lt (Nat.div_le_self _ _) hx
          have l3 : (q ^^^ x) % 2 ^ k < 256 := Nat.lt_of_le_of_lt (Nat.mod_le _ _) hyl
          have l4 : 2 ^ k ≤ 128 := by
            have : ∀ k : Fin 8, 2 ^ k.val ≤ 128 := by decide
            exact this ⟨k, hk8⟩
          generalize q / 2 ^ k = A at *
          generalize x / 2 ^ k = B at *
          generalize (q ^^^ x) % 2 ^ k = Y at *
          generalize 2 ^ k = U at *
          rcases (show ((A : Int) + (B : Int)) % 2 = 0 ∨ ((A : Int) + (B : Int)) % 2 = 1 by omega) with hm | hm
          · have hm' : (A + B) % 2 = 0 := by omega
            have hds' : Hid ((q ^^^ x) % 2 ^ (k + 1) = Y) := ⟨by rw [hds.out, hm']; simp⟩
            clear hds
            go_wp2_with fail
            go_roundw
            case rel => exact ⟨k + 1, by omega, by go_num, by rw [hd1.out]; go_num, by rw [hd2.out]; go_num, by rw [hds'.out], by rw [hd3.out]; go_num, trivial⟩
            case measure => simp [intOf]; omega
          · have hm' : (A + B) % 2 = 1 := by omega
            have hds' : Hid ((q ^^^ x) % 2 ^ (k + 1) = Y + U) := ⟨by rw [hds.out, hm']; simp⟩
            clear hds
            go_wp2_with fail
            go_roundw
            case rel => exact ⟨k + 1, by omega, by go_num, by rw [hd1.out]; go_num, by rw [hd2.out]; go_num, by rw [hds'.out]; go_num, by rw [hd3.out]; go_num, trivial⟩
            case measure => simp [intOf]; omega
        · obtain rfl : k = 8 := by omega
          have hy8 : (q ^^^ x) % 2 ^ 8 = q ^^^ x := Nat.mod_eq_of_lt hyl
          rw [hy8]
          have hsum : (hv : Int) - (q : Int) + ((q ^^^ x : Nat) : Int) = ((hv ^^^ x : Nat) : Int) := by have := hlow.out; omega
          have hxl : hv ^^^ x < 4294967296 := Nat.xor_lt_two_pow (n := 32) hh (by omega)
          have hres : ((hv ^^^ x : Nat) : Int) * 16777619 % 4294967296 = (fn1 hv x : Int) := by have := hfin.out; omega
          generalize q ^^^ x = Y at *
          generalize hv ^^^ x = Z at *
          clear hlow hfin hy8
          go_wp2_with fail
          go_roundw
          case rel => exact ⟨i + 1, by omega, by go_num, by rw [hst.out, ← hres], trivial⟩
          case measure => simp [intOf]; omega
    · obtain rfl : i = bs.length := by omega
      have hh := fnv_lt bs
      go_wp2_with fail
      go_ret
      exact ⟨rfl, rfl⟩

end Go.Proofs.YtakcdgeanbpllaaGreatDoor
