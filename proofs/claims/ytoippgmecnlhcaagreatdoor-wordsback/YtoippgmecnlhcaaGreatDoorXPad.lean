import Derived.Test.YtoippgmecnlhcaaGreatDoorXFmt
import Derived.Lib.MinMax
import Derived.Lib.ItoaLen
import Derived.Laws.Concat
namespace Go.Proofs.YtoippgmecnlhcaaGreatDoor.X
open Go.RowKit Go.Sort Go.Lib

theorem below_step {w X w1 : World} (h : Below w.heap.size w X) (hb : Below X.heap.size X w1) : Below w.heap.size w w1 := h.trans (hb.mono h.size)
/-- A number in at least k digits. -/
def pad (u k : Nat) : List UInt8 := List.replicate (k - nDigits u) 48 ++ decDigits u
theorem repeat_one (c : UInt8) : ∀ k, repeatL [c] k = List.replicate k c
  | 0 => rfl
  | k + 1 => by
    show [c] ++ repeatL [c] k = _
    rw [repeat_one c k]
    rfl

set_option maxHeartbeats 1000000 in
theorem padded_any (u k : Nat) (hu64 : u < 18446744073709551616) (hk : k ≤ 100) (w : World) (htab : Tab w) :
    Calls Tryz.prog 64 #[.int .u64 u, .int .i64 k] w fun e w' => e = .returned (.string ⟨(pad u k).toArray⟩) ∧ Below w.heap.size w w' := by
  have hnd := nDigits_le20 u hu64
  have hlen : (decDigits u).length = nDigits u := decDigits_length u
  have hmax : max ((k : Int) - (nDigits u : Int)) 0 = ((k - nDigits u : Nat) : Int) := by omega
  have hrep := fun W => Tryz.strings_Repeat ⟨#[48]⟩ (k - nDigits u) W (by omega) (by show 1 * _ ≤ _; omega)
  have hsum : ¬ 9223372036854775807 < (repeatL [48] (k - nDigits u)).length + nDigits u := by
    rw [repeatL_length]
    simp only [List.length_cons, List.length_nil]
    omega
  go_enter Tryz.func64, Tryz.ntmps64
  go_wp2_with (first | (go_at_call 63; refine (formatU u hu64 _ htab).mono ?_; rintro e w1 ⟨rfl, hb1⟩) | (go_at_call 81; refine (hrep _).mono ?_; rintro e w2 ⟨rfl, hb2⟩))
  go_ret
  refine ⟨?_, below_step hb1 hb2⟩
  show Ending.returned (.string _) = _
  rw [ByteArray.mk_append_mk, repeat_one]
  rfl

/-- The text of an amount. -/
def amtL (n : Int) : List UInt8 := (if n < 0 then [45] else []) ++ decDigits (n.natAbs / 100) ++ [46] ++ pad (n.natAbs % 100) 2

theorem nDigits_le2 {u : Nat} (h : u < 100) : nDigits u ≤ 2 := by
  by_cases h1 : u < 10
  · rw [nDigits_small h1]; omega
  · rw [nDigits_big h1, nDigits_small (by omega)]; omega
theorem pad_length (u k : Nat) : (pad u k).length = max (nDigits u) k := by
  unfold pad
  rw [List.length_append, List.length_replicate, decDigits_length]
  omega
theorem formatU_at (z : Int) (u : Nat) (hz : z = (u : Int)) (hu64 : u < 18446744073709551616) (S : List UInt8) (hS : decDigits u = S) (w : World) (htab : Tab w) :
    Calls Tryz.prog 63 #[.int .u64 z, .int .i64 10] w fun e w' => e = .returned (.string ⟨S.toArray⟩) ∧ Below w.heap.size w w' := by
  rw [hz, ← hS]
  exact formatU u hu64 w htab
theorem padded_at (z : Int) (u k : Nat) (hz : z = (u : Int)) (hu64 : u < 18446744073709551616) (hk : k ≤ 100) (kk : Int) (hkk : kk = (k : Int)) (S : List UInt8) (hS : pad u k = S) (w : World) (htab : Tab w) :
    Calls Tryz.prog 64 #[.int .u64 z, .int .i64 kk] w fun e w' => e = .returned (.string ⟨S.toArray⟩) ∧ Below w.heap.size w w' := by
  rw [hz, hkk, ← hS]
  exact padded_any u k hu64 hk w htab

set_option maxHeartbeats 1000000 in
theorem amount_any (n : Int) (h0 : -9223372036854775808 ≤ n) (h1 : n ≤ 9223372036854775807) (w : World) (htab : Tab w) :
    Calls Tryz.prog 49 #[.int .i64 n] w fun e w' => e = .returned (.string ⟨(amtL n).toArray⟩) ∧ Below w.heap.size w w' := by
  obtain ⟨S, hS⟩ : ∃ S, decDigits (n.natAbs / 100) = S := ⟨_, rfl⟩
  obtain ⟨T, hT⟩ : ∃ T, pad (n.natAbs % 100) 2 = T := ⟨_, rfl⟩
  have hSl : S.length ≤ 20 := by rw [← hS, decDigits_length]; exact nDigits_le20 _ (by omega)
  have hTl : T.length ≤ 2 := by
    rw [← hT, pad_length]
    have := nDigits_le2 (Nat.mod_lt n.natAbs (show 0 < 100 by omega))
    omega
  have e1 : ¬ 9223372036854775807 < 1 + S.length := by omega
  have e2 : ¬ 9223372036854775807 < 1 + S.length + 1 := by omega
  have e3 : ¬ 9223372036854775807 < 1 + S.length + 1 + T.length := by omega
  have e4 : ¬ 9223372036854775807 < 0 + S.length := by omega
  have e5 : ¬ 9223372036854775807 < S.length := by omega
  have e6 : ¬ 9223372036854775807 < S.length + 1 := by omega
  have e7 : ¬ 9223372036854775807 < S.length + 1 + T.length := by omega
  by_cases hneg : n < 0
  · have hL : Hid (amtL n = [45] ++ S ++ [46] ++ T) := by
      unfold Hid amtL
      rw [if_pos hneg, hS, hT]
    obtain ⟨u, rfl⟩ : ∃ u : Nat, n = -(u : Int) := ⟨n.natAbs, by omega⟩
    have hwr : IntKind.u64.wrap (-IntKind.u64.wrap (-(u : Int))) = (u : Int) := by rw [IntKind.wrap_u64, IntKind.wrap_u64]; omega
    have hf : ∀ W, Tab W → _ := fun W h => formatU_at ((u : Int) / 100) (u / 100) (by omega) (by omega) S (by rw [← hS]; congr 1; omega) W h
    have hp : ∀ W, Tab W → _ := fun W h => padded_at ((u : Int) % 100) (u % 100) 2 (by omega) (by omega) (by omega) 2 rfl T (by rw [← hT]; congr 1; omega) W h
    clear hS hT
    go_enter Tryz.func49, Tryz.ntmps49
    go_wp2_with (first | (go_at_call 63; refine (hf _ htab).mono ?_; rintro e w1 ⟨rfl, hb1⟩; have htab1 := htab.later hb1) | (go_at_call 64; refine (hp _ htab1).mono ?_; rintro e w2 ⟨rfl, hb2⟩))
    go_ret
    refine ⟨?_, below_step hb1 hb2⟩
    show Ending.returned (.string (⟨[45].toArray⟩ ++ ⟨S.toArray⟩ ++ ⟨[46].toArray⟩ ++ ⟨T.toArray⟩)) = _
    rw [ByteArray.mk_append_mk, ByteArray.mk_append_mk, ByteArray.mk_append_mk, hL.out]
  · have hL : Hid (amtL n = S ++ [46] ++ T) := by
      unfold Hid amtL
      rw [if_neg hneg, hS, hT]
      rfl
    obtain ⟨u, rfl⟩ : ∃ u : Nat, n = (u : Int) := ⟨n.natAbs, by omega⟩
    have hwr : IntKind.u64.wrap (u : Int) = (u : Int) := by rw [IntKind.wrap_u64]; omega
    have hf : ∀ W, Tab W → _ := fun W h => formatU_at ((u : Int) / 100) (u / 100) (by omega) (by omega) S (by rw [← hS]; congr 1) W h
    have hp : ∀ W, Tab W → _ := fun W h => padded_at ((u : Int) % 100) (u % 100) 2 (by omega) (by omega) (by omega) 2 rfl T (by rw [← hT]; congr 1) W h
    clear hS hT
    go_enter Tryz.func49, Tryz.ntmps49
    go_wp2_with (first | (go_at_call 63; refine (hf _ htab).mono ?_; rintro e w1 ⟨rfl, hb1⟩; have htab1 := htab.later hb1) | (go_at_call 64; refine (hp _ htab1).mono ?_; rintro e w2 ⟨rfl, hb2⟩))
    go_ret
    refine ⟨?_, below_step hb1 hb2⟩
    show Ending.returned (.string (⟨[].toArray⟩ ++ ⟨S.toArray⟩ ++ ⟨[46].toArray⟩ ++ ⟨T.toArray⟩)) = _
    rw [ByteArray.mk_append_mk, ByteArray.mk_append_mk, ByteArray.mk_append_mk, hL.out]
    rfl

end Go.Proofs.YtoippgmecnlhcaaGreatDoor.X
