import Derived.Test.YtmppgcijbeipfaaDoorProg
import Derived.Test.YtmppgcijbeipfaaDoorTrieM
import Derived.WalkKit
import Derived.WalkSpells
import Derived.WalkLawsBesides
import Derived.Deep.QuietTactic
import Derived.BigQuiet
import Derived.Deep.RegionWith
import Derived.Laws.Shifts
import Derived.Lib.EndianBits
namespace Go.Proofs.YtmppgcijbeipfaaDoor
open Go.RowKit

theorem below_step {w X w1 : World} (h : Below w.heap.size w X) (hb : Below X.heap.size X w1) : Below w.heap.size w w1 := h.trans (hb.mono h.size)

theorem shift_any (n l : Nat) (hl : l + n = 7) (w : World) : Calls Tryd.prog 46 #[.int .i64 (l : Int)] w fun e w' => e = .returned (.int .i64 ((4 * n : Nat) : Int)) ∧ w' = w := by
  have h : 4 * (7 - (l : Int)) = ((4 * n : Nat) : Int) := by omega
  go_enter Tryd.func46, Tryd.ntmps46
  go_wp2
  go_ret
  exact ⟨by simp, rfl⟩

theorem pow16 (n : Nat) : (2 : Int) ^ (4 * n) = ((16 ^ n : Nat) : Int) := by
  rw [show (16 : Nat) ^ n = 2 ^ (4 * n) from by rw [Nat.pow_mul]]
  simp
theorem pow16_le {n : Nat} (h : n ≤ 7) : 16 ^ n ≤ 268435456 := Nat.pow_le_pow_right (by decide) h

theorem digit_any (n l : Nat) (hl : l + n = 7) (id : Nat) (w : World) : Calls Tryd.prog 33 #[.int .u32 (id : Int), .int .i64 (l : Int)] w fun e w' => e = .returned (.int .i64 (dg id n : Int)) ∧ w' = w := by
  have h0 : (0 : Int) ≤ ((4 * n : Nat) : Int) := by omega
  go_enter Tryd.func33, Tryd.ntmps33
  go_wp2_with (go_at_call 46; refine (shift_any n l hl _).mono ?_; rintro e w1 ⟨rfl, rfl⟩)
  go_ret
  refine ⟨?_, rfl⟩
  show Ending.returned (.int .i64 (wrap64 (((id : Int) / 2 ^ (4 * n)).tmod 16))) = _
  rw [pow16, ← Int.natCast_ediv, Int.tmod_eq_emod_of_nonneg (Int.natCast_nonneg _)]
  have e : wrap64 (((id / 16 ^ n : Nat) : Int) % 16) = ((dg id n : Nat) : Int) := by
    unfold dg wrap64
    generalize id / 16 ^ n = z
    omega
  rw [e]

theorem head_any (n l : Nat) (hl : l + n = 7) (p a : Nat) (hp : p < 4294967296) (hm : p % 16 ^ (n + 1) = 0) (ha : a < 16) (w : World) : Calls Tryd.prog 56 #[.int .u32 (p : Int), .int .i64 (l : Int), .int .i64 (a : Int)] w fun e w' => e = .returned (.int .u32 ((p + a * 16 ^ n : Nat) : Int)) ∧ w' = w := by
  have h0 : (0 : Int) ≤ ((4 * n : Nat) : Int) := by omega
  go_enter Tryd.func56, Tryd.ntmps56
  go_wp2_with (go_at_call 46; refine (shift_any n l hl _).mono ?_; rintro e w1 ⟨rfl, rfl⟩)
  go_ret
  refine ⟨?_, rfl⟩
  show Ending.returned (.int .u32 (bits BinOp.or IntKind.u32 (p : Int) ((a : Int) * 2 ^ (4 * n) % 4294967296))) = _
  have h16 := pow16_le (n := n) (by omega)
  have hle : a * 16 ^ n ≤ 15 * 16 ^ n := Nat.mul_le_mul_right _ (by omega)
  have e1 : (a : Int) * 2 ^ (4 * n) % 4294967296 = ((a * 16 ^ n : Nat) : Int) := by
    rw [pow16, ← Int.natCast_mul]
    omega
  rw [e1]
  have e2 : bits BinOp.or IntKind.u32 (p : Int) ((a * 16 ^ n : Nat) : Int) = ((p + a * 16 ^ n : Nat) : Int) := by
    have hw : ((p + a * 16 ^ n : Nat) : Int) = (p : Int) + ((a * 16 ^ n : Nat) : Int) := by omega
    rw [hw]
    have hs : 16 ^ (n + 1) = 16 ^ n * 16 := Nat.pow_succ 16 n
    refine bits_join .u32 32 (by decide) wraps_u32 (4 * (n + 1)) _ _ (by omega) ?_ (by omega) (by omega) ?_ (by omega)
    · rw [pow16, ← Int.natCast_emod, hm]
      rfl
    · rw [pow16]
      omega
  rw [e2]

end Go.Proofs.YtmppgcijbeipfaaDoor
