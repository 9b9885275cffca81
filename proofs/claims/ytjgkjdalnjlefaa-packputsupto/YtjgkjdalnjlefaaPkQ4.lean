import Derived.Test.YtjgkjdalnjlefaaPkQ3
namespace Go.Proofs.Ytjgkjdalnjlefaa
open Go.RowKit

theorem Wr.tr {a0 a1 a2 x y : List UInt8} {b0 b1 b2 : Bool} {p : Prop} (h : Wr a0 b0 a1 b1 x p) (k : Wr a1 b1 a2 b2 y True) : Wr a0 b0 a2 b2 (x ++ y) p := (h.trans k).imp_ok
theorem compl64 (z : Int) (h1 : -9223372036854775808 ≤ z) (h2 : z ≤ 9223372036854775807) : bits .xor .i64 (-1) z = -z - 1 := by
  show IntKind.i64.wrap ((BitVec.ofInt 64 (-1) ^^^ BitVec.ofInt 64 z).toNat : Int) = _
  rw [show BitVec.ofInt 64 (-1) = BitVec.allOnes 64 from rfl, BitVec.allOnes_xor, BitVec.toNat_not, BitVec.toNat_ofInt]
  rw [IntKind.wrap_i64, show (2 : Nat) ^ 64 = 18446744073709551616 from rfl]
  omega
set_option maxRecDepth 8000 in
set_option maxHeartbeats 4000000 in
theorem winteger_any (lo wb : Nat) (z : Int) (hz : Rg z) (W : World) {acc : List UInt8} {b : Bool} (h : WS lo wb W acc b) : Calls Try.prog 91 #[.pointer (some ⟨wb, 0, none⟩), .int .i64 z] W (Wp lo wb acc b (encI z) True W) := by
  obtain ⟨hz1, hz2⟩ := hz
  by_cases hneg : z < 0
  · have hzz : zig z = 2 * (-z - 1).toNat + 1 := by unfold zig; rw [if_pos hneg]
    have hk := wnumber_any lo wb (zig z) (by omega) W h
    have e0 := compl64 z hz1 hz2
    unfold encI
    generalize zig z = n at *
    have e1 : IntKind.u64.wrap (IntKind.u64.wrap (2 * IntKind.u64.wrap (-z - 1)) + 1) = (n : Int) := by
      rw [IntKind.wrap_u64, IntKind.wrap_u64, IntKind.wrap_u64]
      omega
    clear h hzz
    go_enter Try.func91, Try.ntmps91
    go_wp2_with (go_at_call 117; refine dbgM ?_)
    unfold Marker
    have ha : ∀ X : Int, X = (n : Int) → Calls Try.prog 117 #[.pointer (some ⟨wb, 0, none⟩), .int .u64 X] W (Wp lo wb acc b (encN n) True W) := fun X h => by rw [h]; exact hk
    refine (ha _ ?_).mono ?_
    · rfl
    clear ha hk e0 e1
    rintro e w1 ⟨rfl, acc1, b1, hW1, hB1, hr1⟩
    go_wp2
    have hfin : Wp lo wb acc b (encN n) True W (.returned (.tuple #[])) w1 := ⟨rfl, acc1, b1, hW1, hB1, hr1⟩
    exact bodyPost_end (v := .tuple #[]) (by simp [results, Try.results91, go_sem]) rfl hfin
  · have hzz : zig z = 2 * z.toNat := by unfold zig; rw [if_neg hneg]
    have hk := wnumber_any lo wb (zig z) (by omega) W h
    unfold encI
    generalize zig z = n at *
    rw [show ((n : Nat) : Int) = 2 * z by omega] at hk
    clear h hzz
    go_enter Try.func91, Try.ntmps91
    go_wp2_with (go_at_call 117; go_loud (refine hk.mono ?_; clear hk; rintro e w1 ⟨rfl, acc1, b1, hW1, hB1, hr1⟩))
    have hfin : Wp lo wb acc b (encN n) True W (.returned (.tuple #[])) w1 := ⟨rfl, acc1, b1, hW1, hB1, hr1⟩
    exact bodyPost_end (v := .tuple #[]) (by simp [results, Try.results91, go_sem]) rfl hfin

set_option maxRecDepth 8000 in
set_option maxHeartbeats 4000000 in
theorem wtext_any (lo wb : Nat) (s : List UInt8) (hl : s.length ≤ 9223372036854775807) (W : World) {acc : List UInt8} {b : Bool} (h : WS lo wb W acc b) : Calls Try.prog 90 #[.pointer (some ⟨wb, 0, none⟩), .string ⟨s.toArray⟩] W (Wp lo wb acc b (encS s) True W) := by
  have hk := wnumber_any lo wb s.length (by omega) W h
  have hsz : (ByteArray.mk s.toArray).size = s.length := rfl
  have hsl : (s.length : Int) % 18446744073709551616 = (s.length : Int) := by omega
  clear h
  go_enter Try.func90, Try.ntmps90
  go_wp2_with (first | (go_at_call 117; go_loud (refine hk.mono ?_; clear hk; rintro e w1 ⟨rfl, acc1, b1, hW1, hB1, hr1⟩; have hk2 := wraw_any lo wb s w1 hW1)) | (go_at_call 89; go_loud (refine hk2.mono ?_; clear hk2; rintro e w2 ⟨rfl, acc2, b2, hW2, hB2, hr2⟩)))
  have hfin : Wp lo wb acc b (encS s) True W (.returned (.tuple #[])) w2 := ⟨rfl, acc2, b2, hW2, hB1.trans hB2, hr1.tr hr2⟩
  exact bodyPost_end (v := .tuple #[]) (by simp [results, Try.results90, go_sem]) rfl hfin

set_option maxRecDepth 8000 in
set_option maxHeartbeats 4000000 in
theorem wflag_any (lo wb : Nat) (x : Bool) (W : World) {acc : List UInt8} {b : Bool} (h : WS lo wb W acc b) : Calls Try.prog 121 #[.pointer (some ⟨wb, 0, none⟩), .bool x] W (Wp lo wb acc b (encB x) True W) := by
  have hk0 := wbyte_any lo wb 0 (by decide) W h
  have hk1 := wbyte_any lo wb 1 (by decide) W h
  clear h
  cases x with
  | true =>
    go_enter Try.func121, Try.ntmps121
    go_wp2_with (go_at_call 125; go_loud (refine hk1.mono ?_; clear hk1 hk0; rintro e w1 ⟨rfl, acc1, b1, hW1, hB1, hr1⟩))
    have hfin : Wp lo wb acc b (encB true) True W (.returned (.tuple #[])) w1 := ⟨rfl, acc1, b1, hW1, hB1, hr1⟩
    exact bodyPost_end (v := .tuple #[]) (by simp [results, Try.results121, go_sem]) rfl hfin
  | false =>
    go_enter Try.func121, Try.ntmps121
    go_wp2_with (go_at_call 125; go_loud (refine hk0.mono ?_; clear hk1 hk0; rintro e w1 ⟨rfl, acc1, b1, hW1, hB1, hr1⟩))
    have hfin : Wp lo wb acc b (encB false) True W (.returned (.tuple #[])) w1 := ⟨rfl, acc1, b1, hW1, hB1, hr1⟩
    exact bodyPost_end (v := .tuple #[]) (by simp [results, Try.results121, go_sem]) rfl hfin

end Go.Proofs.Ytjgkjdalnjlefaa
