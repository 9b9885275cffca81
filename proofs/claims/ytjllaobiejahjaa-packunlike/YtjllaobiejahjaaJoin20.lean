import Derived.Test.YtjllaobiejahjaaTurnPkQ
import Derived.Laws.BitsAllLaws
import Derived.Laws.Shifts
namespace Go.Proofs.Ytjllaobiejahjaa
open Go.RowKit

theorem Wr.imp_ok {a0 a1 x : List UInt8} {b0 b1 : Bool} {p : Prop} (h : Wr a0 b0 a1 b1 x (p ∧ True)) : Wr a0 b0 a1 b1 x p := ⟨fun h0 => ⟨(h.1 h0).1, (h.1 h0).2.1, (h.1 h0).2.2.1⟩, fun h0 hl hp => h.2 h0 hl ⟨hp, trivial⟩⟩
theorem strCells_of (s : List UInt8) : Go.Lib.strCells ⟨s.toArray⟩ = Go.Lib.byteCells s := rfl
set_option maxRecDepth 8000 in
set_option maxHeartbeats 4000000 in
theorem wraw_any (lo wb : Nat) (s : List UInt8) (W : World) {acc : List UInt8} {b : Bool} (h : WS lo wb W acc b) : Calls Try.prog 20 #[.pointer (some ⟨wb, 0, none⟩), .string ⟨s.toArray⟩] W (Wp lo wb acc b s True W) := by
  obtain ⟨i0, hi, hz0, hz1, hz2⟩ := info_parts infoU8
  have hlo := h.lo
  have hle := h.le
  have c1 := h.c1
  have f1 := h.fz 1
  obtain ⟨p0, cap0, c0, ho⟩ := h.own
  have hs := fun b2 => h.set1 b2
  have hB1 := fun b2 => Bk.set W hlo 1 (.bool b2)
  have hsz : (ByteArray.mk s.toArray).size = s.length := rfl
  cases b with
  | true =>
    have hfin : Wp lo wb acc true s True W (.returned (.tuple #[])) (W.setCell ⟨wb, 1, none⟩ (.bool true)) := ⟨rfl, acc, true, hs true, hB1 true, fun h => by (cases h), fun h => by (cases h)⟩
    have c1' := (hs true).c1
    clear h hs hB1 ho
    go_enter Try.func20, Try.ntmps20
    go_wp2
    exact bodyPost_end (v := .tuple #[]) (by simp [results, Try.results20, go_sem]) rfl hfin
  | false =>
    by_cases hfull : 131072 < acc.length + s.length
    · have hf' : (131072 - (acc.length : Int)) < (s.length : Int) := by omega
      have hfin : Wp lo wb acc false s True W (.returned (.tuple #[])) (W.setCell ⟨wb, 1, none⟩ (.bool true)) := ⟨rfl, acc, true, hs true, hB1 true, fun h => by (cases h), fun _ hl => by omega⟩
      have c1' := (hs true).c1
      clear h hs hB1 ho
      go_enter Try.func20, Try.ntmps20
      go_wp2
      exact bodyPost_end (v := .tuple #[]) (by simp [results, Try.results20, go_sem]) rfl hfin
    · have hf' : ¬ (131072 - (acc.length : Int)) < (s.length : Int) := by omega
      have hs1 := hs false
      have ho1 := ho.kept (gr_set W wb 1 (.bool false)) (own_ne ho)
      have c1' := hs1.c1
      have hwlt := h.lt
      clear h hs
      go_enter Try.func20, Try.ntmps20
      go_wp2_with (at_builtin; refine dbgM ?_)
      unfold Marker
      refine Go.Lib.wpList_append_own_string _ rfl _ _ 31 9 rfl (wb + 1) 5 i0 Try.underlying31 Try.underlying9 hi hz0 hz1 hz2 _ _ _ rfl ho1 _ rfl (by rw [hsz]; unfold maxLen; omega) (by rw [hsz]; omega) (by simp; omega) ?_
      intro v4 w4 hown4 hgrow4 _
      rw [hsz, strCells_of, ← Go.Lib.byteCells_append, ← List.length_append] at hown4
      obtain ⟨p4, cap4, rfl⟩ := own_slice hown4
      obtain ⟨hW4, hB4, ⟨u4, hu4⟩, hz4⟩ := hs1.push (acc2 := acc ++ s) ho1 hgrow4 hown4 (by rw [List.length_append]; omega)
      have hfin : Wp lo wb acc false s True W (.returned (.tuple #[])) (w4.setCell ⟨wb, 0, none⟩ (.slice p4 (acc ++ s).length cap4)) := ⟨rfl, _, false, hW4, (hB1 false).trans hB4, fun _ => ⟨rfl, rfl, trivial⟩, fun _ _ _ => rfl⟩
      rw [List.length_append] at hfin
      clear hW4 hB4 hown4 hgrow4 hB1 ho ho1 hs1
      go_wp2
      exact bodyPost_end (v := .tuple #[]) (by simp [results, Try.results20, go_sem]) rfl hfin

end Go.Proofs.Ytjllaobiejahjaa


namespace Go.Proofs.Ytjllaobiejahjaa
open Go.RowKit

set_option maxRecDepth 100000 in
theorem or128 (m : Nat) : m % 256 ||| 128 = m % 128 + 128 := by
  have h1 : ∀ x : Fin 256, x.1 ||| 128 = x.1 % 128 + 128 := by decide
  have h2 := h1 ⟨m % 256, Nat.mod_lt _ (by decide)⟩
  simp only [] at h2
  rw [h2]
  omega
set_option maxRecDepth 8000 in
set_option maxHeartbeats 4000000 in
theorem wnumber_any (lo wb n : Nat) (hn : n < 18446744073709551616) (W : World) {acc : List UInt8} {b : Bool} (h : WS lo wb W acc b) : Calls Try.prog 49 #[.pointer (some ⟨wb, 0, none⟩), .int .u64 (n : Int)] W (Wp lo wb acc b (encN n) True W) := by
  go_enter Try.func49, Try.ntmps49
  go_wp2
  go_loopw [1] (fun nv W1 => ∃ m acc1 b1 pre, nv = .int .u64 ((m : Nat) : Int) ∧ m < 18446744073709551616 ∧ WS lo wb W1 acc1 b1 ∧ Bk lo wb W W1 ∧ Wr acc b acc1 b1 pre True ∧ pre ++ encN m = encN n) (fun nv _ => (intOf nv).toNat)
  case atStart => exact ⟨n, acc, b, [], rfl, hn, h, Bk.refl _ _ _, ⟨fun h => ⟨h, by simp, trivial⟩, fun h _ _ => h⟩, rfl⟩
  case round =>
    obtain ⟨m, acc1, b1, pre, rfl, hm, hW1, hB, hp, he⟩ := hrel
    by_cases hlt : m < 128
    · have hlt' : (m : Int) < 128 := by omega
      have hk := wbyte_any lo wb m (by omega) _ hW1
      clear hW1
      go_wp2_with (go_at_call 57; go_loud (refine hk.mono ?_; clear hk; rintro e w1 ⟨rfl, acc2, b2, hW2, hB2, hr2⟩))
      have hfin : Wp lo wb acc b (encN n) True W (.returned (.tuple #[])) w1 := ⟨rfl, acc2, b2, hW2, hB.trans hB2, by
        rw [← he, encN_small hlt]
        exact (hp.trans hr2).imp_ok⟩
      exact bodyPost_end (v := .tuple #[]) (by simp [results, Try.results49, go_sem]) rfl hfin
    · have hlt' : ¬ (m : Int) < 128 := by omega
      have hk := wbyte_any lo wb (m % 128 + 128) (by omega) _ hW1
      rw [show ((m % 128 + 128 : Nat) : Int) = (m : Int) % 128 + 128 by omega] at hk
      have hor : bits .or .u8 ((m : Int) % 256) 128 = ((m % 128 + 128 : Nat) : Int) := by
        rw [show (128 : Int) = ((128 : Nat) : Int) from rfl, show (m : Int) % 256 = ((m % 256 : Nat) : Int) by omega, u8_or_nat _ _ (Nat.mod_lt _ (by decide)) (by decide), or128]
      clear hW1
      go_wp2_with (go_at_call 57; go_loud (refine hk.mono ?_; clear hk; rintro e w1 ⟨rfl, acc2, b2, hW2, hB2, hr2⟩))
      go_roundw
      case rel => exact ⟨m / 128, acc2, b2, pre ++ [UInt8.ofNat (m % 128 + 128)], by go_num, by omega, hW2, hB.trans hB2, (hp.trans hr2).imp_ok, by rw [← he, encN_big hlt, List.append_assoc]; rfl⟩
      case measure => simp [intOf]; omega

end Go.Proofs.Ytjllaobiejahjaa


namespace Go.Proofs.Ytjllaobiejahjaa
open Go.RowKit

theorem Wr.tr {a0 a1 a2 x y : List UInt8} {b0 b1 b2 : Bool} {p : Prop} (h : Wr a0 b0 a1 b1 x p) (k : Wr a1 b1 a2 b2 y True) : Wr a0 b0 a2 b2 (x ++ y) p := (h.trans k).imp_ok
theorem compl64 (z : Int) (h1 : -9223372036854775808 ≤ z) (h2 : z ≤ 9223372036854775807) : bits .xor .i64 (-1) z = -z - 1 := by
  show IntKind.i64.wrap ((BitVec.ofInt 64 (-1) ^^^ BitVec.ofInt 64 z).toNat : Int) = _
  rw [show BitVec.ofInt 64 (-1) = BitVec.allOnes 64 from rfl, BitVec.allOnes_xor, BitVec.toNat_not, BitVec.toNat_ofInt]
  rw [IntKind.wrap_i64, show (2 : Nat) ^ 64 = 18446744073709551616 from rfl]
  omega
set_option maxRecDepth 8000 in
set_option maxHeartbeats 4000000 in
theorem winteger_any (lo wb : Nat) (z : Int) (hz : Rg z) (W : World) {acc : List UInt8} {b : Bool} (h : WS lo wb W acc b) : Calls Try.prog 22 #[.pointer (some ⟨wb, 0, none⟩), .int .i64 z] W (Wp lo wb acc b (encI z) True W) := by
  obtain ⟨hz1, hz2⟩ := hz
  by_cases hneg : z < 0
  · have hzz : zig z = 2 * (-z - 1).toNat + 1 := by unfold zig; rw [if_pos hneg]
    have hk := wnumber_any lo wb (zig z) (by omega) W h
    have e0 := compl64 z hz1 hz2
    unfold encI
    generalize zig z = n at *
    have e1 : IntKind.u64.wrap (IntKind.u64.wrap (2 * IntKind.u64.wrap (-z - 1)) + 1) = (n : Int) := by
      rw [IntKind.wrap_u64, IntKind.wrap_u64, IntKind.wrap_u64]
      omega
    clear h hzz
    go_enter Try.func22, Try.ntmps22
    go_wp2_with (go_at_call 49; refine dbgM ?_)
    unfold Marker
    have ha : ∀ X : Int, X = (n : Int) → Calls Try.prog 49 #[.pointer (some ⟨wb, 0, none⟩), .int .u64 X] W (Wp lo wb acc b (encN n) True W) := fun X h => by rw [h]; exact hk
    refine (ha _ ?_).mono ?_
    · rfl
    clear ha hk e0 e1
    rintro e w1 ⟨rfl, acc1, b1, hW1, hB1, hr1⟩
    go_wp2
    have hfin : Wp lo wb acc b (encN n) True W (.returned (.tuple #[])) w1 := ⟨rfl, acc1, b1, hW1, hB1, hr1⟩
    exact bodyPost_end (v := .tuple #[]) (by simp [results, Try.results22, go_sem]) rfl hfin
  · have hzz : zig z = 2 * z.toNat := by unfold zig; rw [if_neg hneg]
    have hk := wnumber_any lo wb (zig z) (by omega) W h
    unfold encI
    generalize zig z = n at *
    rw [show ((n : Nat) : Int) = 2 * z by omega] at hk
    clear h hzz
    go_enter Try.func22, Try.ntmps22
    go_wp2_with (go_at_call 49; go_loud (refine hk.mono ?_; clear hk; rintro e w1 ⟨rfl, acc1, b1, hW1, hB1, hr1⟩))
    have hfin : Wp lo wb acc b (encN n) True W (.returned (.tuple #[])) w1 := ⟨rfl, acc1, b1, hW1, hB1, hr1⟩
    exact bodyPost_end (v := .tuple #[]) (by simp [results, Try.results22, go_sem]) rfl hfin

set_option maxRecDepth 8000 in
set_option maxHeartbeats 4000000 in
theorem wtext_any (lo wb : Nat) (s : List UInt8) (hl : s.length ≤ 9223372036854775807) (W : World) {acc : List UInt8} {b : Bool} (h : WS lo wb W acc b) : Calls Try.prog 21 #[.pointer (some ⟨wb, 0, none⟩), .string ⟨s.toArray⟩] W (Wp lo wb acc b (encS s) True W) := by
  have hk := wnumber_any lo wb s.length (by omega) W h
  have hsz : (ByteArray.mk s.toArray).size = s.length := rfl
  have hsl : (s.length : Int) % 18446744073709551616 = (s.length : Int) := by omega
  clear h
  go_enter Try.func21, Try.ntmps21
  go_wp2_with (first | (go_at_call 49; go_loud (refine hk.mono ?_; clear hk; rintro e w1 ⟨rfl, acc1, b1, hW1, hB1, hr1⟩; have hk2 := wraw_any lo wb s w1 hW1)) | (go_at_call 20; go_loud (refine hk2.mono ?_; clear hk2; rintro e w2 ⟨rfl, acc2, b2, hW2, hB2, hr2⟩)))
  have hfin : Wp lo wb acc b (encS s) True W (.returned (.tuple #[])) w2 := ⟨rfl, acc2, b2, hW2, hB1.trans hB2, hr1.tr hr2⟩
  exact bodyPost_end (v := .tuple #[]) (by simp [results, Try.results21, go_sem]) rfl hfin

set_option maxRecDepth 8000 in
set_option maxHeartbeats 4000000 in
theorem wflag_any (lo wb : Nat) (x : Bool) (W : World) {acc : List UInt8} {b : Bool} (h : WS lo wb W acc b) : Calls Try.prog 53 #[.pointer (some ⟨wb, 0, none⟩), .bool x] W (Wp lo wb acc b (encB x) True W) := by
  have hk0 := wbyte_any lo wb 0 (by decide) W h
  have hk1 := wbyte_any lo wb 1 (by decide) W h
  clear h
  cases x with
  | true =>
    go_enter Try.func53, Try.ntmps53
    go_wp2_with (go_at_call 57; go_loud (refine hk1.mono ?_; clear hk1 hk0; rintro e w1 ⟨rfl, acc1, b1, hW1, hB1, hr1⟩))
    have hfin : Wp lo wb acc b (encB true) True W (.returned (.tuple #[])) w1 := ⟨rfl, acc1, b1, hW1, hB1, hr1⟩
    exact bodyPost_end (v := .tuple #[]) (by simp [results, Try.results53, go_sem]) rfl hfin
  | false =>
    go_enter Try.func53, Try.ntmps53
    go_wp2_with (go_at_call 57; go_loud (refine hk0.mono ?_; clear hk1 hk0; rintro e w1 ⟨rfl, acc1, b1, hW1, hB1, hr1⟩))
    have hfin : Wp lo wb acc b (encB false) True W (.returned (.tuple #[])) w1 := ⟨rfl, acc1, b1, hW1, hB1, hr1⟩
    exact bodyPost_end (v := .tuple #[]) (by simp [results, Try.results53, go_sem]) rfl hfin

end Go.Proofs.Ytjllaobiejahjaa
