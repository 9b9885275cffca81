import Derived.Test.YtblfdjdhikfjhaaGreatTurnBzM
import Derived.Test.YtblfdjdhikfjhaaGreatJoin17
import Derived.WalkSpells
import Derived.BigQuiet
import Derived.Deep.Slices
import Derived.Laws.BitsAllLaws
import Derived.Laws.Shifts
import Derived.Lib.EndianBits
namespace Go.Proofs.YtblfdjdhikfjhaaGreat.BZ
open Go.RowKit

/-- Bytes in memory, in another block than rb. -/
def BytL (W : World) (rb : Nat) (a : Option Addr) (t : List UInt8) : Prop := t = [] ∨ ∃ b off, a = some ⟨b, off, none⟩ ∧ b < W.heap.size ∧ b < rb ∧ ∀ i (h : i < t.length), W.cell? ⟨b, off + i, none⟩ = some (.int .u8 (t[i].toNat : Int))
theorem BytL.other {W W' : World} {rb : Nat} {a : Option Addr} {t : List UInt8} {r : Option Nat} (h : BytL W rb a t) (hg : W.grownBy W' r) (hr : t ≠ [] → ∀ b off, a = some ⟨b, off, none⟩ → r ≠ some b) : BytL W' rb a t := by
  rcases h with h0 | ⟨b, off, ha, hlt, hne, hc⟩
  · exact .inl h0
  · by_cases h0 : t = []
    · exact .inl h0
    · exact .inr ⟨b, off, ha, Nat.lt_of_lt_of_le hlt hg.size, hne, fun i hi => (grown_cell hg hlt (hr h0 b off ha)).trans (hc i hi)⟩
theorem BytL.later {W W' : World} {rb : Nat} {a : Option Addr} {t : List UInt8} (h : BytL W rb a t) (hb : Below W.heap.size W W') : BytL W' rb a t := by
  rcases h with h0 | ⟨b, off, ha, hlt, hne, hc⟩
  · exact .inl h0
  · exact .inr ⟨b, off, ha, Nat.lt_of_lt_of_le hlt hb.size, hne, fun i hi => (hb.cell (p := ⟨b, off + i, none⟩) hlt).trans (hc i hi)⟩
theorem BytL.own {W W' : World} {rb : Nat} {a : Option Addr} {t : List UInt8} (h : BytL W rb a t) (hg : W.grownBy W' (some rb)) : BytL W' rb a t := by
  rcases h with h0 | ⟨b, off, ha, hlt, hne, hc⟩
  · exact .inl h0
  · exact .inr ⟨b, off, ha, Nat.lt_of_lt_of_le hlt hg.size, hne, fun i hi => (grown_cell hg hlt (fun e => by have := Option.some.inj e; omega)).trans (hc i hi)⟩

/-- The reader: what is left, whether a fault was met. -/
def RAt (W : World) (rb : Nat) (t : List UInt8) (bad : Bool) : Prop := (bad = true → t = []) ∧ ∃ a cap, W.heap[rb]? = some (.cells #[.slice a t.length cap, .bool bad] 62 (0, 0)) ∧ t.length ≤ cap ∧ (a = none → cap = 0) ∧ BytL W rb a t
theorem RAt.lt {W : World} {rb : Nat} {t : List UInt8} {bad : Bool} (h : RAt W rb t bad) : rb < W.heap.size := by
  obtain ⟨-, a, cap, h, -⟩ := h
  exact (Array.getElem?_eq_some_iff.1 h).1
theorem RAt.later {W W' : World} {rb : Nat} {t : List UInt8} {bad : Bool} (h : RAt W rb t bad) (hb : Below W.heap.size W W') : RAt W' rb t bad := by
  have hl := h.lt
  obtain ⟨h0, a, cap, h1, h2, h3, h4⟩ := h
  exact ⟨h0, a, cap, (hb.block _ hl).trans h1, h2, h3, h4.later hb⟩
/-- The reader has moved: of what was there, only its block. -/
def Gr (rb : Nat) (W W' : World) : Prop := W.grownBy W' (some rb)
theorem Gr.trans {rb : Nat} {W W1 W2 : World} (h : Gr rb W W1) (k : Gr rb W1 W2) : Gr rb W W2 := World.grownBy.trans h k
theorem Gr.of_below {rb : Nat} {W W' : World} (h : Below W.heap.size W W') : Gr rb W W' := grown_of_below h

/-- What a piece did: behind a fault there is a fault. -/
def Xq {β : Type} (M : Rd β) (bad bad2 : Bool) (t2 : List UInt8) (x : β) : Prop := (bad = true → bad2 = true) ∧ (bad = false → (∀ y t, M = some (y, t) → y = x ∧ t2 = t ∧ bad2 = false) ∧ (M = none → bad2 = true))
theorem Xq.bd {β γ : Type} {M : Rd β} {K : β → List UInt8 → Rd γ} {b0 b1 b2 : Bool} {t1 t2 : List UInt8} {x : β} {y : γ} (h : Xq M b0 b1 t1 x) (k : Xq (K x t1) b1 b2 t2 y) : Xq (bd M K) b0 b2 t2 y := by
  refine ⟨fun e => k.1 (h.1 e), fun e => ?_⟩
  obtain ⟨h1, h2⟩ := h.2 e
  cases hM : M with
  | some p =>
    obtain ⟨y0, t0⟩ := p
    obtain ⟨rfl, rfl, e1⟩ := h1 _ _ hM
    exact k.2 e1
  | none => exact ⟨fun y t h => by (cases h), fun _ => k.1 (h2 hM)⟩
theorem Xq.pure {β : Type} {x : β} {b : Bool} {t : List UInt8} : Xq (some (x, t)) b b t x := ⟨id, fun e => ⟨fun y t h => by cases h; exact ⟨rfl, rfl, e⟩, fun h => by cases h⟩⟩
theorem Xq.fail {β : Type} {M : Rd β} {x : β} {b : Bool} {t : List UInt8} (h : b = false → M = none) : Xq M b true t x := ⟨fun _ => rfl, fun e => ⟨fun y t hh => by (rw [h e] at hh; cases hh), fun _ => rfl⟩⟩
theorem Xq.stuck {β : Type} {M : Rd β} {x : β} {b : Bool} {t : List UInt8} (h : b = true) : Xq M b b t x := ⟨fun _ => h, fun e => by rw [h] at e; cases e⟩

/-- What a piece answers: a value, the reader behind it. -/
def Xc {β : Type} (M : List UInt8 → Rd β) (V : World → World → β → Value → Prop) (rb : Nat) (t : List UInt8) (bad : Bool) (W : World) (e : Ending) (W' : World) : Prop :=
  ∃ (x : β) (v : Value) (t2 : List UInt8) (b2 : Bool), e = .returned v ∧ V W W' x v ∧ RAt W' rb t2 b2 ∧ Gr rb W W' ∧ Xq (M t) bad b2 t2 x

theorem under_u8 : Tryz.prog.underlying 27 = some (.slice (Tryz.prog.elem 27)) := by kernel_rfl
theorem size_u8 (X : World) : (sizeOf (Tryz.prog.elem 27)).run Tryz.prog X = .ok 1 X := by kernel_rfl
/-- left[k:]. -/
theorem slice_fromK (kd : IntKind) (a : Option Addr) (cap k : Nat) (t : List UInt8) (hk : k ≤ t.length) (hc : t.length ≤ cap) (hn : a = none → cap = 0) : ∃ ad cp, (∀ X, (Instr.slice 27 (.slice a t.length cap) (some (.int kd (k : Int))) none none).run Tryz.prog X = .ok (.slice ad (t.drop k).length cp) X) ∧ (t.drop k).length ≤ cp ∧ (ad = none → cp = 0) ∧ ∀ X rb, BytL X rb a t → BytL X rb ad (t.drop k) := by
  refine ⟨if cap = k then a else a.map (fun p => p.add (k * 1)), cap - k, fun X => ?_, by rw [List.length_drop]; omega, fun h => ?_, fun X rb hX => ?_⟩
  · rw [run_slice_l _ _ _ _ _ under_u8 kd (k : Int) (by omega) (by omega), size_u8, Result.andThen_ok, sliced, Int.toNat_natCast, List.length_drop]
  · split at h
    · have := hn h; omega
    · cases a with
      | none => have := hn rfl; omega
      | some p => cases h
  · by_cases hl : k < t.length
    · rw [if_neg (by omega)]
      rcases hX with h0 | ⟨b, off, rfl, hlt, hne, hc'⟩
      · rw [h0] at hl; simp at hl
      · refine .inr ⟨b, off + k, by rw [Option.map_some, Go.WideShapes.add_plain, Nat.mul_one], hlt, hne, fun i hi => ?_⟩
        rw [List.length_drop] at hi
        rw [List.getElem_drop, Nat.add_assoc]
        exact hc' (k + i) (by omega)
    · exact .inl (List.drop_eq_nil_of_le (by omega))
theorem slice_from (a : Option Addr) (cap k : Nat) (t : List UInt8) (hk : k ≤ t.length) (hc : t.length ≤ cap) (hn : a = none → cap = 0) : ∃ ad cp, (∀ X, (Instr.slice 27 (.slice a t.length cap) (some (.int .i64 (k : Int))) none none).run Tryz.prog X = .ok (.slice ad (t.drop k).length cp) X) ∧ (t.drop k).length ≤ cp ∧ (ad = none → cp = 0) ∧ ∀ X rb, BytL X rb a t → BytL X rb ad (t.drop k) := slice_fromK .i64 a cap k t hk hc hn

end Go.Proofs.YtblfdjdhikfjhaaGreat.BZ


namespace Go.Proofs.YtblfdjdhikfjhaaGreat.BZ
open Go.RowKit

/-- The reader's row is set anew. -/
theorem RAt.set {W : World} {rb : Nat} {t : List UInt8} {bad : Bool} (h : RAt W rb t bad) {ad : Option Addr} {cp : Nat} {t2 : List UInt8} (h2 : t2.length ≤ cp) (h3 : ad = none → cp = 0) (hB : BytL W rb ad t2) (hbad : bad = true → t2 = []) : RAt (W.setCell ⟨rb, 0, none⟩ (.slice ad t2.length cp)) rb t2 bad ∧ Gr rb W (W.setCell ⟨rb, 0, none⟩ (.slice ad t2.length cp)) := by
  obtain ⟨-, a, cap, h1, -, -, -⟩ := h
  exact ⟨⟨hbad, ad, cp, heap_setCell_same W rb 0 _ _ _ h1, h2, h3, hB.own (grown_set W rb 0 _)⟩, grown_set W rb 0 _⟩

set_option maxRecDepth 4000 in
set_option maxHeartbeats 1000000 in
theorem rfail_any (rb : Nat) (W : World) {t : List UInt8} {bad : Bool} (h : RAt W rb t bad) : Calls Tryz.prog 50 #[.pointer (some ⟨rb, 0, none⟩)] W fun e W' => e = .returned (.tuple #[]) ∧ RAt W' rb [] true ∧ Gr rb W W' := by
  obtain ⟨-, a, cap, h1, -, -, -⟩ := h
  have c0 := cell_of_row _ _ 0 _ _ _ h1
  have c1 := cell_of_row _ _ 1 _ _ _ h1
  have f0 := frozen_of_row h1 0
  have f1 := frozen_of_row h1 1
  have h2 := heap_setCell_same W rb 0 _ _ (.slice none 0 0) h1
  have g2 := grown_set W rb 0 (.slice none 0 0)
  obtain ⟨X, hX⟩ : ∃ X, W.setCell ⟨rb, 0, none⟩ (.slice none 0 0) = X := ⟨_, rfl⟩
  rw [hX] at h2 g2
  have d1 := cell_of_row _ _ 1 _ _ _ h2
  have e1 := frozen_of_row h2 1
  have h3 := heap_setCell_same X rb 1 _ _ (.bool true) h2
  have g3 := g2.trans (grown_set X rb 1 (.bool true))
  simp at c0 c1 d1
  have hfin : RAt (X.setCell ⟨rb, 1, none⟩ (.bool true)) rb [] true ∧ Gr rb W (X.setCell ⟨rb, 1, none⟩ (.bool true)) := ⟨⟨fun _ => rfl, none, 0, h3, Nat.le_refl _, fun _ => rfl, .inl rfl⟩, g3⟩
  clear h1 h2 h3 g2 g3
  go_enter Tryz.func50, Tryz.ntmps50
  go_wp2
  exact bodyPost_end (v := .tuple #[]) (by simp [results, Tryz.results50, go_sem]) rfl ⟨rfl, hfin⟩

def V8 (_ _ : World) (x : Nat) (v : Value) : Prop := v = .int .u8 (x : Int) ∧ x < 256
def V64 (_ _ : World) (x : Nat) (v : Value) : Prop := v = .int .u64 (x : Int) ∧ x < 18446744073709551616
def VI (_ _ : World) (z : Int) (v : Value) : Prop := v = .int .i64 z ∧ Rg z
def VS (_ _ : World) (s : List UInt8) (v : Value) : Prop := v = .string ⟨s.toArray⟩ ∧ s.length ≤ 9223372036854775806

set_option maxRecDepth 4000 in
set_option maxHeartbeats 1000000 in
theorem rone_any (rb : Nat) (W : World) {t : List UInt8} {bad : Bool} (h : RAt W rb t bad) : Calls Tryz.prog 49 #[.pointer (some ⟨rb, 0, none⟩)] W (Xc rOne V8 rb t bad W) := by
  have hf := rfail_any rb W h
  have hh := h
  obtain ⟨hbd, a, cap, h1, hlc, hcp, hB⟩ := h
  have c0 := cell_of_row _ _ 0 _ _ _ h1
  have f0 := frozen_of_row h1 0
  simp at c0
  cases t with
  | nil =>
    go_enter Tryz.func49, Tryz.ntmps49
    go_wp2_with (go_at_call 50; refine hf.mono ?_; rintro e w1 ⟨rfl, hR1, hG1⟩)
    exact bodyPost_ret (v := .int .u8 0) (by simp [results, Tryz.results49, go_sem]) rfl ⟨0, _, _, _, rfl, ⟨rfl, by decide⟩, hR1, hG1, Xq.fail fun _ => rfl⟩
  | cons x r =>
    have hb : bad = false := by
      cases bad with
      | false => rfl
      | true => cases hbd rfl
    subst hb
    rcases hB with h0 | ⟨b, off, rfl, hlt, hne, hc⟩
    · cases h0
    have c00 := hc 0 (by simp)
    simp only [Nat.add_zero, List.getElem_cons_zero] at c00
    obtain ⟨ad, cp, hsl, hl2, hn2, hb2⟩ := slice_from (some ⟨b, off, none⟩) cap 1 (x :: r) (by simp) hlc hcp
    simp only [List.drop_succ_cons, List.drop_zero] at hsl hl2 hb2
    obtain ⟨hR, hG⟩ := hh.set (t2 := r) hl2 hn2 (hb2 W rb (.inr ⟨b, off, rfl, hlt, hne, hc⟩)) (fun e => by cases e)
    have hlen : ((x :: r).length : Int) = (r.length : Int) + 1 := by simp
    have hz : (((x :: r).length : Int) == 0) = false := by rw [beq_eq_false_iff_ne]; simp; omega
    have hx8 := x.toNat_lt
    have hfin : Xc rOne V8 rb (x :: r) false W (.returned (.int .u8 ((x.toNat : Nat) : Int))) (W.setCell ⟨rb, 0, none⟩ (.slice ad r.length cp)) := ⟨x.toNat, _, r, false, rfl, ⟨rfl, by omega⟩, hR, hG, Xq.pure⟩
    obtain ⟨n, hn⟩ : ∃ n, (x :: r).length = n := ⟨_, rfl⟩
    rw [hn] at c0 hsl hz
    have hn1 : (1 : Int) ≤ (n : Int) := by rw [← hn]; simp; omega
    have hn0 : (0 : Int) < (n : Int) := by omega
    clear hR hG hh hf hb2 hc hn hlen h1
    generalize x.toNat = k at *
    generalize r.length = m at *
    have hsl1 : ∀ X, (Instr.slice 27 (.slice (some ⟨b, off, none⟩) n cap) (some (.int .i64 1)) none none).run Tryz.prog X = .ok (.slice ad m cp) X := fun X => hsl X
    clear hsl
    go_enter Tryz.func49, Tryz.ntmps49
    go_wp2
    exact bodyPost_ret (v := .int .u8 (k : Int)) (by simp [results, Tryz.results49, go_sem]) rfl hfin

theorem Xc.out64 {M : List UInt8 → Rd Nat} {rb : Nat} {t : List UInt8} {bad : Bool} {W : World} {e : Ending} {W' : World} (h : Xc M V64 rb t bad W e W') : ∃ (x : Nat) (t2 : List UInt8) (b2 : Bool), e = .returned (.int .u64 (x : Int)) ∧ Hid (x < 18446744073709551616) ∧ RAt W' rb t2 b2 ∧ Gr rb W W' ∧ Xq (M t) bad b2 t2 x := by
  obtain ⟨x, v, t2, b2, rfl, ⟨rfl, hx⟩, h1, h2, h3⟩ := h
  exact ⟨x, t2, b2, rfl, hx, h1, h2, h3⟩

end Go.Proofs.YtblfdjdhikfjhaaGreat.BZ


namespace Go.Proofs.YtblfdjdhikfjhaaGreat.BZ
open Go.RowKit

theorem and127 (k : Nat) (h : k < 256) : bits BinOp.and IntKind.u8 (k : Int) 127 = ((k % 128 : Nat) : Int) := by
  have := bits_mask .u8 8 (by decide) (fun n h0 h1 => by rw [IntKind.wrap_u8]; omega) 7 (by decide) (k : Int) (by omega) (by omega)
  rw [show (127 : Int) = 2 ^ 7 - 1 from by decide, this]
  omega
theorem pow128 (i : Nat) : (2 : Int) ^ (7 * i) = ((128 ^ i : Nat) : Int) := by
  rw [show (128 : Nat) ^ i = 2 ^ (7 * i) from by rw [Nat.pow_mul]]
  simp
theorem mul7 {k i : Nat} (hi : i ≤ 9) (h9 : i = 9 → k ≤ 1) : k % 128 * 128 ^ i < 18446744073709551616 := by
  by_cases h : i = 9
  · subst h
    have := h9 rfl
    have h2 : k % 128 ≤ 1 := by omega
    have := Nat.mul_le_mul_right (128 ^ 9) h2
    have e : (128 : Nat) ^ 9 = 9223372036854775808 := by decide
    omega
  · have h1 : 128 ^ i ≤ 128 ^ 8 := Nat.pow_le_pow_right (by decide) (by omega)
    have e : (128 : Nat) ^ 8 = 72057594037927936 := by decide
    have h2 : k % 128 ≤ 127 := by omega
    have := Nat.mul_le_mul h2 h1
    omega
theorem or7 {n k i : Nat} (hn : n < 128 ^ i) (hi : i ≤ 9) (h9 : i = 9 → k ≤ 1) : bits BinOp.or IntKind.u64 (n : Int) (IntKind.u64.wrap ((k : Int) % 128 * 2 ^ (7 * i))) = ((n + k % 128 * 128 ^ i : Nat) : Int) := by
  have hm := mul7 hi h9
  have e1 : (k : Int) % 128 * 2 ^ (7 * i) = ((k % 128 * 128 ^ i : Nat) : Int) := by
    rw [pow128, Int.natCast_mul]
    congr 1
  have hp : 128 ^ i ≤ 128 ^ 9 := Nat.pow_le_pow_right (by decide) hi
  have e9 : (128 : Nat) ^ 9 = 9223372036854775808 := by decide
  rw [e1, IntKind.wrap_u64, Int.emod_eq_of_lt (by omega) (by omega)]
  rw [bits_join_low .u64 64 (by decide) wraps_u64 (7 * i) (n : Int) ((k % 128 * 128 ^ i : Nat) : Int) (by omega) (by rw [pow128]; omega) (by omega) (by omega) ?_ (by omega)]
  · omega
  · rw [pow128, ← Int.natCast_emod, Nat.mul_mod_left]
    rfl

set_option maxRecDepth 8000 in
set_option maxHeartbeats 4000000 in
theorem rnum_any (rb : Nat) (W : World) {t : List UInt8} {bad : Bool} (hl : t.length ≤ 9223372036854775806) (h : RAt W rb t bad) : Calls Tryz.prog 73 #[.pointer (some ⟨rb, 0, none⟩)] W (Xc rN V64 rb t bad W) := by
  have hf := rfail_any rb W h
  have hh : Hid (RAt W rb t bad) := h
  have hbd0 : Hid (bad = true → t = []) := h.1
  obtain ⟨-, a, cap, h1, hlc, hcp, hB⟩ := h
  have c0 := cell_of_row _ _ 0 _ _ _ h1
  have f0 := frozen_of_row h1 0
  simp at c0
  have hHB : Hid (BytL W rb a t) := hB
  have hN0 : Hid (rN t = nGo (t.drop 0) 0 0) := by show rN t = nGo (t.drop 0) 0 0; rw [List.drop_zero]; rfl
  clear h1
  go_enter Tryz.func73, Tryz.ntmps73
  go_wp2
  go_loopw [3, 11] (fun nv iv wr => ∃ (i n : Nat), i ≤ 9 ∧ i ≤ t.length ∧ iv = .int .i64 (i : Int) ∧ nv = .int .u64 (n : Int) ∧ n < 128 ^ i ∧ Hid (rN t = nGo (t.drop i) i n) ∧ wr = W) (fun _ iv _ => t.length - (intOf iv).toNat)
  case atStart => exact ⟨0, 0, by omega, by omega, rfl, rfl, by decide, hN0, rfl⟩
  case round =>
    obtain ⟨i, n, hi9, hil, rfl, rfl, hv, hM, rfl⟩ := hrel
    clear hN0
    by_cases hlti : i < t.length
    · have hlt' : (i : Int) < (t.length : Int) := by omega
      have hi0 : (0 : Int) ≤ (i : Int) := by omega
      have hb : bad = false := by
        cases bad with
        | false => rfl
        | true => have := hbd0.out rfl; rw [this] at hlti; simp at hlti
      subst hb
      rcases hB with h0 | ⟨b, off, rfl, hblt, hne, hc⟩
      · rw [h0] at hlti; simp at hlti
      have ci := hc i hlti
      replace hM : Hid (rN t = nGo (t[i] :: t.drop (i + 1)) i n) := by
        show _ = _
        rw [hM.out, List.drop_eq_getElem_cons hlti]
      obtain ⟨ad, cp, hsl, hl2, hn2, hb2⟩ := slice_from (some ⟨b, off, none⟩) cap (i + 1) t (by omega) hlc hcp
      obtain ⟨hR, hG⟩ := hh.out.set hl2 hn2 (hb2 wr rb hHB.out) (fun e => by cases e)
      generalize t[i] = x at *
      obtain ⟨k, hk⟩ : ∃ k, x.toNat = k := ⟨_, rfl⟩
      have hk256 : k < 256 := by rw [← hk]; exact x.toNat_lt
      rw [hk] at ci
      replace hM : Hid (rN t = if (i = 9 ∧ 1 < k) ∨ (0 < i ∧ k = 0) then none else if k < 128 then some (n + k % 128 * 128 ^ i, t.drop (i + 1)) else nGo (t.drop (i + 1)) (i + 1) (n + k % 128 * 128 ^ i)) := by
        show _ = _
        rw [hM.out, nGo_cons, hk]
      by_cases hbad : (i = 9 ∧ 1 < k) ∨ (0 < i ∧ k = 0)
      · have hnone : Hid (rN t = none) := by show _ = _; rw [hM.out, if_pos hbad]
        have hto : ∀ W', RAt W' rb [] true → Gr rb wr W' → Xc rN V64 rb t false wr (.returned (.int .u64 0)) W' := fun W' h1 h2 => ⟨0, _, _, _, rfl, ⟨rfl, by decide⟩, h1, h2, Xq.fail fun _ => hnone.out⟩
        clear hM hk hk256 hsl hR hG hc hl2 hn2 hb2 hnone hh
        by_cases h9 : i = 9
        · have h9' : ((i : Int) == 9) = true := by rw [h9]; rfl
          by_cases hk1 : 1 < k
          · have hk1' : (1 : Int) < (k : Int) := by omega
            clear h9 hbad
            go_wp2_with (go_at_call 50; refine hf.mono ?_; rintro e w1 ⟨rfl, hb1, hg1⟩)
            exact bodyPost_ret (v := .int .u64 0) (by simp [results, Tryz.results73, go_sem]) rfl (hto _ hb1 hg1)
          · have hk1' : ¬ (1 : Int) < (k : Int) := by omega
            have hk0 : ((k : Int) == 0) = true := by have : k = 0 := by omega
                                                     rw [this]; rfl
            have hi1 : (0 : Int) < (i : Int) := by omega
            clear h9 hbad
            go_wp2_with (go_at_call 50; refine hf.mono ?_; rintro e w1 ⟨rfl, hb1, hg1⟩)
            exact bodyPost_ret (v := .int .u64 0) (by simp [results, Tryz.results73, go_sem]) rfl (hto _ hb1 hg1)
        · have h9' : ((i : Int) == 9) = false := by simp; omega
          have hk0 : ((k : Int) == 0) = true := by have : k = 0 := by omega
                                                   rw [this]; rfl
          have hi1 : (0 : Int) < (i : Int) := by omega
          clear h9 hbad
          go_wp2_with (go_at_call 50; refine hf.mono ?_; rintro e w1 ⟨rfl, hb1, hg1⟩)
          exact bodyPost_ret (v := .int .u64 0) (by simp [results, Tryz.results73, go_sem]) rfl (hto _ hb1 hg1)
      · have ha7 := and127 k hk256
        have hor := or7 (n := n) (k := k) hv hi9 (fun h => by omega)
        have hm7 := mul7 (k := k) hi9 (fun h => by omega)
        have hpw : 128 ^ i ≤ 9223372036854775808 := Nat.le_trans (Nat.pow_le_pow_right (by decide) hi9) (by decide)
        have hsl2 : ∀ X, (Instr.slice 27 (.slice (some ⟨b, off, none⟩) t.length cap) (some (.int .i64 ((i : Int) + 1))) none none).run Tryz.prog X = .ok (.slice ad (t.drop (i + 1)).length cp) X := fun X => by
          have := hsl X
          rwa [show ((i + 1 : Nat) : Int) = (i : Int) + 1 by omega] at this
        have hdone : ∀ m, n + k % 128 * 128 ^ i = m → k < 128 → Xc rN V64 rb t false wr (.returned (.int .u64 (m : Int))) (wr.setCell ⟨rb, 0, none⟩ (.slice ad (t.drop (i + 1)).length cp)) := fun m hm hk8 => by
          refine ⟨m, _, _, false, rfl, ⟨rfl, ?_⟩, hR, hG, ?_⟩
          · by_cases h9 : i = 9
            · have hk1 : k = 1 := by omega
              subst h9 hk1
              have e9 : (128 : Nat) ^ 9 = 9223372036854775808 := by decide
              omega
            · have h1 : 128 ^ i ≤ 128 ^ 8 := Nat.pow_le_pow_right (by decide) (by omega)
              have e : (128 : Nat) ^ 8 = 72057594037927936 := by decide
              have h3 := Nat.mul_le_mul (show k % 128 ≤ 127 by omega) h1
              omega
          · rw [hM.out, if_neg hbad, if_pos hk8, hm]
            exact Xq.pure
        have hnext : ¬ k < 128 → n + k % 128 * 128 ^ i < 128 ^ (i + 1) ∧ Hid (rN t = nGo (t.drop (i + 1)) (i + 1) (n + k % 128 * 128 ^ i)) := fun h8 => by
          refine ⟨?_, by show _ = _; rw [hM.out, if_neg hbad, if_neg h8]⟩
          have h3 := Nat.mul_le_mul_right (128 ^ i) (show k % 128 ≤ 127 by omega)
          rw [Nat.pow_succ]
          omega
        have hor' : Hid (bits BinOp.or IntKind.u64 (n : Int) (IntKind.u64.wrap ((k : Int) % 128 * 2 ^ (7 * i))) = ((n + k % 128 * 128 ^ i : Nat) : Int)) := hor
        have hi1l : (i : Int) + 1 ≤ (t.length : Int) := by omega
        clear hM hc hm7 hpw hv hk hsl hR hG hf hl2 hn2 hb2
        generalize hdl : (t.drop (i + 1)).length = dl at *
        clear hdl
        by_cases h9 : i = 9
        · have h9' : ((i : Int) == 9) = true := by rw [h9]; rfl
          have hk1' : ¬ (1 : Int) < (k : Int) := by omega
          have hi1 : (0 : Int) < (i : Int) := by omega
          have hk0 : ((k : Int) == 0) = false := by simp; omega
          have hk8 : k < 128 := by omega
          have hk8' : (k : Int) < 128 := by omega
          clear h9
          obtain ⟨m, hm⟩ : ∃ m, n + k % 128 * 128 ^ i = m := ⟨_, rfl⟩
          rw [hm] at hor
          have hfin := hdone m hm hk8
          clear hm hdone hnext hbad
          go_wp2
          exact bodyPost_ret (v := .int .u64 (m : Int)) (by simp [results, Tryz.results73, go_sem]) rfl hfin
        · have h9' : ((i : Int) == 9) = false := by simp; omega
          by_cases h0 : 0 < i
          · have hi1 : (0 : Int) < (i : Int) := by omega
            have hk0 : ((k : Int) == 0) = false := by simp; omega
            by_cases hk8 : k < 128
            · have hk8' : (k : Int) < 128 := by omega
              obtain ⟨m, hm⟩ : ∃ m, n + k % 128 * 128 ^ i = m := ⟨_, rfl⟩
              rw [hm] at hor
              have hfin := hdone m hm hk8
              clear hm hdone hnext hbad
              go_wp2
              exact bodyPost_ret (v := .int .u64 (m : Int)) (by simp [results, Tryz.results73, go_sem]) rfl hfin
            · have hk8' : ¬ (k : Int) < 128 := by omega
              have hn2 := hnext hk8
              clear hor hdone hnext hbad
              go_wp2
              go_roundw
              case rel => exact ⟨i + 1, n + k % 128 * 128 ^ i, by omega, by omega, by go_num, by rw [hor'.out], hn2.1, hn2.2, by first | trivial | rfl⟩
              case measure => simp [intOf]; omega
          · have hi1 : ¬ (0 : Int) < (i : Int) := by omega
            by_cases hk8 : k < 128
            · have hk8' : (k : Int) < 128 := by omega
              obtain ⟨m, hm⟩ : ∃ m, n + k % 128 * 128 ^ i = m := ⟨_, rfl⟩
              rw [hm] at hor
              have hfin := hdone m hm hk8
              clear hm hdone hnext hbad
              go_wp2
              exact bodyPost_ret (v := .int .u64 (m : Int)) (by simp [results, Tryz.results73, go_sem]) rfl hfin
            · have hk8' : ¬ (k : Int) < 128 := by omega
              have hn2 := hnext hk8
              clear hor hdone hnext hbad
              go_wp2
              go_roundw
              case rel => exact ⟨i + 1, n + k % 128 * 128 ^ i, by omega, by omega, by go_num, by rw [hor'.out], hn2.1, hn2.2, by first | trivial | rfl⟩
              case measure => simp [intOf]; omega
    · have hlt' : ¬ (i : Int) < (t.length : Int) := by omega
      have hnone : Hid (rN t = none) := by show _ = _; rw [hM.out, List.drop_eq_nil_of_le (by omega)]; rfl
      have hto : ∀ W', RAt W' rb [] true → Gr rb wr W' → Xc rN V64 rb t bad wr (.returned (.int .u64 0)) W' := fun W' h1 h2 => ⟨0, _, _, _, rfl, ⟨rfl, by decide⟩, h1, h2, Xq.fail fun _ => hnone.out⟩
      clear hM hnone hh
      go_wp2_with (go_at_call 50; refine hf.mono ?_; rintro e w1 ⟨rfl, hb1, hg1⟩)
      exact bodyPost_ret (v := .int .u64 0) (by simp [results, Tryz.results73, go_sem]) rfl (hto _ hb1 hg1)

end Go.Proofs.YtblfdjdhikfjhaaGreat.BZ
