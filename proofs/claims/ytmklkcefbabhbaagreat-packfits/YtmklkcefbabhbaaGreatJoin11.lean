import Derived.Test.YtmklkcefbabhbaaGreatTurnPxH
import Derived.Lib.AppendStr
import Derived.Lib.UnsafeStr
import Derived.Laws.BitsAllLaws
import Derived.Laws.Shifts
namespace Go.Proofs.YtmklkcefbabhbaaGreat
open Go.RowKit

/-- The writer's state: the bytes up to here, whether it is beyond a bound. -/
structure WS (lo wb : Nat) (W : World) (acc : List UInt8) (by_ : Bool) : Prop where
  own : ∃ p cap, W.cell? ⟨wb, 0, none⟩ = some (.slice p acc.length cap) ∧ W.ownsRow (wb + 1) 5 1 (.slice p acc.length cap) acc.length (Go.Lib.byteCells acc)
  c1 : W.cell? ⟨wb, 1, none⟩ = some (.bool by_)
  fz : ∀ j, W.frozen? ⟨wb, j, none⟩ = false
  le : acc.length ≤ 131072
  lo : lo ≤ wb
theorem WS.lt {lo wb : Nat} {W : World} {acc : List UInt8} {b : Bool} (h : WS lo wb W acc b) : wb < W.heap.size := World.block_lt_of_cell? _ _ h.c1
/-- All blocks but the writer's own and those of bytes stay. -/
def Kt (wb : Nat) (W W' : World) : Prop := ∀ k c t f, k ≠ wb → W.heap[k]? = some (.cells c t f) → t ≠ 5 → W'.heap[k]? = W.heap[k]?
structure Bk (lo wb : Nat) (W W' : World) : Prop where
  bl : Below lo W W'
  kt : Kt wb W W'
theorem Bk.refl (lo wb : Nat) (W : World) : Bk lo wb W W := ⟨Below.refl _ _, fun _ _ _ _ _ _ _ => rfl⟩
theorem Bk.trans {lo wb : Nat} {W W1 W2 : World} (h : Bk lo wb W W1) (k : Bk lo wb W1 W2) : Bk lo wb W W2 := ⟨h.bl.trans k.bl, fun i c t f hi h0 ht => by
  have e := h.kt i c t f hi h0 ht
  rw [← e]
  exact k.kt i c t f hi (e.trans h0) ht⟩
theorem heap_lt {W : World} {k : Nat} {o : Obj} (h : W.heap[k]? = some o) : k < W.heap.size := (Array.getElem?_eq_some_iff.mp h).1
theorem Kt.of_gr {wb : Nat} {W W' : World} (h : W.grownBy W' (some wb)) : Kt wb W W' := fun k _ _ _ hk h0 _ => h.block k (heap_lt h0) (fun e => hk (Option.some.inj e))
theorem Bk.set {lo wb : Nat} (W : World) (h : lo ≤ wb) (i : Nat) (v : Value) : Bk lo wb W (W.setCell ⟨wb, i, none⟩ v) := ⟨(Below.refl lo W).setCell (p := ⟨wb, i, none⟩) h v, Kt.of_gr (gr_set W wb i v)⟩
theorem Bk.alloc {lo wb : Nat} (W : World) (h : lo ≤ W.heap.size) (o : Obj) : Bk lo wb W (W.alloc o) := ⟨(Below.refl lo W).alloc h o, Kt.of_gr (World.grownBy_alloc W o _)⟩
/-- What was written. -/
def Wr (acc : List UInt8) (b : Bool) (acc2 : List UInt8) (b2 : Bool) (x : List UInt8) (ok : Prop) : Prop := (b2 = false → b = false ∧ acc2 = acc ++ x ∧ ok) ∧ (b = false → acc.length + x.length ≤ 131072 → ok → b2 = false)
theorem Wr.trans {a0 a1 a2 x y : List UInt8} {b0 b1 b2 : Bool} {p q : Prop} (h : Wr a0 b0 a1 b1 x p) (k : Wr a1 b1 a2 b2 y q) : Wr a0 b0 a2 b2 (x ++ y) (p ∧ q) := by
  refine ⟨fun h2 => ?_, fun h0 hl hpq => ?_⟩
  · obtain ⟨k1, k2, k3⟩ := k.1 h2
    obtain ⟨h1, h3, h4⟩ := h.1 k1
    exact ⟨h1, by rw [k2, h3, List.append_assoc], h4, k3⟩
  · rw [List.length_append] at hl
    have h1 := h.2 h0 (by omega) hpq.1
    have h3 := (h.1 h1).2.1
    exact k.2 h1 (by rw [h3, List.length_append]; omega) hpq.2
/-- What a piece of the writer does. -/
def Wp (lo wb : Nat) (acc : List UInt8) (b : Bool) (x : List UInt8) (ok : Prop) (W : World) (e : Ending) (W' : World) : Prop := e = .returned (.tuple #[]) ∧ ∃ acc2 b2, WS lo wb W' acc2 b2 ∧ Bk lo wb W W' ∧ Wr acc b acc2 b2 x ok
theorem own_ne {W : World} {wb n : Nat} {v : Value} {xs : List Value} (h : W.ownsRow (wb + 1) 5 1 v n xs) : v.ownBlock = none ∨ v.ownBlock ≠ some wb := by
  cases hv : v.ownBlock with
  | none => exact .inl rfl
  | some g =>
    right
    intro e
    have := (h.lt g hv).1
    injection e with e
    omega
theorem WS.set1 {lo wb : Nat} {W : World} {acc : List UInt8} {b : Bool} (h : WS lo wb W acc b) (b2 : Bool) : WS lo wb (W.setCell ⟨wb, 1, none⟩ (.bool b2)) acc b2 := by
  obtain ⟨p, cap, h0, ho⟩ := h.own
  refine ⟨⟨p, cap, ?_, ho.kept (gr_set W wb 1 (.bool b2)) (own_ne ho)⟩, World.cell?_setCell_same _ _ _ h.c1, fun j => by rw [World.frozen?_setCell]; exact h.fz j, h.le, h.lo⟩
  rw [World.cell?_setCell_other _ _ _ _ (fun e => by cases e)]
  exact h0
theorem WS.alloc {lo wb : Nat} {W : World} {acc : List UInt8} {b : Bool} (h : WS lo wb W acc b) (o : Obj) : WS lo wb (W.alloc o) acc b := by
  obtain ⟨p, cap, h0, ho⟩ := h.own
  have hg := World.grownBy_alloc W o none
  exact ⟨⟨p, cap, (gr_cell hg h.lt (by simp) 0).trans h0, ho.alloc o⟩, (gr_cell hg h.lt (by simp) 1).trans h.c1, fun j => (gr_frozen hg h.lt (by simp) j).trans (h.fz j), h.le, h.lo⟩
theorem bytes_snoc (l : List UInt8) {k : Nat} (hk : k < 256) : Go.Lib.byteCells l ++ [.int .u8 (k : Int)] = Go.Lib.byteCells (l ++ [UInt8.ofNat k]) := by
  unfold Go.Lib.byteCells
  rw [List.map_append, List.map_singleton, UInt8.toNat_ofNat']
  congr 4
  omega
theorem own_slice {W : World} {g n : Nat} {v : Value} {xs : List Value} (h : W.ownsRow g 5 1 v n xs) : ∃ p cap, v = .slice p n cap := by
  obtain ⟨_, ⟨e, h0⟩ | ⟨g, cap, cur, e, _⟩⟩ := h
  · exact ⟨none, 0, by rw [e, h0]⟩
  · exact ⟨_, cap, e⟩
/-- Behind an append. -/
theorem WS.push {lo wb : Nat} {X w4 : World} {acc acc2 : List UInt8} {b : Bool} {v v2 : Value} (h : WS lo wb X acc b) (ho : X.ownsRow (wb + 1) 5 1 v acc.length (Go.Lib.byteCells acc)) (hg : X.grownBy w4 v.ownBlock) (ho2 : w4.ownsRow (wb + 1) 5 1 v2 acc2.length (Go.Lib.byteCells acc2)) (hl : acc2.length ≤ 131072) : WS lo wb (w4.setCell ⟨wb, 0, none⟩ v2) acc2 b ∧ Bk lo wb X (w4.setCell ⟨wb, 0, none⟩ v2) ∧ (∃ u, w4.cell? ⟨wb, 0, none⟩ = some u) ∧ w4.frozen? ⟨wb, 0, none⟩ = false := by
  have hne : some wb ≠ v.ownBlock := fun e => by
    rcases own_ne ho with h1 | h1
    · rw [h1] at e; cases e
    · exact h1 e.symm
  obtain ⟨p0, cap0, h0, -⟩ := h.own
  have k0 := (gr_cell hg h.lt hne 0).trans h0
  have k1 := (gr_cell hg h.lt hne 1).trans h.c1
  obtain ⟨p2, cap2, rfl⟩ := own_slice ho2
  refine ⟨⟨⟨p2, cap2, World.cell?_setCell_same _ _ _ k0, ho2.kept (gr_set w4 wb 0 _) (own_ne ho2)⟩, ?_, fun j => ?_, hl, h.lo⟩, ?_, ⟨_, k0⟩, (gr_frozen hg h.lt hne 0).trans (h.fz 0)⟩
  · rw [World.cell?_setCell_other _ _ _ _ (fun e => by cases e)]
    exact k1
  · rw [World.frozen?_setCell]
    exact (gr_frozen hg h.lt hne j).trans (h.fz j)
  · have h1 : Below lo X w4 := ⟨hg.os, hg.tape, hg.output, hg.size, fun k hk => hg.block k (Nat.lt_of_lt_of_le hk (Nat.le_trans h.lo (Nat.le_of_lt h.lt))) (fun e => by
      have := (ho.lt k e.symm).1
      have := h.lo
      omega)⟩
    have h2 : Kt wb X w4 := fun k c t f _ hk ht => hg.block k (heap_lt hk) (fun e => by
      obtain ⟨_, ⟨rfl, _⟩ | ⟨g, cap, cur, rfl, _, hc, _⟩⟩ := ho
      · cases e
      · have e : k = g := Option.some.inj e
        rw [e, hc] at hk
        injection hk with hk
        injection hk with _ hk
        exact ht hk.symm)
    exact Bk.trans ⟨h1, h2⟩ (Bk.set w4 h.lo 0 _)
theorem size_set (X : World) (a : Addr) (v : Value) : (X.setCell a v).heap.size = X.heap.size := by simp [World.setCell]
def Marker (P : Prop) := P
theorem dbgM {P : Prop} (h : Marker P) : P := h
theorem infoU8 : (Tryz.prog.info? 5).map (fun i => (i.zero, i.size, i.bytes)) = some (some (.int .u8 0), 1, 1) := by kernel_rfl

set_option maxRecDepth 8000 in
set_option maxHeartbeats 4000000 in
theorem wbyte_any (lo wb k : Nat) (hk : k < 256) (W : World) {acc : List UInt8} {b : Bool} (h : WS lo wb W acc b) : Calls Tryz.prog 77 #[.pointer (some ⟨wb, 0, none⟩), .int .u8 (k : Int)] W (Wp lo wb acc b [UInt8.ofNat k] True W) := by
  obtain ⟨i0, hi, hz0, hz1, hz2⟩ := info_parts infoU8
  have hlo := h.lo
  have hle := h.le
  have c1 := h.c1
  have f1 := h.fz 1
  obtain ⟨p0, cap0, c0, ho⟩ := h.own
  have hs := fun b2 => h.set1 b2
  have hB1 := fun b2 => Bk.set W hlo 1 (.bool b2)
  cases b with
  | true =>
    have hfin : Wp lo wb acc true [UInt8.ofNat k] True W (.returned (.tuple #[])) (W.setCell ⟨wb, 1, none⟩ (.bool true)) := ⟨rfl, acc, true, hs true, hB1 true, fun h => by (cases h), fun h => by (cases h)⟩
    have c1' := (hs true).c1
    clear h hs hB1 ho
    go_enter Tryz.func77, Tryz.ntmps77
    go_wp2
    exact bodyPost_end (v := .tuple #[]) (by simp [results, Tryz.results77, go_sem]) rfl hfin
  | false =>
    by_cases hfull : acc.length = 131072
    · have hf' : ((acc.length : Int) == 131072) = true := by rw [hfull]; rfl
      have hfin : Wp lo wb acc false [UInt8.ofNat k] True W (.returned (.tuple #[])) (W.setCell ⟨wb, 1, none⟩ (.bool true)) := ⟨rfl, acc, true, hs true, hB1 true, fun h => by (cases h), fun _ hl => by rw [hfull] at hl; simp at hl⟩
      have c1' := (hs true).c1
      clear h hs hB1 ho hfull
      go_enter Tryz.func77, Tryz.ntmps77
      go_wp2
      exact bodyPost_end (v := .tuple #[]) (by simp [results, Tryz.results77, go_sem]) rfl hfin
    · have hf' : ((acc.length : Int) == 131072) = false := by simp; omega
      have hs1 := hs false
      have ho1 := ho.kept (gr_set W wb 1 (.bool false)) (own_ne ho)
      have c1' := hs1.c1
      have hwlt := h.lt
      clear h hs
      go_enter Tryz.func77, Tryz.ntmps77
      go_wp2_with (at_builtin; refine wpList_append_own _ rfl _ _ 36 rfl (wb + 1) 5 i0 (.int .u8 0) 1 1 Tryz.underlying36 hi hz0 hz1 hz2 rfl (by decide) _ _ _ rfl (ho1.alloc _) ⟨W.heap.size, 0, none⟩ 1 1 [.int .u8 (k : Int)] rfl rfl (by have h := cell_one_new (W.setCell ⟨wb, 1, none⟩ (.bool false)) (.int .u8 (k : Int)) 5; rw [size_set] at h; exact h) (by simp [Value.oneCell']) (by unfold maxLen; omega) (by omega) (by simp; omega) ?_; intro v4 w4 hown4 hgrow4 _; rw [bytes_snoc acc hk] at hown4; obtain ⟨p4, cap4, rfl⟩ := own_slice hown4; obtain ⟨hW4, hB4, ⟨u4, hu4⟩, hz4⟩ := (hs1.alloc (.cells #[.int .u8 (k : Int)] 5)).push (acc2 := acc ++ [UInt8.ofNat k]) (ho1.alloc _) hgrow4 (by rw [List.length_append]; exact hown4) (by rw [List.length_append, List.length_singleton]; omega); have hfin : Wp lo wb acc false [UInt8.ofNat k] True W (.returned (.tuple #[])) (w4.setCell ⟨wb, 0, none⟩ (.slice p4 (acc.length + 1) cap4)) := ⟨rfl, _, false, hW4, ((hB1 false).trans (Bk.alloc _ (by simp; omega) _)).trans hB4, fun _ => ⟨rfl, rfl, trivial⟩, fun _ _ _ => rfl⟩; clear hW4 hB4 hown4 hgrow4 hB1 ho ho1 hs1)
      exact bodyPost_end (v := .tuple #[]) (by simp [results, Tryz.results77, go_sem]) rfl hfin

end Go.Proofs.YtmklkcefbabhbaaGreat


namespace Go.Proofs.YtmklkcefbabhbaaGreat
open Go.RowKit

theorem Wr.imp_ok {a0 a1 x : List UInt8} {b0 b1 : Bool} {p : Prop} (h : Wr a0 b0 a1 b1 x (p ∧ True)) : Wr a0 b0 a1 b1 x p := ⟨fun h0 => ⟨(h.1 h0).1, (h.1 h0).2.1, (h.1 h0).2.2.1⟩, fun h0 hl hp => h.2 h0 hl ⟨hp, trivial⟩⟩
theorem strCells_of (s : List UInt8) : Go.Lib.strCells ⟨s.toArray⟩ = Go.Lib.byteCells s := rfl
set_option maxRecDepth 8000 in
set_option maxHeartbeats 4000000 in
theorem wraw_any (lo wb : Nat) (s : List UInt8) (W : World) {acc : List UInt8} {b : Bool} (h : WS lo wb W acc b) : Calls Tryz.prog 33 #[.pointer (some ⟨wb, 0, none⟩), .string ⟨s.toArray⟩] W (Wp lo wb acc b s True W) := by
  obtain ⟨i0, hi, hz0, hz1, hz2⟩ := info_parts infoU8
  have hlo := h.lo
  have hle := h.le
  have c1 := h.c1
  have f1 := h.fz 1
  obtain ⟨p0, cap0, c0, ho⟩ := h.own
  have hs := fun b2 => h.set1 b2
  have hB1 := fun b2 => Bk.set W hlo 1 (.bool b2)
  have hsz : (ByteArray.mk s.toArray).size = s.length := rfl
  cases b with
  | true =>
    have hfin : Wp lo wb acc true s True W (.returned (.tuple #[])) (W.setCell ⟨wb, 1, none⟩ (.bool true)) := ⟨rfl, acc, true, hs true, hB1 true, fun h => by (cases h), fun h => by (cases h)⟩
    have c1' := (hs true).c1
    clear h hs hB1 ho
    go_enter Tryz.func33, Tryz.ntmps33
    go_wp2
    exact bodyPost_end (v := .tuple #[]) (by simp [results, Tryz.results33, go_sem]) rfl hfin
  | false =>
    by_cases hfull : 131072 < acc.length + s.length
    · have hf' : (131072 - (acc.length : Int)) < (s.length : Int) := by omega
      have hfin : Wp lo wb acc false s True W (.returned (.tuple #[])) (W.setCell ⟨wb, 1, none⟩ (.bool true)) := ⟨rfl, acc, true, hs true, hB1 true, fun h => by (cases h), fun _ hl => by omega⟩
      have c1' := (hs true).c1
      clear h hs hB1 ho
      go_enter Tryz.func33, Tryz.ntmps33
      go_wp2
      exact bodyPost_end (v := .tuple #[]) (by simp [results, Tryz.results33, go_sem]) rfl hfin
    · have hf' : ¬ (131072 - (acc.length : Int)) < (s.length : Int) := by omega
      have hs1 := hs false
      have ho1 := ho.kept (gr_set W wb 1 (.bool false)) (own_ne ho)
      have c1' := hs1.c1
      have hwlt := h.lt
      clear h hs
      go_enter Tryz.func33, Tryz.ntmps33
      go_wp2_with (at_builtin; refine dbgM ?_)
      unfold Marker
      refine Go.Lib.wpList_append_own_string _ rfl _ _ 36 9 rfl (wb + 1) 5 i0 Tryz.underlying36 Tryz.underlying9 hi hz0 hz1 hz2 _ _ _ rfl ho1 _ rfl (by rw [hsz]; unfold maxLen; omega) (by rw [hsz]; omega) (by simp; omega) ?_
      intro v4 w4 hown4 hgrow4 _
      rw [hsz, strCells_of, ← Go.Lib.byteCells_append, ← List.length_append] at hown4
      obtain ⟨p4, cap4, rfl⟩ := own_slice hown4
      obtain ⟨hW4, hB4, ⟨u4, hu4⟩, hz4⟩ := hs1.push (acc2 := acc ++ s) ho1 hgrow4 hown4 (by rw [List.length_append]; omega)
      have hfin : Wp lo wb acc false s True W (.returned (.tuple #[])) (w4.setCell ⟨wb, 0, none⟩ (.slice p4 (acc ++ s).length cap4)) := ⟨rfl, _, false, hW4, (hB1 false).trans hB4, fun _ => ⟨rfl, rfl, trivial⟩, fun _ _ _ => rfl⟩
      rw [List.length_append] at hfin
      clear hW4 hB4 hown4 hgrow4 hB1 ho ho1 hs1
      go_wp2
      exact bodyPost_end (v := .tuple #[]) (by simp [results, Tryz.results33, go_sem]) rfl hfin

end Go.Proofs.YtmklkcefbabhbaaGreat


namespace Go.Proofs.YtmklkcefbabhbaaGreat
open Go.RowKit

set_option maxRecDepth 100000 in
theorem or128 (m : Nat) : m % 256 ||| 128 = m % 128 + 128 := by
  have h1 : ∀ x : Fin 256, x.1 ||| 128 = x.1 % 128 + 128 := by decide
  have h2 := h1 ⟨m % 256, Nat.mod_lt _ (by decide)⟩
  simp only [] at h2
  rw [h2]
  omega
set_option maxRecDepth 8000 in
set_option maxHeartbeats 4000000 in
theorem wnumber_any (lo wb n : Nat) (hn : n < 18446744073709551616) (W : World) {acc : List UInt8} {b : Bool} (h : WS lo wb W acc b) : Calls Tryz.prog 69 #[.pointer (some ⟨wb, 0, none⟩), .int .u64 (n : Int)] W (Wp lo wb acc b (encN n) True W) := by
  go_enter Tryz.func69, Tryz.ntmps69
  go_wp2
  go_loopw [1] (fun nv W1 => ∃ m acc1 b1 pre, nv = .int .u64 ((m : Nat) : Int) ∧ m < 18446744073709551616 ∧ WS lo wb W1 acc1 b1 ∧ Bk lo wb W W1 ∧ Wr acc b acc1 b1 pre True ∧ pre ++ encN m = encN n) (fun nv _ => (intOf nv).toNat)
  case atStart => exact ⟨n, acc, b, [], rfl, hn, h, Bk.refl _ _ _, ⟨fun h => ⟨h, by simp, trivial⟩, fun h _ _ => h⟩, rfl⟩
  case round =>
    obtain ⟨m, acc1, b1, pre, rfl, hm, hW1, hB, hp, he⟩ := hrel
    by_cases hlt : m < 128
    · have hlt' : (m : Int) < 128 := by omega
      have hk := wbyte_any lo wb m (by omega) _ hW1
      clear hW1
      go_wp2_with (go_at_call 77; go_loud (refine hk.mono ?_; clear hk; rintro e w1 ⟨rfl, acc2, b2, hW2, hB2, hr2⟩))
      have hfin : Wp lo wb acc b (encN n) True W (.returned (.tuple #[])) w1 := ⟨rfl, acc2, b2, hW2, hB.trans hB2, by
        rw [← he, encN_small hlt]
        exact (hp.trans hr2).imp_ok⟩
      exact bodyPost_end (v := .tuple #[]) (by simp [results, Tryz.results69, go_sem]) rfl hfin
    · have hlt' : ¬ (m : Int) < 128 := by omega
      have hk := wbyte_any lo wb (m % 128 + 128) (by omega) _ hW1
      rw [show ((m % 128 + 128 : Nat) : Int) = (m : Int) % 128 + 128 by omega] at hk
      have hor : bits .or .u8 ((m : Int) % 256) 128 = ((m % 128 + 128 : Nat) : Int) := by
        rw [show (128 : Int) = ((128 : Nat) : Int) from rfl, show (m : Int) % 256 = ((m % 256 : Nat) : Int) by omega, u8_or_nat _ _ (Nat.mod_lt _ (by decide)) (by decide), or128]
      clear hW1
      go_wp2_with (go_at_call 77; go_loud (refine hk.mono ?_; clear hk; rintro e w1 ⟨rfl, acc2, b2, hW2, hB2, hr2⟩))
      go_roundw
      case rel => exact ⟨m / 128, acc2, b2, pre ++ [UInt8.ofNat (m % 128 + 128)], by go_num, by omega, hW2, hB.trans hB2, (hp.trans hr2).imp_ok, by rw [← he, encN_big hlt, List.append_assoc]; rfl⟩
      case measure => simp [intOf]; omega

end Go.Proofs.YtmklkcefbabhbaaGreat


namespace Go.Proofs.YtmklkcefbabhbaaGreat
open Go.RowKit

theorem Wr.tr {a0 a1 a2 x y : List UInt8} {b0 b1 b2 : Bool} {p : Prop} (h : Wr a0 b0 a1 b1 x p) (k : Wr a1 b1 a2 b2 y True) : Wr a0 b0 a2 b2 (x ++ y) p := (h.trans k).imp_ok
theorem compl64 (z : Int) (h1 : -9223372036854775808 ≤ z) (h2 : z ≤ 9223372036854775807) : bits .xor .i64 (-1) z = -z - 1 := by
  show IntKind.i64.wrap ((BitVec.ofInt 64 (-1) ^^^ BitVec.ofInt 64 z).toNat : Int) = _
  rw [show BitVec.ofInt 64 (-1) = BitVec.allOnes 64 from rfl, BitVec.allOnes_xor, BitVec.toNat_not, BitVec.toNat_ofInt]
  rw [IntKind.wrap_i64, show (2 : Nat) ^ 64 = 18446744073709551616 from rfl]
  omega
set_option maxRecDepth 8000 in
set_option maxHeartbeats 4000000 in
theorem winteger_any (lo wb : Nat) (z : Int) (hz : Rg z) (W : World) {acc : List UInt8} {b : Bool} (h : WS lo wb W acc b) : Calls Tryz.prog 35 #[.pointer (some ⟨wb, 0, none⟩), .int .i64 z] W (Wp lo wb acc b (encI z) True W) := by
  obtain ⟨hz1, hz2⟩ := hz
  by_cases hneg : z < 0
  · have hzz : zig z = 2 * (-z - 1).toNat + 1 := by unfold zig; rw [if_pos hneg]
    have hk := wnumber_any lo wb (zig z) (by omega) W h
    have e0 := compl64 z hz1 hz2
    unfold encI
    generalize zig z = n at *
    have e1 : IntKind.u64.wrap (IntKind.u64.wrap (2 * IntKind.u64.wrap (-z - 1)) + 1) = (n : Int) := by
      rw [IntKind.wrap_u64, IntKind.wrap_u64, IntKind.wrap_u64]
      omega
    clear h hzz
    go_enter Tryz.func35, Tryz.ntmps35
    go_wp2_with (go_at_call 69; refine dbgM ?_)
    unfold Marker
    have ha : ∀ X : Int, X = (n : Int) → Calls Tryz.prog 69 #[.pointer (some ⟨wb, 0, none⟩), .int .u64 X] W (Wp lo wb acc b (encN n) True W) := fun X h => by rw [h]; exact hk
    refine (ha _ ?_).mono ?_
    · rfl
    clear ha hk e0 e1
    rintro e w1 ⟨rfl, acc1, b1, hW1, hB1, hr1⟩
    go_wp2
    have hfin : Wp lo wb acc b (encN n) True W (.returned (.tuple #[])) w1 := ⟨rfl, acc1, b1, hW1, hB1, hr1⟩
    exact bodyPost_end (v := .tuple #[]) (by simp [results, Tryz.results35, go_sem]) rfl hfin
  · have hzz : zig z = 2 * z.toNat := by unfold zig; rw [if_neg hneg]
    have hk := wnumber_any lo wb (zig z) (by omega) W h
    unfold encI
    generalize zig z = n at *
    rw [show ((n : Nat) : Int) = 2 * z by omega] at hk
    clear h hzz
    go_enter Tryz.func35, Tryz.ntmps35
    go_wp2_with (go_at_call 69; go_loud (refine hk.mono ?_; clear hk; rintro e w1 ⟨rfl, acc1, b1, hW1, hB1, hr1⟩))
    have hfin : Wp lo wb acc b (encN n) True W (.returned (.tuple #[])) w1 := ⟨rfl, acc1, b1, hW1, hB1, hr1⟩
    exact bodyPost_end (v := .tuple #[]) (by simp [results, Tryz.results35, go_sem]) rfl hfin

set_option maxRecDepth 8000 in
set_option maxHeartbeats 4000000 in
theorem wtext_any (lo wb : Nat) (s : List UInt8) (hl : s.length ≤ 9223372036854775807) (W : World) {acc : List UInt8} {b : Bool} (h : WS lo wb W acc b) : Calls Tryz.prog 34 #[.pointer (some ⟨wb, 0, none⟩), .string ⟨s.toArray⟩] W (Wp lo wb acc b (encS s) True W) := by
  have hk := wnumber_any lo wb s.length (by omega) W h
  have hsz : (ByteArray.mk s.toArray).size = s.length := rfl
  have hsl : (s.length : Int) % 18446744073709551616 = (s.length : Int) := by omega
  clear h
  go_enter Tryz.func34, Tryz.ntmps34
  go_wp2_with (first | (go_at_call 69; go_loud (refine hk.mono ?_; clear hk; rintro e w1 ⟨rfl, acc1, b1, hW1, hB1, hr1⟩; have hk2 := wraw_any lo wb s w1 hW1)) | (go_at_call 33; go_loud (refine hk2.mono ?_; clear hk2; rintro e w2 ⟨rfl, acc2, b2, hW2, hB2, hr2⟩)))
  have hfin : Wp lo wb acc b (encS s) True W (.returned (.tuple #[])) w2 := ⟨rfl, acc2, b2, hW2, hB1.trans hB2, hr1.tr hr2⟩
  exact bodyPost_end (v := .tuple #[]) (by simp [results, Tryz.results34, go_sem]) rfl hfin

set_option maxRecDepth 8000 in
set_option maxHeartbeats 4000000 in
theorem wflag_any (lo wb : Nat) (x : Bool) (W : World) {acc : List UInt8} {b : Bool} (h : WS lo wb W acc b) : Calls Tryz.prog 73 #[.pointer (some ⟨wb, 0, none⟩), .bool x] W (Wp lo wb acc b (encB x) True W) := by
  have hk0 := wbyte_any lo wb 0 (by decide) W h
  have hk1 := wbyte_any lo wb 1 (by decide) W h
  clear h
  cases x with
  | true =>
    go_enter Tryz.func73, Tryz.ntmps73
    go_wp2_with (go_at_call 77; go_loud (refine hk1.mono ?_; clear hk1 hk0; rintro e w1 ⟨rfl, acc1, b1, hW1, hB1, hr1⟩))
    have hfin : Wp lo wb acc b (encB true) True W (.returned (.tuple #[])) w1 := ⟨rfl, acc1, b1, hW1, hB1, hr1⟩
    exact bodyPost_end (v := .tuple #[]) (by simp [results, Tryz.results73, go_sem]) rfl hfin
  | false =>
    go_enter Tryz.func73, Tryz.ntmps73
    go_wp2_with (go_at_call 77; go_loud (refine hk0.mono ?_; clear hk1 hk0; rintro e w1 ⟨rfl, acc1, b1, hW1, hB1, hr1⟩))
    have hfin : Wp lo wb acc b (encB false) True W (.returned (.tuple #[])) w1 := ⟨rfl, acc1, b1, hW1, hB1, hr1⟩
    exact bodyPost_end (v := .tuple #[]) (by simp [results, Tryz.results73, go_sem]) rfl hfin

end Go.Proofs.YtmklkcefbabhbaaGreat
