import Derived.Test.YtblfdjdhikfjhaaGreatTurnBzM
import Derived.Test.YtblfdjdhikfjhaaGreatJoin17
import Derived.Lib.AppendStr
import Derived.Lib.UnsafeStr
import Derived.Laws.BitsAllLaws
import Derived.Laws.Shifts
import Derived.BigQuiet
namespace Go.Proofs.YtblfdjdhikfjhaaGreat.BZ
open Go.RowKit

/-- The writer: the bytes up to here. -/
def WAt (W : World) (wb : Nat) (acc : List UInt8) : Prop := ∃ p cap, W.heap[wb]? = some (.cells #[.slice p acc.length cap] 58 (0, 0)) ∧ W.ownsRow (wb + 1) 5 1 (.slice p acc.length cap) acc.length (Go.Lib.byteCells acc)
theorem WAt.lt {W : World} {wb : Nat} {acc : List UInt8} (h : WAt W wb acc) : wb < W.heap.size := by
  obtain ⟨p, cap, h, -⟩ := h
  exact (Array.getElem?_eq_some_iff.1 h).1
theorem WAt.later {W W' : World} {wb : Nat} {acc : List UInt8} (h : WAt W wb acc) (hb : Below W.heap.size W W') : WAt W' wb acc := by
  have hl := h.lt
  obtain ⟨p, cap, h1, h2⟩ := h
  exact ⟨p, cap, (hb.block _ hl).trans h1, own_laterB h2 hb⟩
/-- What the writer leaves: all but its block and rows of bytes. -/
structure Wd (wb : Nat) (W W' : World) : Prop where
  bl : Below wb W W'
  kt : ∀ k, k ≠ wb → k < W.heap.size → (∀ cs f, W.heap[k]? ≠ some (.cells cs 5 f)) → W'.heap[k]? = W.heap[k]?
theorem Wd.refl (wb : Nat) (W : World) : Wd wb W W := ⟨Below.refl _ _, fun _ _ _ _ => rfl⟩
theorem Wd.trans {wb : Nat} {W W1 W2 : World} (h : Wd wb W W1) (k : Wd wb W1 W2) : Wd wb W W2 := ⟨h.bl.trans k.bl, fun i hi hl hn => by
  have e := h.kt i hi hl hn
  rw [← e]
  exact k.kt i hi (Nat.lt_of_lt_of_le hl h.bl.size) (fun cs f hc => hn cs f (e ▸ hc))⟩
theorem Wd.of_below {wb : Nat} {W W' : World} (h : Below W.heap.size W W') (hl : wb ≤ W.heap.size) : Wd wb W W' := ⟨h.mono hl, fun k _ hk _ => h.block k hk⟩
theorem Wd.of_gr {wb : Nat} {W W' : World} (hl : wb ≤ W.heap.size) (h : W.grownBy W' (some wb)) : Wd wb W W' := ⟨(Below.refl wb W).grown h hl (fun k hk => by cases hk; exact Nat.le_refl _), fun k hk hl _ => h.block k hl (fun e => hk (Option.some.inj e))⟩
theorem own_ne8 {W : World} {wb n : Nat} {v : Value} {xs : List Value} (h : W.ownsRow (wb + 1) 5 1 v n xs) : some wb ≠ v.ownBlock := fun e => by
  have := (h.lt wb e.symm).1
  omega
theorem Wd.of_row {wb n : Nat} {W W' : World} {v : Value} {xs : List Value} (hl : wb ≤ W.heap.size) (ho : W.ownsRow (wb + 1) 5 1 v n xs) (hg : W.grownBy W' v.ownBlock) : Wd wb W W' := by
  refine ⟨(Below.refl wb W).grown hg hl (fun k hk => by have := (ho.lt k hk).1; omega), fun k _ hk hn => hg.block k hk (fun e => ?_)⟩
  obtain ⟨_, ⟨rfl, _⟩ | ⟨g, cap, cur, rfl, _, hc, _⟩⟩ := ho
  · cases e
  · have e : k = g := Option.some.inj e
    subst e
    exact hn _ _ hc
theorem bytes_snoc (l : List UInt8) {k : Nat} (hk : k < 256) : Go.Lib.byteCells l ++ [.int .u8 (k : Int)] = Go.Lib.byteCells (l ++ [UInt8.ofNat k]) := by
  unfold Go.Lib.byteCells
  rw [List.map_append, List.map_singleton, UInt8.toNat_ofNat']
  congr 4
  omega
theorem own_slice8 {W : World} {g n size : Nat} {e : TypeId} {v : Value} {xs : List Value} (h : W.ownsRow g e size v n xs) : ∃ p cap, v = .slice p n cap := by
  obtain ⟨_, ⟨e, h0⟩ | ⟨g, cap, cur, e, _⟩⟩ := h
  · exact ⟨none, 0, by rw [e, h0]⟩
  · exact ⟨_, cap, e⟩
/-- Behind an append. -/
theorem WAt.push {wb : Nat} {X w4 : World} {acc acc2 : List UInt8} {p p2 : Option Addr} {cap cap2 : Nat} (h : X.heap[wb]? = some (.cells #[.slice p acc.length cap] 58 (0, 0))) (ho : X.ownsRow (wb + 1) 5 1 (.slice p acc.length cap) acc.length (Go.Lib.byteCells acc)) (hg : X.grownBy w4 (Value.slice p acc.length cap).ownBlock) (ho2 : w4.ownsRow (wb + 1) 5 1 (.slice p2 acc2.length cap2) acc2.length (Go.Lib.byteCells acc2)) :
    WAt (w4.setCell ⟨wb, 0, none⟩ (.slice p2 acc2.length cap2)) wb acc2 ∧ Wd wb X (w4.setCell ⟨wb, 0, none⟩ (.slice p2 acc2.length cap2)) ∧ w4.heap[wb]? = some (.cells #[.slice p acc.length cap] 58 (0, 0)) := by
  have hl : wb < X.heap.size := (Array.getElem?_eq_some_iff.1 h).1
  have h4 := (hg.block wb hl (own_ne8 ho)).trans h
  refine ⟨⟨p2, cap2, heap_setCell_same w4 wb 0 _ _ _ h4, ho2.kept (grown_set w4 wb 0 _) ?_⟩, (Wd.of_row (Nat.le_of_lt hl) ho hg).trans (Wd.of_gr (Nat.le_of_lt (Array.getElem?_eq_some_iff.1 h4).1) (grown_set w4 wb 0 _)), h4⟩
  cases hv : (Value.slice p2 acc2.length cap2).ownBlock with
  | none => exact .inl rfl
  | some g =>
    right
    intro e
    exact own_ne8 ho2 (by rw [hv, ← e])
theorem info_u8 : (Tryz.prog.info? 5).map (fun i => (i.zero, i.size, i.bytes)) = some (some (.int .u8 0), 1, 1) := by kernel_rfl
theorem info_bits {e : TypeId} {z : Option Value} {n m : Nat} (h : (Tryz.prog.info? e).map (fun i => (i.zero, i.size, i.bytes)) = some (z, n, m)) : ∃ i, Tryz.prog.info? e = some i ∧ i.zero = z ∧ i.size = n ∧ i.bytes = m := by
  cases hi : Tryz.prog.info? e with
  | none => rw [hi] at h; cases h
  | some i =>
    rw [hi] at h
    simp only [Option.map_some, Option.some.injEq, Prod.mk.injEq] at h
    exact ⟨i, rfl, h.1, h.2.1, h.2.2⟩

/-- What a piece of the writer does. -/
def Wp (wb : Nat) (acc x : List UInt8) (W : World) (e : Ending) (W' : World) : Prop := e = .returned (.tuple #[]) ∧ WAt W' wb (acc ++ x) ∧ Wd wb W W'
def StopJ (P : Prop) := P
theorem stopJ {P : Prop} (h : StopJ P) : P := h

set_option maxRecDepth 8000 in
set_option maxHeartbeats 4000000 in
theorem wone_any (wb k : Nat) (hk : k < 256) (W : World) {acc : List UInt8} (hl : acc.length + 1 ≤ 100000000000000) (h : WAt W wb acc) : Calls Tryz.prog 44 #[.pointer (some ⟨wb, 0, none⟩), .int .u8 (k : Int)] W (Wp wb acc [UInt8.ofNat k] W) := by
  obtain ⟨i0, hi, hz0, hz1, hz2⟩ := info_bits info_u8
  have hwl := h.lt
  obtain ⟨p, cap, h1, ho⟩ := h
  have c0 : W.cell? ⟨wb, 0, none⟩ = some (.slice p acc.length cap) := cell_of_row _ _ 0 _ _ _ h1
  have hb1 : Below W.heap.size W (W.alloc (.cells #[.int .u8 (k : Int)] 5)) := (Below.refl _ _).alloc (Nat.le_refl _) _
  have h1' := (hb1.block _ hwl).trans h1
  go_enter Tryz.func44, Tryz.ntmps44
  go_wp2_with (at_builtin; refine stopJ ?_)
  unfold StopJ
  refine wpList_append_own _ rfl _ _ 27 rfl (wb + 1) 5 i0 (.int .u8 0) 1 1 Tryz.underlying27 hi hz0 hz1 hz2 rfl (by decide) _ _ _ rfl (ho.alloc _) ⟨W.heap.size, 0, none⟩ 1 1 [.int .u8 (k : Int)] rfl rfl (one_new W _ _) (by simp [Value.oneCell']) (by unfold maxLen; omega) (by omega) (by simp; omega) ?_
  intro v4 w4 hown4 hg4 _
  rw [bytes_snoc acc hk, show acc.length + 1 = (acc ++ [UInt8.ofNat k]).length by simp] at hown4
  obtain ⟨p4, cap4, rfl⟩ := own_slice8 hown4
  obtain ⟨hA, hD, h4⟩ := WAt.push h1' (ho.alloc _) hg4 hown4
  have c4 : w4.cell? ⟨wb, 0, none⟩ = some (.slice p acc.length cap) := cell_of_row _ _ 0 _ _ _ h4
  have f4 := frozen_of_row h4 0
  have hfin : Wp wb acc [UInt8.ofNat k] W (.returned (.tuple #[])) (w4.setCell ⟨wb, 0, none⟩ (.slice p4 (acc ++ [UInt8.ofNat k]).length cap4)) := ⟨rfl, hA, (Wd.of_below hb1 (Nat.le_of_lt hwl)).trans hD⟩
  clear hA hD hown4 hg4 h4 ho h1 h1'
  generalize (acc ++ [UInt8.ofNat k]).length = n4 at *
  go_wp2
  exact bodyPost_end (v := .tuple #[]) (by simp [results, Tryz.results44, go_sem]) rfl hfin

set_option maxRecDepth 100000 in
theorem or128 (m : Nat) : m % 256 ||| 128 = m % 128 + 128 := by
  have h1 : ∀ x : Fin 256, x.1 ||| 128 = x.1 % 128 + 128 := by decide
  have h2 := h1 ⟨m % 256, Nat.mod_lt _ (by decide)⟩
  simp only [] at h2
  rw [h2]
  omega
theorem Wp.next {wb : Nat} {acc x y : List UInt8} {W W1 : World} {e : Ending} {W2 : World} (h : Wd wb W W1) (k : Wp wb (acc ++ x) y W1 e W2) : Wp wb acc (x ++ y) W e W2 := ⟨k.1, by rw [← List.append_assoc]; exact k.2.1, h.trans k.2.2⟩
set_option maxRecDepth 8000 in
set_option maxHeartbeats 4000000 in
theorem wnum_any (wb n : Nat) (hn : n < 18446744073709551616) (W : World) {acc : List UInt8} (hl : acc.length + (encN n).length ≤ 100000000000000) (h : WAt W wb acc) : Calls Tryz.prog 45 #[.pointer (some ⟨wb, 0, none⟩), .int .u64 (n : Int)] W (Wp wb acc (encN n) W) := by
  go_enter Tryz.func45, Tryz.ntmps45
  go_wp2
  go_loopw [1] (fun nv W1 => ∃ m pre, nv = .int .u64 ((m : Nat) : Int) ∧ m < 18446744073709551616 ∧ WAt W1 wb (acc ++ pre) ∧ Wd wb W W1 ∧ Hid (pre ++ encN m = encN n)) (fun nv _ => (intOf nv).toNat)
  case atStart => exact ⟨n, [], rfl, hn, by simpa using h, Wd.refl _ _, rfl⟩
  case round =>
    obtain ⟨m, pre, rfl, hm, hW1, hB, he⟩ := hrel
    clear h
    by_cases hlt : m < 128
    · have hlt' : (m : Int) < 128 := by omega
      have h256 : (m : Int) % 256 = (m : Int) := by omega
      have he2 : Hid (pre ++ [UInt8.ofNat m] = encN n) := by rw [← he.out, encN_small hlt]; rfl
      have hk := wone_any wb m (by omega) _ (by have := congrArg List.length he2.out; rw [List.length_append, List.length_singleton] at this; rw [List.length_append]; omega) hW1
      clear hW1 he
      go_wp2_with (go_at_call 44; refine hk.mono ?_; rintro e w1 ⟨rfl, hA1, hD1⟩)
      have hfin : Wp wb acc (encN n) W (.returned (.tuple #[])) w1 := by rw [← he2.out]; exact Wp.next hB ⟨rfl, hA1, hD1⟩
      exact bodyPost_end (v := .tuple #[]) (by simp [results, Tryz.results45, go_sem]) rfl hfin
    · have hlt' : ¬ (m : Int) < 128 := by omega
      have he2 : Hid (pre ++ [UInt8.ofNat (m % 128 + 128)] ++ encN (m / 128) = encN n) := by rw [← he.out, encN_big hlt, List.append_assoc]; rfl
      have hk := wone_any wb (m % 128 + 128) (by omega) _ (by have := congrArg List.length he2.out; rw [List.length_append, List.length_append, List.length_singleton] at this; rw [List.length_append]; omega) hW1
      rw [show ((m % 128 + 128 : Nat) : Int) = (m : Int) % 128 + 128 by omega] at hk
      have hor : bits .or .u8 ((m : Int) % 256) 128 = ((m % 128 + 128 : Nat) : Int) := by
        rw [show (128 : Int) = ((128 : Nat) : Int) from rfl, show (m : Int) % 256 = ((m % 256 : Nat) : Int) by omega, u8_or_nat _ _ (Nat.mod_lt _ (by decide)) (by decide), or128]
      clear hW1 he
      go_wp2_with (go_at_call 44; refine hk.mono ?_; rintro e w1 ⟨rfl, hW2, hB2⟩)
      go_roundw
      case rel => exact ⟨m / 128, pre ++ [UInt8.ofNat (m % 128 + 128)], by go_num, by omega, by rw [← List.append_assoc]; exact hW2, hB.trans hB2, he2⟩
      case measure => simp [intOf]; omega

theorem compl64 (z : Int) (h1 : -9223372036854775808 ≤ z) (h2 : z ≤ 9223372036854775807) : bits .xor .i64 (-1) z = -z - 1 := by
  show IntKind.i64.wrap ((BitVec.ofInt 64 (-1) ^^^ BitVec.ofInt 64 z).toNat : Int) = _
  rw [show BitVec.ofInt 64 (-1) = BitVec.allOnes 64 from rfl, BitVec.allOnes_xor, BitVec.toNat_not, BitVec.toNat_ofInt]
  rw [IntKind.wrap_i64, show (2 : Nat) ^ 64 = 18446744073709551616 from rfl]
  omega
set_option maxRecDepth 8000 in
set_option maxHeartbeats 4000000 in
theorem wint_any (wb : Nat) (z : Int) (hz : Rg z) (W : World) {acc : List UInt8} (hl : acc.length + (encI z).length ≤ 100000000000000) (h : WAt W wb acc) : Calls Tryz.prog 86 #[.pointer (some ⟨wb, 0, none⟩), .int .i64 z] W (Wp wb acc (encI z) W) := by
  obtain ⟨hz1, hz2⟩ := hz
  unfold encI at hl ⊢
  by_cases hneg : z < 0
  · have hzz : zig z = 2 * (-z - 1).toNat + 1 := by unfold zig; rw [if_pos hneg]
    have hk := wnum_any wb (zig z) (by omega) W hl h
    have e0 := compl64 z hz1 hz2
    generalize zig z = n at *
    have e1 : IntKind.u64.wrap (IntKind.u64.wrap (2 * IntKind.u64.wrap (-z - 1)) + 1) = (n : Int) := by
      rw [IntKind.wrap_u64, IntKind.wrap_u64, IntKind.wrap_u64]
      omega
    clear h hzz
    go_enter Tryz.func86, Tryz.ntmps86
    go_wp2_with (go_at_call 45; refine stopJ ?_)
    unfold StopJ
    have ha : ∀ X : Int, X = (n : Int) → Calls Tryz.prog 45 #[.pointer (some ⟨wb, 0, none⟩), .int .u64 X] W (Wp wb acc (encN n) W) := fun X h => by rw [h]; exact hk
    refine (ha _ ?_).mono ?_
    · rfl
    clear ha hk e0 e1
    rintro e w1 ⟨rfl, h1, h2⟩
    have hfin : Wp wb acc (encN n) W (.returned (.tuple #[])) w1 := ⟨rfl, h1, h2⟩
    go_wp2
    exact bodyPost_end (v := .tuple #[]) (by simp [results, Tryz.results86, go_sem]) rfl hfin
  · have hzz : zig z = 2 * z.toNat := by unfold zig; rw [if_neg hneg]
    have hk := wnum_any wb (zig z) (by omega) W hl h
    generalize zig z = n at *
    rw [show ((n : Nat) : Int) = 2 * z by omega] at hk
    clear h hzz
    go_enter Tryz.func86, Tryz.ntmps86
    go_wp2_with (go_at_call 45; refine hk.mono ?_; clear hk; rintro e w1 ⟨rfl, h1, h2⟩)
    have hfin : Wp wb acc (encN n) W (.returned (.tuple #[])) w1 := ⟨rfl, h1, h2⟩
    exact bodyPost_end (v := .tuple #[]) (by simp [results, Tryz.results86, go_sem]) rfl hfin

end Go.Proofs.YtblfdjdhikfjhaaGreat.BZ


namespace Go.Proofs.YtblfdjdhikfjhaaGreat.BZ
open Go.RowKit

theorem strCells_of (s : List UInt8) : Go.Lib.strCells ⟨s.toArray⟩ = Go.Lib.byteCells s := rfl
set_option maxRecDepth 8000 in
set_option maxHeartbeats 4000000 in
theorem wtext_any (wb : Nat) (s : List UInt8) (hs : s.length ≤ 1000000) (W : World) {acc : List UInt8} (hl : acc.length + (encN s.length ++ s).length ≤ 100000000000000) (h : WAt W wb acc) : Calls Tryz.prog 46 #[.pointer (some ⟨wb, 0, none⟩), .string ⟨s.toArray⟩] W (Wp wb acc (encN s.length ++ s) W) := by
  obtain ⟨i0, hi, hz0, hz1, hz2⟩ := info_bits info_u8
  rw [List.length_append] at hl
  have hk := wnum_any wb s.length (by omega) W (by omega) h
  have hsz : (ByteArray.mk s.toArray).size = s.length := rfl
  have hwr : IntKind.u64.wrap (s.length : Int) = (s.length : Int) := by rw [IntKind.wrap_u64]; omega
  obtain ⟨S, hS⟩ : ∃ S, Hid (ByteArray.mk s.toArray = S) := ⟨_, rfl⟩
  rw [hS.out] at hsz ⊢
  clear h
  go_enter Tryz.func46, Tryz.ntmps46
  go_wp2_with (go_at_call 45; fail)
  refine hk.mono ?_
  rintro e w1 ⟨rfl, hA, hD⟩
  obtain ⟨p, cap, h1, ho⟩ := hA
  obtain ⟨acc1, hacc⟩ : ∃ a, Hid (acc ++ encN s.length = a) := ⟨_, rfl⟩
  have hal : acc1.length = acc.length + (encN s.length).length := by rw [← hacc.out, List.length_append]
  rw [hacc.out] at h1 ho
  have c0 : w1.cell? ⟨wb, 0, none⟩ = some (.slice p acc1.length cap) := cell_of_row _ _ 0 _ _ _ h1
  have hwl : wb < w1.heap.size := (Array.getElem?_eq_some_iff.1 h1).1
  have hHl : Hid (acc1.length = acc.length + (encN s.length).length) := hal
  clear hk hal
  go_wp2_with (at_builtin; refine stopJ ?_)
  unfold StopJ
  have hal := hHl.out
  refine Go.Lib.wpList_append_own_string _ rfl _ _ 27 9 rfl (wb + 1) 5 i0 Tryz.underlying27 Tryz.underlying9 hi hz0 hz1 hz2 _ _ _ rfl ho _ rfl (by rw [hsz]; unfold maxLen; omega) (by rw [hsz]; omega) (by omega) ?_
  intro v4 w4 hown4 hg4 _
  rw [← hS.out, strCells_of, ← Go.Lib.byteCells_append, show (ByteArray.mk s.toArray).size = s.length from rfl, ← List.length_append] at hown4
  obtain ⟨p4, cap4, rfl⟩ := own_slice8 hown4
  obtain ⟨hA4, hD4, h4⟩ := WAt.push h1 ho hg4 hown4
  have c4 : w4.cell? ⟨wb, 0, none⟩ = some (.slice p acc1.length cap) := cell_of_row _ _ 0 _ _ _ h4
  have f4 := frozen_of_row h4 0
  have hfin : Wp wb acc (encN s.length ++ s) W (.returned (.tuple #[])) (w4.setCell ⟨wb, 0, none⟩ (.slice p4 (acc1 ++ s).length cap4)) := ⟨rfl, by rw [← List.append_assoc, hacc.out]; exact hA4, hD.trans hD4⟩
  clear hal hA4 hD4 hown4 hg4 h4 ho h1 hD
  generalize (acc1 ++ s).length = n4 at *
  go_wp2
  exact bodyPost_end (v := .tuple #[]) (by simp [results, Tryz.results46, go_sem]) rfl hfin

end Go.Proofs.YtblfdjdhikfjhaaGreat.BZ
