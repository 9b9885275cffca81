import Derived.Test.YtjgngmmepheioaaPxM
import Derived.WalkKit
import Derived.WalkSpells
import Derived.OwnWalk
import Derived.Laws.OwnMore
import Derived.Lib.SmallJoins
import Derived.Maps.AppendAt
import Derived.Maps.Range
import Derived.Deep.QuietTactic
import Derived.BigQuiet
namespace Go.Proofs.Ytjgngmmepheioaa
open Go.RowKit

theorem gr_cell {W W' : World} {r : Option Nat} (h : W.grownBy W' r) {b : Nat} (hb : b < W.heap.size) (hr : some b ≠ r) (i : Nat) : W'.cell? ⟨b, i, none⟩ = W.cell? ⟨b, i, none⟩ := World.cell?_of_block (h.block b hb hr)
theorem gr_frozen {W W' : World} {r : Option Nat} (h : W.grownBy W' r) {b : Nat} (hb : b < W.heap.size) (hr : some b ≠ r) (i : Nat) : W'.frozen? ⟨b, i, none⟩ = W.frozen? ⟨b, i, none⟩ := World.frozen?_of_block (h.block b hb hr)
theorem gr_refl (W : World) (r : Option Nat) : W.grownBy W r := ⟨rfl, rfl, rfl, Nat.le_refl _, fun _ _ _ => rfl⟩
theorem gr_set (W : World) (r i : Nat) (v : Value) : W.grownBy (W.setCell ⟨r, i, none⟩ v) (some r) :=
  let h := (Below.refl (0 : Nat) W).setCell (p := ⟨r, i, none⟩) (Nat.zero_le _) v
  ⟨h.os, h.tape, h.output, h.size, fun k _ hne => Below.heap_setCell _ _ _ _ (fun e => hne (by rw [e]))⟩

/-- What the reader works on: its block, the bytes. -/
structure Rc where
  r : Nat
  a : Option Addr
  cap : Nat
  l : List UInt8
/-- Bytes in memory, in another block than the reader's. -/
def BytR (c : Rc) (W : World) : Prop := c.l = [] ∨ ∃ b off, c.a = some ⟨b, off, none⟩ ∧ b < W.heap.size ∧ b ≠ c.r ∧ ∀ i (h : i < c.l.length), W.cell? ⟨b, off + i, none⟩ = some (.int .u8 (c.l[i].toNat : Int))
/-- The reader's state: how far it is, its fault, its error. -/
structure RS (c : Rc) (W : World) (at_ ft er : Nat) : Prop where
  c0 : W.cell? ⟨c.r, 0, none⟩ = some (.slice c.a c.l.length c.cap)
  c1 : W.cell? ⟨c.r, 1, none⟩ = some (.int .i64 (at_ : Int))
  c2 : W.cell? ⟨c.r, 2, none⟩ = some (.int .i64 (ft : Int))
  c3 : W.cell? ⟨c.r, 3, none⟩ = some (.int .i64 (er : Int))
  fz : ∀ j, W.frozen? ⟨c.r, j, none⟩ = false
  by_ : BytR c W
  le : at_ ≤ c.l.length
  fl : ft ≤ c.l.length
  e9 : er < 100
  en : er ≠ 0 → at_ = c.l.length
  ln : c.l.length ≤ 262144
  cp : c.a = none → c.cap = 0
  lc : c.l.length ≤ c.cap
theorem RS.lt {c : Rc} {W : World} {at_ ft er : Nat} (h : RS c W at_ ft er) : c.r < W.heap.size := World.block_lt_of_cell? _ _ h.c0
/-- Where something else than the reader is made or changed. -/
theorem RS.other {c : Rc} {W W' : World} {at_ ft er : Nat} {r : Option Nat} (h : RS c W at_ ft er) (hg : W.grownBy W' r) (hr : some c.r ≠ r) (hb : c.l ≠ [] → ∀ b off, c.a = some ⟨b, off, none⟩ → some b ≠ r) : RS c W' at_ ft er := by
  have o := fun i => gr_cell hg h.lt hr i
  refine ⟨(o 0).trans h.c0, (o 1).trans h.c1, (o 2).trans h.c2, (o 3).trans h.c3, fun j => (gr_frozen hg h.lt hr j).trans (h.fz j), ?_, h.le, h.fl, h.e9, h.en, h.ln, h.cp, h.lc⟩
  rcases h.by_ with h0 | ⟨b, off, ha, hlt, hne, hc⟩
  · exact .inl h0
  · by_cases h0 : c.l = []
    · exact .inl h0
    · exact .inr ⟨b, off, ha, Nat.lt_of_lt_of_le hlt hg.size, hne, fun i hi => (gr_cell hg hlt (hb h0 b off ha) _).trans (hc i hi)⟩
theorem RS.below {c : Rc} {W : World} {at_ ft er : Nat} (h : RS c W at_ ft er) : c.l ≠ [] → ∀ b off, c.a = some ⟨b, off, none⟩ → b < W.heap.size := fun h0 b off ha => by
  rcases h.by_ with h1 | ⟨b2, off2, ha2, hlt, -, -⟩
  · exact absurd h1 h0
  · rw [ha2] at ha
    cases ha
    exact hlt
theorem RS.alloc {c : Rc} {W : World} {at_ ft er : Nat} (h : RS c W at_ ft er) (o : Obj) : RS c (W.alloc o) at_ ft er := h.other (World.grownBy_alloc W o none) (by simp) (by simp)
theorem gr_drew (W : World) (n : Nat) (r : Option Nat) : W.grownBy (World.drewN W n) r := ⟨rfl, rfl, rfl, Nat.le_refl _, fun _ _ _ => rfl⟩
theorem RS.drew {c : Rc} {W : World} {at_ ft er : Nat} (h : RS c W at_ ft er) (n : Nat) : RS c (World.drewN W n) at_ ft er := h.other (gr_drew W n none) (by simp) (by simp)
/-- The reader's own numbers are set. -/
theorem RS.set1 {c : Rc} {W : World} {at_ ft er at2 : Nat} (h : RS c W at_ ft er) (h2 : at2 ≤ c.l.length) (he : er ≠ 0 → at2 = c.l.length) : RS c (W.setCell ⟨c.r, 1, none⟩ (.int .i64 (at2 : Int))) at2 ft er := by
  have o : ∀ i, i ≠ 1 → (W.setCell ⟨c.r, 1, none⟩ (.int .i64 (at2 : Int))).cell? ⟨c.r, i, none⟩ = W.cell? ⟨c.r, i, none⟩ := fun i hi => World.cell?_setCell_other _ _ _ _ (fun e => hi (by cases e; rfl))
  refine ⟨(o 0 (by decide)).trans h.c0, World.cell?_setCell_same _ _ _ h.c1, (o 2 (by decide)).trans h.c2, (o 3 (by decide)).trans h.c3, fun j => by rw [World.frozen?_setCell]; exact h.fz j, ?_, h2, h.fl, h.e9, he, h.ln, h.cp, h.lc⟩
  have hg := gr_set W c.r 1 (.int .i64 (at2 : Int))
  rcases h.by_ with h0 | ⟨b, off, ha, hlt, hne, hc⟩
  · exact .inl h0
  · exact .inr ⟨b, off, ha, Nat.lt_of_lt_of_le hlt hg.size, hne, fun i hi => (gr_cell hg hlt (by simp; exact hne) _).trans (hc i hi)⟩
/-- A fault is kept, and the rest passed over. -/
theorem RS.failed {c : Rc} {W : World} {at_ ft : Nat} (h : RS c W at_ ft 0) {f2 e2 : Nat} (hf : f2 ≤ c.l.length) (he : e2 < 100) : RS c (((W.setCell ⟨c.r, 2, none⟩ (.int .i64 (f2 : Int))).setCell ⟨c.r, 3, none⟩ (.int .i64 (e2 : Int))).setCell ⟨c.r, 1, none⟩ (.int .i64 (c.l.length : Int))) c.l.length f2 e2 := by
  have o : ∀ (X : World) (i j : Nat) (v : Value), i ≠ j → (X.setCell ⟨c.r, j, none⟩ v).cell? ⟨c.r, i, none⟩ = X.cell? ⟨c.r, i, none⟩ := fun X i j v hij => World.cell?_setCell_other _ _ _ _ (fun e => hij (by cases e; rfl))
  have hg := ((gr_set W c.r 2 (.int .i64 (f2 : Int))).trans (gr_set _ c.r 3 (.int .i64 (e2 : Int)))).trans (gr_set _ c.r 1 (.int .i64 (c.l.length : Int)))
  refine ⟨?_, ?_, ?_, ?_, fun j => ?_, ?_, Nat.le_refl _, hf, he, fun _ => rfl, h.ln, h.cp, h.lc⟩
  · rw [o _ 0 1 _ (by decide), o _ 0 3 _ (by decide), o _ 0 2 _ (by decide)]
    exact h.c0
  · exact World.cell?_setCell_same _ _ _ (u := .int .i64 (at_ : Int)) (by rw [o _ 1 3 _ (by decide), o _ 1 2 _ (by decide)]; exact h.c1)
  · rw [o _ 2 1 _ (by decide), o _ 2 3 _ (by decide)]
    exact World.cell?_setCell_same _ _ _ h.c2
  · rw [o _ 3 1 _ (by decide)]
    exact World.cell?_setCell_same _ _ _ (u := .int .i64 ((0 : Nat) : Int)) (by rw [o _ 3 2 _ (by decide)]; exact h.c3)
  · rw [World.frozen?_setCell, World.frozen?_setCell, World.frozen?_setCell]; exact h.fz j
  · rcases h.by_ with h0 | ⟨b, off, ha, hlt, hne, hc⟩
    · exact .inl h0
    · exact .inr ⟨b, off, ha, Nat.lt_of_lt_of_le hlt hg.size, hne, fun i hi => (gr_cell hg hlt (by simp; exact hne) _).trans (hc i hi)⟩

/-- What a piece answers: the value, how far the reader is then. -/
def Xc {β : Type} (M : List UInt8 → Nat → Rd β) (V : World → Nat → β → Value → Prop) (c : Rc) (at_ ft er : Nat) (W : World) (e : Ending) (W' : World) : Prop :=
  ∃ (x : β) (v : Value) (at2 ft2 er2 : Nat), e = .returned v ∧ V W' W.heap.size x v ∧ RS c W' at2 ft2 er2 ∧ W.grownBy W' (some c.r) ∧ Xp (M c.l at_) ft er at2 ft2 er2 x
/-- Behind a fault. -/
def Fl (c : Rc) (p n ft er : Nat) (W W' : World) : Prop := RS c W' c.l.length (if er = 0 then p else ft) (if er = 0 then n else er) ∧ W.grownBy W' (some c.r)

set_option maxRecDepth 4000 in
set_option maxHeartbeats 1000000 in
theorem fail_any (c : Rc) (p n : Nat) (hp : p ≤ c.l.length) (hn : n < 100) (W : World) {at_ ft er : Nat} (h : RS c W at_ ft er) : Calls Try.prog 50 #[.pointer (some ⟨c.r, 0, none⟩), .int .i64 (p : Int), .int .i64 (n : Int)] W fun e W' => e = .returned (.tuple #[]) ∧ Fl c p n ft er W W' := by
  have c0 := h.c0
  have c1 := h.c1
  have c2 := h.c2
  have c3 := h.c3
  have f1 := h.fz 1
  have f2 := h.fz 2
  have f3 := h.fz 3
  by_cases he : er = 0
  · subst he
    have c0' : ((W.setCell ⟨c.r, 2, none⟩ (.int .i64 (p : Int))).setCell ⟨c.r, 3, none⟩ (.int .i64 (n : Int))).cell? ⟨c.r, 0, none⟩ = some (.slice c.a c.l.length c.cap) := by
      rw [World.cell?_setCell_other _ _ _ _ (fun e => by cases e), World.cell?_setCell_other _ _ _ _ (fun e => by cases e)]; exact c0
    have c1' : ((W.setCell ⟨c.r, 2, none⟩ (.int .i64 (p : Int))).setCell ⟨c.r, 3, none⟩ (.int .i64 (n : Int))).cell? ⟨c.r, 1, none⟩ = some (.int .i64 (at_ : Int)) := by
      rw [World.cell?_setCell_other _ _ _ _ (fun e => by cases e), World.cell?_setCell_other _ _ _ _ (fun e => by cases e)]; exact c1
    have hf := h.failed hp hn
    have hg := ((gr_set W c.r 2 (.int .i64 (p : Int))).trans (gr_set _ c.r 3 (.int .i64 (n : Int)))).trans (gr_set _ c.r 1 (.int .i64 (c.l.length : Int)))
    clear h
    go_enter Try.func50, Try.ntmps50
    go_wp2
    exact bodyPost_end (v := .tuple #[]) (by simp [results, Try.results50, go_sem]) rfl ⟨rfl, by rw [if_pos rfl, if_pos rfl]; exact hf, hg⟩
  · have he' : ((er : Int) == 0) = false := by simp; omega
    have hat := h.en he
    have hf := h.set1 (Nat.le_refl _) (fun _ => rfl)
    have hg := gr_set W c.r 1 (.int .i64 (c.l.length : Int))
    clear h
    go_enter Try.func50, Try.ntmps50
    go_wp2
    exact bodyPost_end (v := .tuple #[]) (by simp [results, Try.results50, go_sem]) rfl ⟨rfl, by rw [if_neg he, if_neg he]; exact hf, hg⟩

set_option maxHeartbeats 1000000 in
theorem left_any (c : Rc) (W : World) {at_ ft er : Nat} (h : RS c W at_ ft er) : Calls Try.prog 64 #[.pointer (some ⟨c.r, 0, none⟩)] W fun e W' => e = .returned (.int .i64 ((c.l.length - at_ : Nat) : Int)) ∧ ∃ n, W' = World.drewN W n := by
  have c0 := h.c0
  have c1 := h.c1
  have hl := h.le
  have hn := h.ln
  have e : ((c.l.length - at_ : Nat) : Int) = (c.l.length : Int) - (at_ : Int) := by omega
  rw [e]
  clear h
  go_enter Try.func64, Try.ntmps64
  go_wp2
  go_quiet (fail)
  go_wp2
  go_ret
  exact ⟨rfl, nq, rfl⟩
set_option maxHeartbeats 1000000 in
theorem short_any (c : Rc) (W : World) {at_ ft er : Nat} (h : RS c W at_ ft er) : Calls Try.prog 65 #[.pointer (some ⟨c.r, 0, none⟩)] W fun e W' => e = .returned (.tuple #[]) ∧ Fl c c.l.length 70 ft er W W' := by
  have c0 := h.c0
  have hf := fail_any c c.l.length 70 (Nat.le_refl _) (by omega) W h
  clear h
  go_enter Try.func65, Try.ntmps65
  go_wp2_with (go_at_call 50; refine hf.mono ?_; rintro e w1 ⟨rfl, hb1⟩)
  exact bodyPost_end (v := .tuple #[]) (by simp [results, Try.results65, go_sem]) rfl ⟨rfl, hb1⟩

end Go.Proofs.Ytjgngmmepheioaa
