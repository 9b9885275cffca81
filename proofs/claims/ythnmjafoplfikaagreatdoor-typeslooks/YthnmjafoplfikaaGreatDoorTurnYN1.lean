import Derived.Test.YthnmjafoplfikaaGreatDoorTurnYL6
namespace Go.Proofs.YthnmjafoplfikaaGreatDoor
open Go.RowKit

/-- What the walk over an expression changes: its own block, the path's row, new ones. -/
structure Fr (lb : Nat) (W : World) (pv : Value) (W' : World) (pv' : Value) : Prop where
  os : W'.os = W.os
  tape : W'.tape = W.tape
  output : W'.output = W.output
  size : W.heap.size ≤ W'.heap.size
  blk : ∀ b, b < W.heap.size → b ≠ lb → some b ≠ pv.ownBlock → W'.heap[b]? = W.heap[b]?
  new : pv'.ownBlock = pv.ownBlock ∨ ∃ b, pv'.ownBlock = some b ∧ W.heap.size ≤ b
theorem Fr.refl (lb : Nat) (W : World) (pv : Value) : Fr lb W pv W pv := ⟨rfl, rfl, rfl, Nat.le_refl _, fun _ _ _ _ => rfl, .inl rfl⟩
theorem Fr.trans {lb : Nat} {W X Y : World} {p q r : Value} (h : Fr lb W p X q) (k : Fr lb X q Y r) : Fr lb W p Y r := by
  refine ⟨k.os.trans h.os, k.tape.trans h.tape, k.output.trans h.output, Nat.le_trans h.size k.size, fun b hb h1 h2 => ?_, ?_⟩
  · rw [k.blk b (Nat.lt_of_lt_of_le hb h.size) h1 ?_, h.blk b hb h1 h2]
    rcases h.new with e | ⟨c, e, hc⟩
    · rw [e]; exact h2
    · rw [e]; intro e2; injection e2 with e2; omega
  · rcases k.new with e | ⟨c, e, hc⟩
    · rw [e]; exact h.new
    · exact .inr ⟨c, e, Nat.le_trans h.size hc⟩
theorem Fr.bel {lb : Nat} {W X : World} (h : Below W.heap.size W X) (p : Value) : Fr lb W p X p := ⟨h.os, h.tape, h.output, h.size, fun b hb _ _ => h.block b hb, .inl rfl⟩
theorem Fr.set {lb : Nat} (W : World) (p q : Value) (i : Nat) (v : Value) (hq : q.ownBlock = p.ownBlock) : Fr lb W p (W.setCell ⟨lb, i, none⟩ v) q :=
  let h := gr_set W lb i v
  ⟨h.os, h.tape, h.output, h.size, fun b hb h1 _ => h.block b hb (by intro e; injection e with e; exact h1 e), .inl hq⟩
theorem Fr.grow {lb : Nat} {W X : World} {p q : Value} (h : W.grownBy X p.ownBlock) (hq : q.ownBlock = p.ownBlock ∨ q.ownBlock = some W.heap.size) : Fr lb W p X q :=
  ⟨h.os, h.tape, h.output, h.size, fun b hb _ h2 => h.block b hb h2, hq.imp id (fun e => ⟨_, e, Nat.le_refl _⟩)⟩
/-- All below stays, if the path's row isn't below. -/
theorem Fr.below {lb : Nat} {W X : World} {p q : Value} (h : Fr lb W p X q) {n : Nat} (hn : n ≤ lb) (hs : n ≤ W.heap.size) (hp : ∀ g, p.ownBlock = some g → n ≤ g) : Below n W X := ⟨h.os, h.tape, h.output, h.size, fun b hb => h.blk b (Nat.lt_of_lt_of_le hb hs) (by omega) (fun e => by have := hp b e.symm; omega)⟩

/-- Behind the walk's block and the table. -/
def pB (lb s : Nat) : Nat := max (lb + 1) (s + 30)
theorem pB_lb (lb s : Nat) : lb + 1 ≤ pB lb s := Nat.le_max_left _ _
theorem pB_s (lb s : Nat) : s + 30 ≤ pB lb s := Nat.le_max_right _ _
theorem pB_le {lb s n : Nat} (h1 : lb < n) (h2 : s + 30 ≤ n) : pB lb s ≤ n := Nat.max_le.2 ⟨h1, h2⟩
def ptC (path : List Nat) : List Value := path.map (fun (i : Nat) => Value.int .i64 (i : Int))
/-- The walk's own block: what it looks at, the table, how many nodes, the path. -/
structure LkS (p : Pk) (sv : List Value) (lb s : Nat) (W : World) (n : Nat) (path : List Nat) (pv : Value) : Prop where
  sc : ∀ j, j < 8 → W.cell? ⟨lb, j, none⟩ = sv[j]?
  c8 : W.cell? ⟨lb, 8, none⟩ = some (.slice (some ⟨s + 29, 0, none⟩) 42 42)
  c9 : W.cell? ⟨lb, 9, none⟩ = some (.int .i64 (n : Int))
  c10 : W.cell? ⟨lb, 10, none⟩ = some pv
  fz : ∀ j, W.frozen? ⟨lb, j, none⟩ = false
  own : W.ownsRow (pB lb s) 3 1 pv path.length (ptC path)
  ops : OpsAt W s
  lo : s + 30 ≤ lb ∨ lb < s
  pk : PkE W (fun b => b < lb) p (sv.take 7)
theorem LkS.lt {p : Pk} {sc : List Value} {lb s : Nat} {W : World} {n : Nat} {path : List Nat} {pv : Value} (h : LkS p sc lb s W n path pv) : lb < W.heap.size := World.block_lt_of_cell? _ _ h.c9
theorem LkS.pg2 {p : Pk} {sc : List Value} {lb s : Nat} {W : World} {n : Nat} {path : List Nat} {pv : Value} (h : LkS p sc lb s W n path pv) : ∀ g, pv.ownBlock = some g → pB lb s ≤ g ∧ g < W.heap.size := fun g hg => h.own.lt g hg
theorem LkS.pg {p : Pk} {sc : List Value} {lb s : Nat} {W : World} {n : Nat} {path : List Nat} {pv : Value} (h : LkS p sc lb s W n path pv) : ∀ g, pv.ownBlock = some g → lb + 1 ≤ g ∧ g < W.heap.size := fun g hg => ⟨Nat.le_trans (pB_lb lb s) (h.pg2 g hg).1, (h.pg2 g hg).2⟩
theorem LkS.base {p : Pk} {sc : List Value} {lb s : Nat} {W : World} {n : Nat} {path : List Nat} {pv : Value} (h : LkS p sc lb s W n path pv) : pB lb s ≤ W.heap.size := pB_le h.lt h.ops.1
theorem pke_fr {W W' : World} {S : Nat → Prop} {p : Pk} {cs : List Value} (h : PkE W S p cs) (hs : W.heap.size ≤ W'.heap.size) (hb : ∀ b, S b → b < W.heap.size → W'.heap[b]? = W.heap[b]?) : PkE W' S p cs := by
  obtain ⟨a3, c3, a4, c4, a5, c5, a6, c6, a7, c7, h0, h1, r3, r4, r5, r6, r7⟩ := h
  exact ⟨a3, c3, a4, c4, a5, c5, a6, c6, a7, c7, h0, h1, r3.fr hs hb, r4.fr hs hb, r5.fr hs hb, r6.fr hs hb, r7.fr hs hb⟩
theorem gr_of_bel {W W' : World} (hB : Below W.heap.size W W') : W.grownBy W' none := ⟨hB.os, hB.tape, hB.output, hB.size, fun k hk _ => hB.block k hk⟩
theorem own_bel {W W' : World} {base n k : Nat} {t : TypeId} {v : Value} {xs : List Value} (h : W.ownsRow base t k v n xs) (hB : Below W.heap.size W W') : W'.ownsRow base t k v n xs := h.kept (gr_of_bel hB) (by cases v.ownBlock with
  | none => exact .inl rfl
  | some g => exact .inr (by simp))
theorem LkS.bel {p : Pk} {sc : List Value} {lb s : Nat} {W W' : World} {n : Nat} {path : List Nat} {pv : Value} (h : LkS p sc lb s W n path pv) (hB : Below W.heap.size W W') : LkS p sc lb s W' n path pv :=
  ⟨fun j hj => (bel_cell hB h.lt j).trans (h.sc j hj), (bel_cell hB h.lt 8).trans h.c8, (bel_cell hB h.lt 9).trans h.c9, (bel_cell hB h.lt 10).trans h.c10, fun j => (World.frozen?_of_block (a := ⟨lb, j, none⟩) (hB.block _ h.lt)).trans (h.fz j), own_bel h.own hB, h.ops.bel hB h.ops.1, h.lo, pke_fr h.pk hB.size (fun b _ hb => hB.block b hb)⟩
theorem own_nelb {W : World} {lb s n : Nat} {t : TypeId} {k : Nat} {v : Value} {xs : List Value} (h : W.ownsRow (pB lb s) t k v n xs) : v.ownBlock = none ∨ v.ownBlock ≠ some lb := by
  cases hv : v.ownBlock with
  | none => exact .inl rfl
  | some g =>
    right
    intro e
    have := (h.lt g hv).1
    have := pB_lb lb s
    injection e with e
    omega
/-- One of its own cells is set. -/
theorem LkS.set9 {p : Pk} {sc : List Value} {lb s : Nat} {W : World} {n : Nat} {path : List Nat} {pv : Value} (h : LkS p sc lb s W n path pv) (m : Nat) : LkS p sc lb s (W.setCell ⟨lb, 9, none⟩ (.int .i64 (m : Int))) m path pv := by
  have hg := gr_set W lb 9 (.int .i64 (m : Int))
  have o : ∀ j, j ≠ 9 → (W.setCell ⟨lb, 9, none⟩ (.int .i64 (m : Int))).cell? ⟨lb, j, none⟩ = W.cell? ⟨lb, j, none⟩ := fun j hj => World.cell?_setCell_other _ _ _ _ (fun e => hj (by cases e; rfl))
  have hlo := h.lo
  refine ⟨fun j hj => (o j (by omega)).trans (h.sc j hj), (o 8 (by decide)).trans h.c8, World.cell?_setCell_same _ _ _ h.c9, (o 10 (by decide)).trans h.c10, fun j => by rw [World.frozen?_setCell]; exact h.fz j, h.own.kept hg (own_nelb h.own), h.ops.kept (fun b hb hlt => hg.block b (by have := h.ops.1; omega) (by intro e; injection e with e; omega)) hg.size, h.lo, pke_fr h.pk hg.size (fun b hb hlt => hg.block b hlt (by intro e; injection e with e; omega))⟩
/-- The path is another row. -/
theorem LkS.set10 {p : Pk} {sc : List Value} {lb s : Nat} {W X : World} {n : Nat} {path path2 : List Nat} {pv pv2 : Value} (h : LkS p sc lb s W n path pv) (hg : W.grownBy X pv.ownBlock) (ho : X.ownsRow (pB lb s) 3 1 pv2 path2.length (ptC path2)) : LkS p sc lb s (X.setCell ⟨lb, 10, none⟩ pv2) n path2 pv2 ∧ (∃ u, X.cell? ⟨lb, 10, none⟩ = some u) ∧ X.frozen? ⟨lb, 10, none⟩ = false := by
  have hne : some lb ≠ pv.ownBlock := fun e => by
    have := (h.pg lb e.symm).1
    omega
  have k := fun j => gr_cell hg h.lt hne j
  have hg2 := gr_set X lb 10 pv2
  have o : ∀ j, j ≠ 10 → (X.setCell ⟨lb, 10, none⟩ pv2).cell? ⟨lb, j, none⟩ = W.cell? ⟨lb, j, none⟩ := fun j hj => (World.cell?_setCell_other _ _ _ _ (fun e => hj (by cases e; rfl))).trans (k j)
  have hlo := h.lo
  have hb : ∀ b, b < lb → b < W.heap.size → (X.setCell ⟨lb, 10, none⟩ pv2).heap[b]? = W.heap[b]? := fun b hb hlt => (hg2.block b (Nat.lt_of_lt_of_le hlt hg.size) (by intro e; injection e with e; omega)).trans (hg.block b hlt (fun e => by have := (h.pg b e.symm).1; omega))
  refine ⟨⟨fun j hj => (o j (by omega)).trans (h.sc j hj), (o 8 (by decide)).trans h.c8, (o 9 (by decide)).trans h.c9, World.cell?_setCell_same _ _ _ ((k 10).trans h.c10), fun j => by rw [World.frozen?_setCell]; exact (gr_frozen hg h.lt hne j).trans (h.fz j), ho.kept hg2 (own_nelb ho), h.ops.kept (fun b h1 hlt => (hg2.block b (by have := h.ops.1; have := hg.size; omega) (by intro e; injection e with e; omega)).trans (hg.block b (by have := h.ops.1; omega) (fun e => by have := (h.pg2 b e.symm).1; have := pB_s lb s; omega))) (Nat.le_trans hg.size hg2.size), h.lo, pke_fr h.pk (Nat.le_trans hg.size hg2.size) (fun b hb' hlt => hb b hb' hlt)⟩, ⟨_, (k 10).trans h.c10⟩, (gr_frozen hg h.lt hne 10).trans (h.fz 10)⟩
/-- A row that is cut. -/
theorem own_cut {W : World} {base : Nat} {t : TypeId} {a : Option Addr} {n cap m : Nat} {xs : List Value} (h : W.ownsRow base t 1 (.slice a n cap) n xs) (hm : m ≤ n) (ha : a ≠ none) : W.ownsRow base t 1 (.slice a m cap) m (xs.take m) := by
  obtain ⟨hl, ⟨he, h0⟩ | ⟨g, cap2, cur, he, hg, hc, h1, h2, h3, h4⟩⟩ := h
  · injection he with he
    exact absurd he ha
  · injection he with he1 he2 he3
    subst he1 he3
    refine ⟨by rw [List.length_take, hl]; omega, .inr ⟨g, cap, cur, rfl, hg, hc, by omega, h2, h3, ?_⟩⟩
    rw [← h4, List.take_take, Nat.mul_one, Nat.mul_one, Nat.min_eq_left hm]
theorem own_int {W : World} {base n : Nat} {v : Value} {xs : List Value} (h : W.ownsRow base 3 1 v n xs) : ∃ a cap, v = .slice a n cap ∧ (0 < n → a ≠ none) ∧ n ≤ cap := by
  obtain ⟨_, ⟨e, h0⟩ | ⟨g, cap, cur, e, _, _, h1, _⟩⟩ := h
  · exact ⟨none, 0, by rw [e, h0], fun h => by omega, by omega⟩
  · exact ⟨_, cap, e, fun _ => by simp, h1⟩
def resV : Except Ft Kd → Value
  | .ok k => .tuple #[.agg #[.int .i64 k.1, .int .i64 k.2], .int .i64 0]
  | .error e => .tuple #[.agg #[.int .i64 0, .int .i64 0], .int .i64 (e.2 : Int)]
def pathAf (path : List Nat) : Except Ft Kd → List Nat
  | .ok _ => path
  | .error e => path ++ e.1
/-- What node answers, and worth. -/
def NdP (p : Pk) (sc : List Value) (lb s : Nat) (path : List Nat) (pv : Value) (m : Nat) (r : Except Ft Kd) (W : World) (e : Ending) (W' : World) : Prop := e = .returned (resV r) ∧ ∃ pv', LkS p sc lb s W' m (pathAf path r) pv' ∧ Fr lb W pv W' pv'
/-- What args answers. -/
def ArP (p : Pk) (sv : List Value) (lb s : Nat) (path : List Nat) (pv : Value) (R : Nat × Except Ft (List Kd)) (W : World) (e : Ending) (W' : World) : Prop := ∃ pv', Fr lb W pv W' pv' ∧ (match R.2 with
  | .error er => e = .returned (.tuple #[.slice none 0 0, .int .i64 (er.2 : Int)]) ∧ LkS p sv lb s W' R.1 (path ++ er.1) pv'
  | .ok ks => ∃ ak ck, e = .returned (.tuple #[.slice ak ks.length ck, .int .i64 0]) ∧ LkS p sv lb s W' R.1 path pv' ∧ RowR eKd W' AnyB ks ak)
/-- A block that the walk leaves as it is. -/
theorem Fr.box {lb : Nat} {W X : World} {p q : Value} (h : Fr lb W p X q) {b : Nat} {vs : List Value} (hb : Bx W b vs) (h1 : b ≠ lb) (h2 : some b ≠ p.ownBlock) : Bx X b vs := by
  have e := h.blk b hb.1 h1 h2
  exact ⟨Nat.lt_of_lt_of_le hb.1 h.size, fun j hj => (World.cell?_of_block (a := ⟨b, j, none⟩) e).trans (hb.2.1 j hj), fun j => (World.frozen?_of_block (a := ⟨b, j, none⟩) e).trans (hb.2.2 j)⟩
theorem Bx.bel {W X : World} {b n : Nat} {vs : List Value} (h : Bx W b vs) (hB : Below n W X) (hn : b < n) : Bx X b vs := ⟨Nat.lt_of_lt_of_le h.1 hB.size, fun j hj => (bel_cell hB hn j).trans (h.2.1 j hj), fun j => (World.frozen?_of_block (a := ⟨b, j, none⟩) (hB.block _ hn)).trans (h.2.2 j)⟩
theorem infoInt : (Tryz.prog.info? 3).map (fun i => (i.zero, i.size, i.bytes)) = some (some (.int .i64 0), 1, 8) := by kernel_rfl
theorem infoKind : (Tryz.prog.info? 163).map (fun i => (i.zero, i.size, i.bytes)) = some (some (.agg #[.int .i64 0, .int .i64 0]), 2, 16) := by kernel_rfl
end Go.Proofs.YthnmjafoplfikaaGreatDoor
