import Derived.Test.YtblfdjdhikfjhaaGreatJoin28
import Derived.Test.YtblfdjdhikfjhaaGreatJoin50
namespace Go.Proofs.YtblfdjdhikfjhaaGreat
open Go.RowKit

/-- A block that is no part of a book: by its type and its first cell. -/
def Aln (W : World) (r : Nat) : Prop := ∃ cs t, W.heap[r]? = some (.cells cs t (0, 0)) ∧ t ≠ 134 ∧ t ≠ 141 ∧ t ≠ 114 ∧ t ≠ 71 ∧ t ≠ 75 ∧ ∀ u, cs[0]? ≠ some (.pointer u)
theorem Aln.tag {W : World} {r g : Nat} (h : Aln W r) {cs : Array Value} {t : TypeId} {m : Nat × Nat} (hg : W.heap[g]? = some (.cells cs t m)) (ht : t = 134 ∨ t = 141 ∨ t = 114 ∨ t = 71 ∨ t = 75) : some g ≠ some r := fun e => by
  obtain rfl := Option.some.inj e
  obtain ⟨cs', t', h1, n1, n2, n3, n4, n5, -⟩ := h
  rw [hg] at h1
  injection h1 with h1
  injection h1 with h1 h2
  subst h2
  rcases ht with e | e | e | e | e <;> contradiction
theorem Aln.ptr {W : World} {r g : Nat} {u : Option Addr} (h : Aln W r) (hc : W.cell? ⟨g, 0, none⟩ = some (.pointer u)) : some r ≠ some g := fun e => by
  obtain rfl := Option.some.inj e
  obtain ⟨cs', t', h1, -, -, -, -, -, n6⟩ := h
  rw [cell_of_row _ _ 0 _ _ _ h1] at hc
  exact n6 u hc
theorem Lies.keptA {W W' : World} {r : Nat} (hO : Aln W r) (hg : W.grownBy W' (some r)) : ∀ {t : Tr}, Lies W t → Lies W' t := by
  intro t
  induction t with
  | nil => intro _; trivial
  | node b kids ih => intro h; exact ⟨(hg.block b h.1.lt (hO.tag h.1 (.inl rfl))).trans h.1, fun i hi => ih i (h.2 i hi)⟩
  | leaf b s th vk vn => intro h; exact ⟨(hg.block b h.1.lt (hO.tag h.1 (.inl rfl))).trans h.1, (hg.block s h.2.lt (hO.tag h.2 (.inr (.inl rfl)))).trans h.2⟩
theorem MapE.keptA {W W' : World} {b r : Nat} {L : Es} (h : MapE W b L) (hO : Aln W r) (hg : W.grownBy W' (some r)) : MapE W' b L := by
  obtain ⟨t, h, h2⟩ := h
  have hne : some r ≠ some b := by
    obtain ⟨u, hu⟩ := ptr_pointer t
    have h0 := h.2.1
    rw [hu] at h0
    exact hO.ptr h0
  exact ⟨t, ⟨Nat.lt_of_lt_of_le h.1 hg.size, (grown_cell hg h.1 hne).trans h.2.1, (grown_cell hg h.1 hne).trans h.2.2.1, h.2.2.2.1.keptA hO hg, h.2.2.2.2⟩, h2⟩
theorem HistAt.keptA {W W' : World} {hb r : Nat} {Ls : List Es} {p : Nat} (h : HistAt W hb Ls p) (hO : Aln W r) (hg : W.grownBy W' (some r)) : HistAt W' hb Ls p := by
  obtain ⟨h1, h2, g, cap, vs, h3, h4, h5, h6⟩ := h
  have hne2 : some r ≠ some g := hO.ptr (h6.2 0 (by omega)).1
  refine ⟨h1, h2, g, cap, vs, (hg.block hb h3.lt (hO.tag h3 (.inr (.inr (.inl rfl))))).trans h3, h4, h5, Nat.lt_of_lt_of_le h6.1 hg.size, fun i hi => ?_⟩
  obtain ⟨k1, k2, k3⟩ := h6.2 i hi
  exact ⟨(grown_cell hg h6.1 hne2).trans k1, k2.keptA hO hg, k3⟩
theorem BrAt.keptA {W W' : World} {b : Br} {r : Nat} (h : BrAt W b) (hO : Aln W r) (hg : W.grownBy W' (some r)) : BrAt W' b := by
  have hl := h.lt
  obtain ⟨⟨g, h1, h2⟩, h3, h4⟩ := h
  exact ⟨⟨g, (hg.block _ hl (hO.tag h1 (.inr (.inr (.inr (.inr rfl)))))).trans h1, h2.keptA hO hg⟩, h3.keptA hO hg, h4⟩
theorem BookAt.keptA {W W' : World} {lo bb r : Nat} {Bs : List Br} {cur : ByteArray} (h : BookAt W lo bb Bs cur) (hO : Aln W r) (hg : W.grownBy W' (some r)) : BookAt W' lo bb Bs cur := by
  have hl := h.lt
  obtain ⟨l1, l2, mb, D, l3, h1, h2, h3, h4, h5, h6⟩ := h
  refine ⟨l1, l2, mb, D, l3, (hg.block _ hl (hO.tag h1 (.inr (.inr (.inr (.inl rfl)))))).trans h1, h2.kept hg (fun e => ?_), h3, fun b hb => (h4 b hb).keptA hO hg, h5, h6⟩
  obtain rfl := Option.some.inj e
  obtain ⟨es, clock, hb, -⟩ := h2
  obtain ⟨cs, t, hc, -⟩ := hO
  rw [hb] at hc
  cases hc
theorem Cur.keptA {W W' : World} {lo bb r : Nat} {cur : ByteArray} {Ls : List Es} {p : Nat} (h : Cur W lo bb cur Ls p) (hO : Aln W r) (hg : W.grownBy W' (some r)) : Cur W' lo bb cur Ls p := by
  obtain ⟨Bs, c, h1, h2⟩ := h
  exact ⟨Bs, c, h1.keptA hO hg, h2⟩
theorem row_keep {W W' : World} {r g : Nat} {cs cs' : Array Value} {t t' : TypeId} {m m' : Nat × Nat} (hr : W.heap[r]? = some (.cells cs t m)) (hg : W.grownBy W' (some r)) (hh : W.heap[g]? = some (.cells cs' t' m')) (hne : t' ≠ t) : W'.heap[g]? = W.heap[g]? := by
  refine hg.block g (Array.getElem?_eq_some_iff.1 hh).1 (fun e => ?_)
  obtain rfl := Option.some.inj e
  rw [hh] at hr
  injection hr with hr
  injection hr with h1 h2
  exact hne h2
theorem EntsT.keptT {W W' : World} {r : Nat} {v : Value} {L : Es} {cs : Array Value} {t : TypeId} {m : Nat × Nat} (h : EntsT W v L) (hr : W.heap[r]? = some (.cells cs t m)) (hg : W.grownBy W' (some r)) (hne : 49 ≠ t) : EntsT W' v L := h.keep hg.size (fun _ _ hh => row_keep hr hg hh hne)

/-- The lists that are being put together. -/
def OwnS (W : World) (base : Nat) (v : Value) (S : List Es) : Prop := (S = [] → v = .slice none 0 0) ∧ ∃ xs, W.ownsRow base 22 1 v S.length xs ∧ ∀ i (h : i < S.length), ∃ u, xs[i]? = some u ∧ EntsT W u S[i]
theorem OwnS.later {W W' : World} {base : Nat} {v : Value} {S : List Es} (h : OwnS W base v S) (hb : Below W.heap.size W W') : OwnS W' base v S := by
  obtain ⟨h1, xs, h2, h3⟩ := h
  exact ⟨h1, xs, own_laterB h2 hb, fun i hi => by obtain ⟨u, k1, k2⟩ := h3 i hi; exact ⟨u, k1, k2.later hb⟩⟩
theorem OwnS.row {W : World} {base : Nat} {v : Value} {S : List Es} (h : OwnS W base v S) (hS : S ≠ []) : ∃ g cap cs, v = .slice (some ⟨g, 0, none⟩) S.length cap ∧ base ≤ g ∧ W.heap[g]? = some (.cells cs 22 (0, 0)) ∧ (∀ u, cs[0]? ≠ some (.pointer u)) ∧ ∀ i (h : i < S.length), ∃ u, W.cell? ⟨g, i, none⟩ = some u ∧ EntsT W u S[i] := by
  obtain ⟨h1, xs, ⟨h2, ⟨-, h0⟩ | ⟨g, cap, cs, e, hb, hh, hc1, hc2, hc3, hc4⟩⟩, h3⟩ := h
  · exact absurd (List.length_eq_zero_iff.1 h0) hS
  have hp : 0 < S.length := List.length_pos_iff.2 hS
  have hx : ∀ i, i < S.length → cs[i]? = xs[i]? := fun i hi => by
    rw [← hc4, Nat.mul_one, List.getElem?_take_of_lt hi, Array.getElem?_toList]
  refine ⟨g, cap, cs, e, hb, hh, fun u hu => ?_, fun i hi => ?_⟩
  · obtain ⟨x, k1, k2⟩ := h3 0 hp
    rw [hx 0 hp, k1] at hu
    obtain ⟨a, c, e2⟩ := k2.1.len
    rw [e2] at hu
    simp at hu
  · obtain ⟨x, k1, k2⟩ := h3 i hi
    exact ⟨x, (cell_of_row _ _ i _ _ _ hh).trans ((hx i hi).trans k1), k2⟩
theorem OwnS.steps {W : World} {base : Nat} {v : Value} {S : List Es} (h : OwnS W base v S) : StepsT W v S := by
  refine ⟨fun hS => ⟨none, 0, h.1 hS⟩, fun hS => ?_⟩
  obtain ⟨g, cap, cs, e, -, hh, -, hc⟩ := h.row hS
  exact ⟨g, cap, cs, e, hh, hc⟩
theorem OwnS.keptT {W W' : World} {base r : Nat} {v : Value} {S : List Es} {cs : Array Value} {t : TypeId} {m : Nat × Nat} (h : OwnS W base v S) (hr : W.heap[r]? = some (.cells cs t m)) (hg : W.grownBy W' (some r)) (hn1 : 49 ≠ t) (hn2 : 22 ≠ t) : OwnS W' base v S := by
  obtain ⟨h1, xs, h2, h3⟩ := h
  refine ⟨h1, xs, h2.kept hg ?_, fun i hi => ?_⟩
  · obtain ⟨-, ⟨e, -⟩ | ⟨g, cap, cs', e, -, hh, -⟩⟩ := h2
    · rw [e]; exact .inl rfl
    · rw [e]
      refine .inr (fun e' => ?_)
      have : g = r := by simpa [Value.ownBlock] using e'
      subst this
      rw [hh] at hr
      injection hr with hr
      injection hr with k1 k2
      exact hn2 k2
  · obtain ⟨u, k1, k2⟩ := h3 i hi
    exact ⟨u, k1, k2.keptT hr hg hn1⟩
theorem OwnS.mv {lo : Nat} {W W' : World} {base : Nat} {v : Value} {S : List Es} (h : OwnS W base v S) (hm : Mv lo W W') : OwnS W' base v S := by
  obtain ⟨h1, xs, h2, h3⟩ := h
  refine ⟨h1, xs, ?_, fun i hi => by obtain ⟨u, k1, k2⟩ := h3 i hi; exact ⟨u, k1, k2.mv hm⟩⟩
  obtain ⟨q, ⟨e, e0⟩ | ⟨g, cap, cs, e, hb, hh, rest⟩⟩ := h2
  · exact ⟨q, .inl ⟨e, e0⟩⟩
  · exact ⟨q, .inr ⟨g, cap, cs, e, hb, hm.row hh (by decide) (by decide), rest⟩⟩
theorem below_none {W W' : World} (hg : W.grownBy W' none) : Below W.heap.size W W' := ⟨hg.os, hg.tape, hg.output, hg.size, fun k hk => hg.block k hk (by simp)⟩

def vRow (va vb vs : Value) (p r : Nat) : Array Value := #[.bool true, va, vb, .int .i64 (p : Int), .int .i64 (r : Int), vs]
/-- look under way: the view's block, its lists, the copy's current branch. -/
structure LI (w : World) (RB VB l1 bc : Nat) (nm : ByteArray) (Ls : List Es) (p r : Nat) (va vb : Value) (A B : Es) (rw : Array Value) (vs : Value) (S : List Es) (q : Nat) (W : World) : Prop where
  box : W.heap[VB]? = some (.cells (vRow va vb vs p r) 66 (0, 0))
  own : OwnS W (VB + 1) vs S
  cur : Cur W l1 bc nm Ls q
  ea : EntsT W va A
  eb : EntsT W vb B
  res : W.heap[RB]? = some (.cells rw 66 (0, 0))
  bel : Below w.heap.size w W
variable {w : World} {RB VB l1 bc : Nat} {nm : ByteArray} {Ls : List Es} {p r q : Nat} {va vb vs : Value} {A B : Es} {rw' : Array Value} {S : List Es} {W W' : World}
theorem LI.later (h : LI w RB VB l1 bc nm Ls p r va vb A B rw' vs S q W) (hb : Below W.heap.size W W') : LI w RB VB l1 bc nm Ls p r va vb A B rw' vs S q W' :=
  ⟨(hb.block _ (Array.getElem?_eq_some_iff.1 h.box).1).trans h.box, h.own.later hb, h.cur.later hb, h.ea.later hb, h.eb.later hb, (hb.block _ (Array.getElem?_eq_some_iff.1 h.res).1).trans h.res, below_step h.bel hb⟩
theorem LI.mv {q' : Nat} (h : LI w RB VB l1 bc nm Ls p r va vb A B rw' vs S q W) (hm : Mv l1 W W') (hw : w.heap.size ≤ l1) (hc : Cur W' l1 bc nm Ls q') : LI w RB VB l1 bc nm Ls p r va vb A B rw' vs S q' W' :=
  ⟨hm.row h.box (by decide) (by decide), h.own.mv hm, hc, h.ea.mv hm, h.eb.mv hm, hm.row h.res (by decide) (by decide), by
    obtain ⟨k, h1, h2, h3⟩ := hm
    exact h.bel.grown h3 h.bel.size (fun j hj => by cases hj; exact Nat.le_trans hw h1)⟩
theorem LI.boxA {w2 : World} (h : LI w RB VB l1 bc nm Ls p r va vb A B rw' vs S q W) (hg : W.grownBy w2 vs.ownBlock) : w2.heap[VB]? = some (.cells (vRow va vb vs p r) 66 (0, 0)) := by
  by_cases hS : S = []
  · have e := h.own.1 hS
    rw [e] at hg
    exact (h.later (below_none hg)).box
  · obtain ⟨g, cap, cs, e, hgb, hh, hc0, -⟩ := h.own.row hS
    rw [e] at hg
    exact (row_keep hh hg h.box (by decide)).trans h.box
/-- One more list is put behind the others. -/
theorem LI.more {w2 : World} {v2 u : Value} {L : Es} {xs : List Value} (h : LI w RB VB l1 bc nm Ls p r va vb A B rw' vs S q W) (hw : w.heap.size ≤ VB) (hx : W.ownsRow (VB + 1) 22 1 vs S.length xs) (hxs : ∀ i (h : i < S.length), ∃ u, xs[i]? = some u ∧ EntsT W u S[i]) (hu : EntsT W u L) (hRV : RB ≠ VB)
    (hown : w2.ownsRow (VB + 1) 22 1 v2 (S.length + 1) (xs ++ [u])) (hg : W.grownBy w2 vs.ownBlock) : LI w RB VB l1 bc nm Ls p r va vb A B rw' v2 (S ++ [L]) q (w2.setCell ⟨VB, 5, none⟩ v2) := by
  -- the world behind the append
  have key : w2.heap[VB]? = some (.cells (vRow va vb vs p r) 66 (0, 0)) ∧ Cur w2 l1 bc nm Ls q ∧ EntsT w2 va A ∧ EntsT w2 vb B ∧ w2.heap[RB]? = some (.cells rw' 66 (0, 0)) ∧ Below w.heap.size w w2 ∧ (∀ i (h : i < S.length), ∃ u, xs[i]? = some u ∧ EntsT w2 u S[i]) ∧ EntsT w2 u L := by
    by_cases hS : S = []
    · have e := h.own.1 hS
      rw [e] at hg
      have hb : Below W.heap.size W w2 := below_none hg
      have hl := h.later hb
      exact ⟨hl.box, hl.cur, hl.ea, hl.eb, hl.res, hl.bel, fun i hi => by obtain ⟨u, k1, k2⟩ := hxs i hi; exact ⟨u, k1, k2.later hb⟩, hu.later hb⟩
    · obtain ⟨g, cap, cs, e, hgb, hh, hc0, -⟩ := h.own.row hS
      rw [e] at hg
      have hg' : W.grownBy w2 (some g) := hg
      have hAl : Aln W g := ⟨cs, _, hh, by decide, by decide, by decide, by decide, by decide, hc0⟩
      refine ⟨(row_keep hh hg' h.box (by decide)).trans h.box, h.cur.keptA hAl hg', h.ea.keptT hh hg' (by decide), h.eb.keptT hh hg' (by decide), (row_keep hh hg' h.res (by decide)).trans h.res, h.bel.grown hg' h.bel.size (fun j hj => by cases hj; omega), fun i hi => ?_, hu.keptT hh hg' (by decide)⟩
      obtain ⟨u, k1, k2⟩ := hxs i hi
      exact ⟨u, k1, k2.keptT hh hg' (by decide)⟩
  obtain ⟨k1, k2, k3, k4, k5, k6, k7, k8⟩ := key
  have hgs := grown_set w2 VB 5 v2
  have hAl : Aln w2 VB := ⟨_, _, k1, by decide, by decide, by decide, by decide, by decide, fun u => by simp [vRow]⟩
  have hlen : (S ++ [L]).length = S.length + 1 := by simp
  have hOw : OwnS w2 (VB + 1) v2 (S ++ [L]) := by
    refine ⟨fun e => by simp at e, xs ++ [u], by rw [hlen]; exact hown, fun i hi => ?_⟩
    have hxl : xs.length = S.length := by have := hx.1; omega
    by_cases hlt : i < S.length
    · obtain ⟨x, y1, y2⟩ := k7 i hlt
      exact ⟨x, by rw [List.getElem?_append_left (by omega)]; exact y1, by rw [List.getElem_append_left hlt]; exact y2⟩
    · obtain rfl : i = S.length := by rw [hlen] at hi; omega
      refine ⟨u, by rw [List.getElem?_append_right (by omega), hxl]; simp, ?_⟩
      rw [List.getElem_append_right (by omega)]
      simpa using k8
  refine ⟨?_, hOw.keptT k1 hgs (by decide) (by decide), k2.keptA hAl hgs, k3.keptT k1 hgs (by decide), k4.keptT k1 hgs (by decide), (hgs.block RB (Array.getElem?_eq_some_iff.1 k5).1 (fun e => hRV (Option.some.inj e))).trans k5, k6.grown hgs k6.size (fun j hj => by cases hj; exact hw)⟩
  exact heap_setCell_same w2 VB 5 _ _ v2 k1

end Go.Proofs.YtblfdjdhikfjhaaGreat
