import Derived.Test.YteiplejamciddaaYC3
import Derived.Test.YteiplejamciddaaYN5
import Derived.Test.YteiplejamciddaaYN8
namespace Go.Proofs.Yteiplejamciddaa
open Go.RowKit

def stC (l : Sn) : List Value := l.map (fun s => Value.string ⟨s.toArray⟩)
theorem stC_snoc (l : Sn) (s : List UInt8) : stC l ++ [.string ⟨s.toArray⟩] = stC (l ++ [s]) := by unfold stC; rw [List.map_append, List.map_singleton]
theorem elems_st (W : World) (S : Nat → Prop) : ∀ l : Sn, Elems eS W S l (stC l)
  | [] => Elems.nil _ _ _
  | s :: l => Elems.cons' (D := eS) (cx := [.string ⟨s.toArray⟩]) rfl (elems_st W S l)
theorem st_row {W : World} {base : Nat} {v : Value} {l : Sn} (h : W.ownsRow base 9 1 v l.length (stC l)) : ∃ a c, v = .slice a l.length c ∧ RowR eS W AnyB l a := by
  have hlt := h.lt
  have h' := h
  obtain ⟨hl, ⟨rfl, h0⟩ | ⟨g, cap, cur, rfl, hg, hc, h1⟩⟩ := h
  · have : l = [] := List.eq_nil_of_length_eq_zero h0
    subst this
    exact ⟨none, 0, rfl, .inl rfl⟩
  · refine ⟨_, cap, rfl, .inr ⟨g, 0, stC l, rfl, trivial, (hlt g rfl).2, fun j hj => ?_, elems_st _ _ _⟩⟩
    rw [Nat.zero_add]
    exact h'.cellAt j (by rw [← hl]; exact hj)
/-- Options and lines, whose lists have at least the room that they fill. -/
def eOc : Elt (List UInt8 × List (List UInt8)) where
  k := 2
  E := fun W S o cs => ∃ a cap, cs = [.string ⟨o.1.toArray⟩, .slice a o.2.length cap] ∧ RowR eS W S o.2 a ∧ o.2.length ≤ cap
  len := fun ⟨_, _, h, _⟩ => by rw [h]; rfl
  fr := fun ⟨a, cap, h, hR, hc⟩ hs hb => ⟨a, cap, h, hR.fr hs hb, hc⟩
  mo := fun ⟨a, cap, h, hR, hc⟩ hb => ⟨a, cap, h, hR.mo hb, hc⟩
def eLc : Elt Ln where
  k := 7
  E := fun W S x cs => ∃ a c, cs = [.string ⟨x.name.toArray⟩, .bool x.input, .bool x.must, .int .i64 x.type, .int .i64 x.opts, .int .i64 x.group, .slice a x.cls.length c] ∧ (Rg x.type ∧ Rg x.opts ∧ Rg x.group) ∧ RowR eC W S x.cls a ∧ x.cls.length ≤ c
  len := fun ⟨_, _, h, _⟩ => by rw [h]; rfl
  fr := fun ⟨a, c, h, hr, hF, hc⟩ hs hb => ⟨a, c, h, hr, hF.fr hs hb, hc⟩
  mo := fun ⟨a, c, h, hr, hF, hc⟩ hb => ⟨a, c, h, hr, hF.mo hb, hc⟩
def PkC (W : World) (S : Nat → Prop) (p : Pk) (pc : List Value) : Prop := ∃ a3 c3 a6 c6, pc[2]? = some (.slice a3 p.opts.length c3) ∧ pc[5]? = some (.slice a6 p.lns.length c6) ∧ RowR eOc W S p.opts a3 ∧ RowR eLc W S p.lns a6
theorem pkc_fr {W W' : World} {S : Nat → Prop} {p : Pk} {cs : List Value} (h : PkC W S p cs) (hs : W.heap.size ≤ W'.heap.size) (hb : ∀ b, S b → b < W.heap.size → W'.heap[b]? = W.heap[b]?) : PkC W' S p cs := by
  obtain ⟨a3, c3, a6, c6, h3, h6, r3, r6⟩ := h
  exact ⟨a3, c3, a6, c6, h3, h6, r3.fr hs hb, r6.fr hs hb⟩
theorem pkc_mo {W : World} {S S' : Nat → Prop} {p : Pk} {cs : List Value} (h : PkC W S p cs) (hb : ∀ b, b < W.heap.size → S b → S' b) : PkC W S' p cs := by
  obtain ⟨a3, c3, a6, c6, h3, h6, r3, r6⟩ := h
  exact ⟨a3, c3, a6, c6, h3, h6, r3.mo hb, r6.mo hb⟩
/-- The checker's own block: the pack, the table, the names so far. -/
structure CkS (p : Pk) (pc : List Value) (cb s : Nat) (W : World) (seen : Sn) (sv : Value) : Prop where
  ce : ∀ j, j < 7 → W.cell? ⟨cb, j, none⟩ = pc[j]?
  c7 : W.cell? ⟨cb, 7, none⟩ = some (.slice (some ⟨s + 29, 0, none⟩) 42 42)
  c8 : W.cell? ⟨cb, 8, none⟩ = some sv
  fz : ∀ j, W.frozen? ⟨cb, j, none⟩ = false
  own : W.ownsRow (cb + 1) 9 1 sv seen.length (stC seen)
  ops : OpsAt W s
  lo : s + 30 ≤ cb
  pk : PkE W (fun b => b < cb) p pc
  rc : PkC W (fun b => b < cb) p pc
theorem CkS.lt {p : Pk} {pc : List Value} {cb s : Nat} {W : World} {seen : Sn} {sv : Value} (h : CkS p pc cb s W seen sv) : cb < W.heap.size := World.block_lt_of_cell? _ _ h.c7
theorem CkS.pg {p : Pk} {pc : List Value} {cb s : Nat} {W : World} {seen : Sn} {sv : Value} (h : CkS p pc cb s W seen sv) : ∀ g, sv.ownBlock = some g → cb + 1 ≤ g ∧ g < W.heap.size := fun g hg => h.own.lt g hg
/-- What lies behind, and is not the names' row, may change. -/
theorem CkS.gr {p : Pk} {pc : List Value} {cb s : Nat} {W X : World} {seen : Sn} {sv : Value} {r : Option Nat} (h : CkS p pc cb s W seen sv) (hg : W.grownBy X r) (hr : ∀ b, r = some b → cb + 1 ≤ b) (hne : ∀ b, r = some b → some b ≠ sv.ownBlock) : CkS p pc cb s X seen sv := by
  have nb : ∀ c, c < cb + 1 → some c ≠ r := fun c hc e => by
    have := hr c e.symm
    omega
  have k := fun j => gr_cell hg h.lt (nb cb (by omega)) j
  have hlo := h.lo
  have hlt := h.lt
  exact ⟨fun j hj => (k j).trans (h.ce j hj), (k 7).trans h.c7, (k 8).trans h.c8, fun j => (gr_frozen hg h.lt (nb cb (by omega)) j).trans (h.fz j), h.own.kept hg (by cases hv : sv.ownBlock with
    | none => exact .inl rfl
    | some g => exact .inr (fun e => hne g e.symm hv.symm)), h.ops.kept (fun c _ hl => hg.block c (by omega) (nb c (by omega))) hg.size, h.lo, pke_fr h.pk hg.size (fun c hc hl => hg.block c hl (nb c (by omega))), pkc_fr h.rc hg.size (fun c hc hl => hg.block c hl (nb c (by omega)))⟩
theorem CkS.bel {p : Pk} {pc : List Value} {cb s : Nat} {W X : World} {seen : Sn} {sv : Value} (h : CkS p pc cb s W seen sv) (hB : Below W.heap.size W X) : CkS p pc cb s X seen sv := h.gr (gr_of_bel hB) (fun _ e => by cases e) (fun _ e => by cases e)
/-- A name more. -/
theorem CkS.push {p : Pk} {pc : List Value} {cb s : Nat} {w1 w4 : World} {seen : Sn} {sv v4 : Value} {nm : List UInt8} (h : CkS p pc cb s w1 seen sv) (hg : (w1.alloc (.cells #[.string ⟨nm.toArray⟩] 9)).grownBy w4 sv.ownBlock) (ho : w4.ownsRow (cb + 1) 9 1 v4 (seen.length + 1) (stC seen ++ [.string ⟨nm.toArray⟩])) (hat : v4.ownBlock = sv.ownBlock ∨ v4.ownBlock = some (w1.alloc (.cells #[.string ⟨nm.toArray⟩] 9)).heap.size) : CkS p pc cb s (w4.setCell ⟨cb, 8, none⟩ v4) (seen ++ [nm]) v4 ∧ Fr cb w1 sv (w4.setCell ⟨cb, 8, none⟩ v4) v4 ∧ (∃ u, w4.cell? ⟨cb, 8, none⟩ = some u) ∧ w4.frozen? ⟨cb, 8, none⟩ = false := by
  have hB : Below w1.heap.size w1 (w1.alloc (.cells #[.string ⟨nm.toArray⟩] 9)) := (Below.refl _ _).alloc (Nat.le_refl _) _
  have h1 := h.bel hB
  have hne : some cb ≠ sv.ownBlock := fun e => by
    have := (h.pg cb e.symm).1
    omega
  have k := fun j => gr_cell hg h1.lt hne j
  have hg2 := gr_set w4 cb 8 v4
  have o : ∀ j, j ≠ 8 → (w4.setCell ⟨cb, 8, none⟩ v4).cell? ⟨cb, j, none⟩ = (w1.alloc (.cells #[.string ⟨nm.toArray⟩] 9)).cell? ⟨cb, j, none⟩ := fun j hj => (World.cell?_setCell_other _ _ _ _ (fun e => hj (by cases e; rfl))).trans (k j)
  have hlo := h.lo
  have hlt := h1.lt
  have hb : ∀ b, b < cb → (w4.setCell ⟨cb, 8, none⟩ v4).heap[b]? = (w1.alloc (.cells #[.string ⟨nm.toArray⟩] 9)).heap[b]? := fun b hb => (hg2.block b (by have := hg.size; omega) (by intro e; injection e with e; omega)).trans (hg.block b (by omega) (fun e => by have := (h.pg b e.symm).1; omega))
  refine ⟨⟨fun j hj => (o j (by omega)).trans (h1.ce j hj), (o 7 (by decide)).trans h1.c7, World.cell?_setCell_same _ _ _ ((k 8).trans h1.c8), fun j => by rw [World.frozen?_setCell]; exact (gr_frozen hg h1.lt hne j).trans (h1.fz j), ?_, h1.ops.kept (fun b _ hl => hb b (by omega)) (Nat.le_trans hg.size hg2.size), h.lo, pke_fr h1.pk (Nat.le_trans hg.size hg2.size) (fun b hb' _ => hb b hb'), pkc_fr h1.rc (Nat.le_trans hg.size hg2.size) (fun b hb' _ => hb b hb')⟩, ((Fr.bel hB sv).trans (Fr.grow hg hat)).trans (Fr.set w4 v4 v4 8 v4 rfl), ⟨_, (k 8).trans h1.c8⟩, (gr_frozen hg h1.lt hne 8).trans (h1.fz 8)⟩
  rw [List.length_append, List.length_singleton, ← stC_snoc]
  refine ho.kept hg2 ?_
  cases hv : v4.ownBlock with
  | none => exact .inl rfl
  | some g =>
    right
    intro e
    have := (ho.lt g hv).1
    injection e with e
    omega
/-- What a look at an item answers. -/
def NmP (p : Pk) (pc : List Value) (cb s : Nat) (sv : Value) (r : Sn × Nat) (W : World) (e : Ending) (W' : World) : Prop := e = .returned (.int .i64 (r.2 : Int)) ∧ ∃ sv', CkS p pc cb s W' r.1 sv' ∧ Fr cb W sv W' sv'
theorem infoStr : (Try.prog.info? 9).map (fun i => (i.zero, i.size, i.bytes)) = some (some (.string ⟨#[]⟩), 1, 16) := by kernel_rfl
set_option maxRecDepth 20000 in
set_option maxHeartbeats 1000000 in
theorem name_any (p : Pk) (pc : List Value) (cb s : Nat) (nm : List UInt8) (W : World) (seen : Sn) (sv : Value) (h : CkS p pc cb s W seen sv) (hl : seen.length ≤ 1000000) : Calls Try.prog 41 #[.pointer (some ⟨cb, 0, none⟩), .string ⟨nm.toArray⟩] W (NmP p pc cb s sv (seen ++ [nm], nwN nm seen) W) := by
  obtain ⟨a, c, rfl, hR⟩ := st_row h.own
  have hnn := newName_any nm seen a c W hR (by omega)
  obtain ⟨i0, hi1, hz0, hz1, hz2⟩ := info_parts infoStr
  obtain ⟨r, hr⟩ : ∃ r, nwN nm seen = r := ⟨_, rfl⟩
  rw [hr] at hnn ⊢
  have hl' : seen.length + 1 ≤ maxLen := by unfold maxLen; omega
  have hC : Hid (∀ w1, Below W.heap.size W w1 → CkS p pc cb s w1 seen (.slice a seen.length c) ∧ w1.cell? ⟨cb, 8, none⟩ = some (.slice a seen.length c) ∧ (w1.alloc (.cells #[.string ⟨nm.toArray⟩] 9)).ownsRow (cb + 1) 9 1 (.slice a seen.length c) seen.length (stC seen) ∧ cb + 1 ≤ (w1.alloc (.cells #[.string ⟨nm.toArray⟩] 9)).heap.size) := ⟨fun w1 hb => by
    have h1 := h.bel hb
    exact ⟨h1, h1.c8, h1.own.alloc _, by have := h1.lt; simp; omega⟩⟩
  have q8 := h.c8
  have hlt := h.lt
  clear hR hr
  go_enter Try.func41, Try.ntmps41
  go_wp2_with (first | (go_at_call 42; refine hnn.mono ?_; clear hnn; rintro e w1 ⟨rfl, hb1⟩; obtain ⟨hk1, q1, qo, qb⟩ := hC.out w1 hb1) | (at_builtin; refine wpList_append_own_at _ rfl _ _ 61 rfl (cb + 1) 9 i0 (.string ⟨#[]⟩) 1 16 Try.underlying61 hi1 hz0 hz1 hz2 rfl (by decide) _ _ _ rfl qo ⟨w1.heap.size, 0, none⟩ 1 1 [.string ⟨nm.toArray⟩] rfl rfl (cell_one_new _ _ _) (by simp [Value.oneCell']) hl' (by omega) qb ?_; intro v4 w4 hown4 hgrow4 _ hat4; obtain ⟨hk4, hF4, ⟨u4, hu4⟩, hz4⟩ := hk1.push hgrow4 hown4 hat4; obtain ⟨p4, cap4, rfl, -⟩ := st_row (l := seen ++ [nm]) (by rw [List.length_append, List.length_singleton, ← stC_snoc]; exact hown4)))
  have hls : (seen ++ [nm]).length = seen.length + 1 := by rw [List.length_append, List.length_singleton]
  rw [hls] at hk4 hF4
  go_ret
  exact ⟨rfl, _, hk4, (Fr.bel hb1 _).trans hF4⟩
end Go.Proofs.Yteiplejamciddaa
