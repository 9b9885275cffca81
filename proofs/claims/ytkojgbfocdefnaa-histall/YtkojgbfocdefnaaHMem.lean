import Derived.Test.YtkojgbfocdefnaaTRun
import Derived.Test.YtkojgbfocdefnaaTOne
import Derived.BigQuiet
import Derived.Laws.AppendOwnNone
namespace Go.Proofs.Ytkojgbfocdefnaa
open Go.RowKit

abbrev Es := List (Nat × (Int × Int))

/-- A map by its entries. -/
def MapE (W : World) (b : Nat) (L : Es) : Prop := ∃ t, MapT W b t ∧ t.ents 7 0 = L
theorem MapE.later {W W' : World} {b : Nat} {L : Es} (h : MapE W b L) (hb : Below W.heap.size W W') : MapE W' b L := by
  obtain ⟨t, h1, h2⟩ := h
  exact ⟨t, h1.later hb, h2⟩

/-- A history's block. -/
def HB (W : World) (hb : Nat) (a : Option Addr) (n cap : Nat) (p : Int) : Prop := W.heap[hb]? = some (.cells #[.slice a n cap, .int .i64 p] 64 (0, 0))

theorem NodeAt.kept {W W' : World} {b hb : Nat} {kv : Nat → Value} {sv : Value} {a : Option Addr} {n cap : Nat} {p : Int} (h : NodeAt W b kv sv) (hH : HB W hb a n cap p) (hg : W.grownBy W' (some hb)) : NodeAt W' b kv sv := by
  refine (hg.block b h.lt (fun e => ?_)).trans h
  obtain rfl := Option.some.inj e
  have := h.symm.trans hH
  injection this with this
  injection this with h1
  have := congrArg Array.size h1
  rw [row17_size] at this
  simp at this
theorem ShelfAt.kept {W W' : World} {b hb : Nat} {th : Nat → Bool} {vk vn : Nat → Int} {a : Option Addr} {n cap : Nat} {p : Int} (h : ShelfAt W b th vk vn) (hH : HB W hb a n cap p) (hg : W.grownBy W' (some hb)) : ShelfAt W' b th vk vn := by
  refine (hg.block b h.lt (fun e => ?_)).trans h
  obtain rfl := Option.some.inj e
  have := h.symm.trans hH
  injection this with this
  injection this with h1
  have := congrArg Array.size h1
  rw [row48_size] at this
  simp at this
theorem Lies.kept {W W' : World} {hb : Nat} {a : Option Addr} {n cap : Nat} {p : Int} (hH : HB W hb a n cap p) (hg : W.grownBy W' (some hb)) : ∀ {t : Tr}, Lies W t → Lies W' t := by
  intro t
  induction t with
  | nil => intro _; trivial
  | node b kids ih => intro h; exact ⟨h.1.kept hH hg, fun i hi => ih i (h.2 i hi)⟩
  | leaf b s th vk vn => intro h; exact ⟨h.1.kept hH hg, h.2.kept hH hg⟩
theorem grown_cell {W W' : World} {r : Option Nat} (hg : W.grownBy W' r) {b o : Nat} (hl : b < W.heap.size) (hne : r ≠ some b) : W'.cell? ⟨b, o, none⟩ = W.cell? ⟨b, o, none⟩ := by
  have := hg.block b hl hne.symm
  simp only [World.cell?, this]
theorem MapT.kept {W W' : World} {mb hb : Nat} {t : Tr} {a : Option Addr} {n cap : Nat} {p : Int} (h : MapT W mb t) (hH : HB W hb a n cap p) (hg : W.grownBy W' (some hb)) : MapT W' mb t := by
  have hne : some hb ≠ some mb := fun e => by
    obtain rfl := Option.some.inj e
    have h0 := h.2.1
    rw [cell_of_row _ _ 0 _ _ _ hH] at h0
    obtain ⟨u, hu⟩ := ptr_pointer t
    rw [hu] at h0
    simp at h0
  exact ⟨Nat.lt_of_lt_of_le h.1 hg.size, (grown_cell hg h.1 hne).trans h.2.1, (grown_cell hg h.1 hne).trans h.2.2.1, h.2.2.2.1.kept hH hg, h.2.2.2.2⟩
theorem MapE.kept {W W' : World} {b hb : Nat} {L : Es} {a : Option Addr} {n cap : Nat} {p : Int} (h : MapE W b L) (hH : HB W hb a n cap p) (hg : W.grownBy W' (some hb)) : MapE W' b L := by
  obtain ⟨t, h1, h2⟩ := h
  exact ⟨t, h1.kept hH hg, h2⟩

/-- A row of maps. -/
def Maps (W : World) (g off : Nat) (vs : Nat → Nat) (Ls : List Es) : Prop := g < W.heap.size ∧ ∀ i (h : i < Ls.length), W.cell? ⟨g, off + i, none⟩ = some (.pointer (some ⟨vs i, 0, none⟩)) ∧ MapE W (vs i) Ls[i] ∧ Ls[i].length ≤ 200
theorem Maps.later {W W' : World} {g off : Nat} {vs : Nat → Nat} {Ls : List Es} (h : Maps W g off vs Ls) (hb : Below W.heap.size W W') : Maps W' g off vs Ls :=
  ⟨Nat.lt_of_lt_of_le h.1 hb.size, fun i hi => ⟨(hb.cell (p := ⟨g, off + i, none⟩) h.1).trans (h.2 i hi).1, (h.2 i hi).2.1.later hb, (h.2 i hi).2.2⟩⟩
theorem Maps.kept {W W' : World} {g off hb : Nat} {vs : Nat → Nat} {Ls : List Es} {a : Option Addr} {n cap : Nat} {p : Int} (h : Maps W g off vs Ls) (hne : g ≠ hb) (hH : HB W hb a n cap p) (hg : W.grownBy W' (some hb)) : Maps W' g off vs Ls :=
  ⟨Nat.lt_of_lt_of_le h.1 hg.size, fun i hi => ⟨(grown_cell hg h.1 (fun e => hne (Option.some.inj e).symm)).trans (h.2 i hi).1, (h.2 i hi).2.1.kept hH hg, (h.2 i hi).2.2⟩⟩

/-- A history: its versions' entries from the oldest on, the present one's place. -/
def HistAt (W : World) (hb : Nat) (Ls : List Es) (p : Nat) : Prop := p < Ls.length ∧ Ls.length ≤ 33 ∧ ∃ (g cap : Nat) (vs : Nat → Nat), HB W hb (some ⟨g, 0, none⟩) Ls.length cap (p : Int) ∧ Ls.length ≤ cap ∧ g ≠ hb ∧ Maps W g 0 vs Ls
theorem HB.lt {W : World} {hb : Nat} {a : Option Addr} {n cap : Nat} {p : Int} (h : HB W hb a n cap p) : hb < W.heap.size := (Array.getElem?_eq_some_iff.1 h).1
theorem HB.later {W W' : World} {hb : Nat} {a : Option Addr} {n cap : Nat} {p : Int} (h : HB W hb a n cap p) (h' : Below W.heap.size W W') : HB W' hb a n cap p := (h'.block hb h.lt).trans h
theorem HistAt.later {W W' : World} {hb : Nat} {Ls : List Es} {p : Nat} (h : HistAt W hb Ls p) (h' : Below W.heap.size W W') : HistAt W' hb Ls p := by
  obtain ⟨h1, h2, g, cap, vs, h3, h4, h5, h6⟩ := h
  exact ⟨h1, h2, g, cap, vs, h3.later h', h4, h5, h6.later h'⟩
theorem HistAt.lt {W : World} {hb : Nat} {Ls : List Es} {p : Nat} (h : HistAt W hb Ls p) : hb < W.heap.size := by
  obtain ⟨h1, h2, g, cap, vs, h3, h4, h5, h6⟩ := h
  exact h3.lt
/-- Another history changes. -/
theorem HistAt.kept {W W' : World} {hb hb' : Nat} {Ls Ls' : List Es} {p p' : Nat} (h : HistAt W hb Ls p) (h' : HistAt W hb' Ls' p') (hne : hb ≠ hb') (hgr : W.grownBy W' (some hb')) : HistAt W' hb Ls p := by
  obtain ⟨h1, h2, g, cap, vs, h3, h4, h5, h6⟩ := h
  obtain ⟨-, -, g', cap', vs', k3, -, -, k6⟩ := h'
  refine ⟨h1, h2, g, cap, vs, (hgr.block hb h3.lt (fun e => hne (Option.some.inj e))).trans h3, h4, h5, h6.kept (fun e => ?_) k3 hgr⟩
  subst e
  have hc := (h6.2 0 (by omega)).1
  rw [cell_of_row _ _ 0 _ _ _ k3] at hc
  simp at hc
theorem grown_below {w W W' : World} {hb : Nat} (h : Below w.heap.size w W) (hg : W.grownBy W' (some hb)) (hl : w.heap.size ≤ hb) : Below w.heap.size w W' := h.grown hg h.size (fun k hk => by cases hk; exact hl)

end Go.Proofs.Ytkojgbfocdefnaa
