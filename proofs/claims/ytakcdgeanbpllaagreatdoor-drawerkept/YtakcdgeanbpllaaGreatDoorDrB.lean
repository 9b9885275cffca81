import Derived.Test.YtakcdgeanbpllaaGreatDoorDrA
import Derived.Deep.RegionHeldLaw
import Derived.Deep.CutRange
/- journalIn: its state. -/
namespace Go.Proofs.YtakcdgeanbpllaaGreatDoor.DJ
open Go.RowKit

/-- A journal's cells. -/
def jRow (s : Nat) (sv rv : Value) (sz : Nat) : Obj := .cells #[.int .u32 (s : Int), sv, rv, .int .i64 (sz : Int)] 123 (0, 0)
/-- What journalIn answers. -/
def JnP (bs : List Nat) (w : World) (e : Ending) (w' : World) : Prop :=
  Below w.heap.size w w' ∧ match whole bs 0 with
    | none => e = .returned (.tuple #[.agg #[.int .u32 0, .slice none 0 0, .slice none 0 0, .int .i64 0], .bool false])
    | some (s, _, bd) => ∃ sv rv, e = .returned (.tuple #[.agg #[.int .u32 (s : Int), sv, rv, .int .i64 ((18 + bd.length + (recs s (bs.drop (18 + bd.length)) 1).2 : Nat) : Int)], .bool true]) ∧ w'.ownsRow w.heap.size 5 1 sv bd.length (bysV bd) ∧ RcO w' w.heap.size rv (recs s (bs.drop (18 + bd.length)) 1).1

/-- How far it has come, without memory. -/
structure Jp (bs : List Nat) (s : Nat) (bd : List Nat) (R : List Rec) (sz : Nat) : Prop where
  le : sz ≤ bs.length
  ge : 18 + bd.length ≤ sz
  cnt : R.length ≤ sz
  rd : ∀ l m, Rd s (bs.drop sz) (R.length + 1) l m → Rd s (bs.drop (18 + bd.length)) 1 (R ++ l) (sz - (18 + bd.length) + m)
theorem Jp.start {bs : List Nat} {s : Nat} {bd : List Nat} (h : 18 + bd.length ≤ bs.length) : Jp bs s bd [] (18 + bd.length) := ⟨h, Nat.le_refl _, Nat.zero_le _, fun l m hr => by rw [Nat.sub_self, Nat.zero_add]; exact hr⟩
theorem whole_len {b : List Nat} {num sum kind : Nat} {body : List Nat} (h : whole b num = some (sum, kind, body)) : 18 + body.length ≤ b.length ∧ body.length ≤ 1048576 := by
  obtain ⟨rest, rfl, hl, -⟩ := whole_some h
  rw [List.length_append, piece_len]
  exact ⟨by omega, hl⟩
theorem Jp.more {bs : List Nat} {s : Nat} {bd : List Nat} {R : List Rec} {sz kd : Nat} {b' : List Nat} (h : Jp bs s bd R sz) (hw : whole (bs.drop sz) (R.length + 1) = some (s, kd, b')) : Jp bs s bd (R ++ [(kd, b')]) (sz + (18 + b'.length)) := by
  have hl := (whole_len hw).1
  rw [List.length_drop] at hl
  have h1 := h.le
  have h2 := h.ge
  have h3 := h.cnt
  refine ⟨by omega, by omega, by rw [List.length_append, List.length_singleton]; omega, fun l m hr => ?_⟩
  rw [← List.drop_drop, List.length_append, List.length_singleton] at hr
  have := h.rd _ _ (.more hw hr)
  rw [List.append_assoc, show sz + (18 + b'.length) - (18 + bd.length) + m = sz - (18 + bd.length) + (18 + b'.length + m) by omega]
  exact this
theorem Jp.stop {bs : List Nat} {s : Nat} {bd : List Nat} {R : List Rec} {sz : Nat} (h : Jp bs s bd R sz) (hw : ∀ kd b', whole (bs.drop sz) (R.length + 1) ≠ some (s, kd, b')) : (recs s (bs.drop (18 + bd.length)) 1).1 = R ∧ 18 + bd.length + (recs s (bs.drop (18 + bd.length)) 1).2 = sz := by
  have := recs_eq (h.rd _ _ (.stop hw))
  rw [this]
  have := h.ge
  exact ⟨List.append_nil _, by simp only; omega⟩

/-- The journal that is being read. -/
structure JS (w : World) (s : Nat) (bd : List Nat) (R : List Rec) (sz rb pb jb : Nat) (sv rv : Value) (wr : World) : Prop where
  bel : Below w.heap.size w wr
  rlo : w.heap.size ≤ rb
  plo : w.heap.size ≤ pb
  jlo : w.heap.size ≤ jb
  rj : rb ≠ jb
  rrow : wr.heap[rb]? = some (.cells #[.int .u32 0, .slice none 0 0, .slice none 0 0, .int .i64 0] 123 (0, 0))
  prow : ∃ x0 x1 x2, wr.heap[pb]? = some (.cells #[x0, x1, x2] 82 (0, 0))
  jrow : wr.heap[jb]? = some (jRow s sv rv sz)
  sum : wr.ownsRow w.heap.size 5 1 sv bd.length (bysV bd)
  recs : RcO wr w.heap.size rv R
theorem JS.later {w : World} {s : Nat} {bd : List Nat} {R : List Rec} {sz rb pb jb : Nat} {sv rv : Value} {wr X : World} (h : JS w s bd R sz rb pb jb sv rv wr) (hX : Below wr.heap.size wr X) : JS w s bd R sz rb pb jb sv rv X where
  bel := h.bel.trans (hX.mono h.bel.size)
  rlo := h.rlo
  plo := h.plo
  jlo := h.jlo
  rj := h.rj
  rrow := (hX.block _ (Array.getElem?_eq_some_iff.1 h.rrow).1).trans h.rrow
  prow := by
    obtain ⟨x0, x1, x2, hp⟩ := h.prow
    exact ⟨x0, x1, x2, (hX.block _ (Array.getElem?_eq_some_iff.1 hp).1).trans hp⟩
  jrow := (hX.block _ (Array.getElem?_eq_some_iff.1 h.jrow).1).trans h.jrow
  sum := (GrS.of_below (S := fun _ => False) hX).own h.sum (fun _ _ h => h)
  recs := h.recs.later hX
theorem JS.pj {w : World} {s : Nat} {bd : List Nat} {R : List Rec} {sz rb pb jb : Nat} {sv rv : Value} {wr : World} (h : JS w s bd R sz rb pb jb sv rv wr) : pb ≠ jb ∧ pb ≠ rb := by
  obtain ⟨x0, x1, x2, hp⟩ := h.prow
  constructor
  · rintro rfl
    have := h.jrow
    rw [hp, jRow] at this
    simp at this
  · rintro rfl
    have := h.rrow
    rw [hp] at this
    simp at this
/-- The piece turns. -/
theorem JS.piece {w : World} {s : Nat} {bd : List Nat} {R : List Rec} {sz rb pb jb : Nat} {sv rv : Value} {wr X : World} (h : JS w s bd R sz rb pb jb sv rv wr) (hg : GrS (fun k => k = pb) wr X) {y0 y1 y2 : Value} (hy : X.heap[pb]? = some (.cells #[y0, y1, y2] 82 (0, 0))) : JS w s bd R sz rb pb jb sv rv X where
  bel := h.bel.trans (hg.below h.bel.size (fun k e => e ▸ h.plo))
  rlo := h.rlo
  plo := h.plo
  jlo := h.jlo
  rj := h.rj
  rrow := (hg.block _ (Array.getElem?_eq_some_iff.1 h.rrow).1 (fun e => h.pj.2 e.symm)).trans h.rrow
  prow := ⟨y0, y1, y2, hy⟩
  jrow := (hg.block _ (Array.getElem?_eq_some_iff.1 h.jrow).1 (fun e => h.pj.1 e.symm)).trans h.jrow
  sum := hg.own h.sum (fun g e e' => by
    obtain ⟨-, cs, r⟩ := own_rowT h.sum e
    obtain ⟨x0, x1, x2, hp⟩ := h.prow
    rw [e', hp] at r
    simp at r)
  recs := h.recs.grS hg (fun g cs t _ hc ht e => by
    obtain ⟨x0, x1, x2, hp⟩ := h.prow
    rw [e, hp] at hc
    rcases ht with rfl | rfl <;> simp at hc)
/-- The journal's block turns. -/
theorem JS.jour {w : World} {s : Nat} {bd : List Nat} {R R' : List Rec} {sz sz' rb pb jb : Nat} {sv rv rv' : Value} {wr X : World} (h : JS w s bd R sz rb pb jb sv rv wr) (hg : GrS (fun k => k = jb) wr X) (hj : X.heap[jb]? = some (jRow s sv rv' sz')) (hr : RcO X w.heap.size rv' R') : JS w s bd R' sz' rb pb jb sv rv' X where
  bel := h.bel.trans (hg.below h.bel.size (fun k e => e ▸ h.jlo))
  rlo := h.rlo
  plo := h.plo
  jlo := h.jlo
  rj := h.rj
  rrow := (hg.block _ (Array.getElem?_eq_some_iff.1 h.rrow).1 h.rj).trans h.rrow
  prow := by
    obtain ⟨x0, x1, x2, hp⟩ := h.prow
    exact ⟨x0, x1, x2, (hg.block _ (Array.getElem?_eq_some_iff.1 hp).1 h.pj.1).trans hp⟩
  jrow := hj
  sum := hg.own h.sum (fun g e e' => by
    obtain ⟨-, cs, r⟩ := own_rowT h.sum e
    have := h.jrow
    rw [e', this, jRow] at r
    simp at r)
  recs := hr
theorem JS.keep {w : World} {s : Nat} {bd : List Nat} {R : List Rec} {sz rb pb jb : Nat} {sv rv : Value} {wr X : World} (h : JS w s bd R sz rb pb jb sv rv wr) (hg : GrS (fun k => k = jb) wr X) : RcO X w.heap.size rv R := h.recs.grS hg (fun g cs t _ hc ht e => by
    have := h.jrow
    rw [e, this, jRow] at hc
    rcases ht with rfl | rfl <;> simp at hc)
theorem JS.jcells {w : World} {s : Nat} {bd : List Nat} {R : List Rec} {sz rb pb jb : Nat} {sv rv : Value} {wr : World} (h : JS w s bd R sz rb pb jb sv rv wr) : wr.cell? ⟨jb, 0, none⟩ = some (.int .u32 (s : Int)) ∧ wr.cell? ⟨jb, 1, none⟩ = some sv ∧ wr.cell? ⟨jb, 2, none⟩ = some rv ∧ wr.cell? ⟨jb, 3, none⟩ = some (.int .i64 (sz : Int)) :=
  ⟨cell_of_row _ _ 0 _ _ _ h.jrow, cell_of_row _ _ 1 _ _ _ h.jrow, cell_of_row _ _ 2 _ _ _ h.jrow, cell_of_row _ _ 3 _ _ _ h.jrow⟩
theorem JS.pcells {w : World} {s : Nat} {bd : List Nat} {R : List Rec} {sz rb pb jb : Nat} {sv rv : Value} {wr : World} (h : JS w s bd R sz rb pb jb sv rv wr) : (∃ v, wr.cell? ⟨pb, 0, none⟩ = some v) ∧ (∃ v, wr.cell? ⟨pb, 1, none⟩ = some v) ∧ ∃ v, wr.cell? ⟨pb, 2, none⟩ = some v := by
  obtain ⟨x0, x1, x2, hp⟩ := h.prow
  exact ⟨⟨_, cell_of_row _ _ 0 _ _ _ hp⟩, ⟨_, cell_of_row _ _ 1 _ _ _ hp⟩, ⟨_, cell_of_row _ _ 2 _ _ _ hp⟩⟩
end Go.Proofs.YtakcdgeanbpllaaGreatDoor.DJ
