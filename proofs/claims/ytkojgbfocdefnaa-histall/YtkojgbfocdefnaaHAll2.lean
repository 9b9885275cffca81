import Derived.Test.YtkojgbfocdefnaaHAll
namespace Go.Proofs.Ytkojgbfocdefnaa
open Go.RowKit

theorem EntsAt.kept {W W' : World} {v : Value} {L : Es} {hb : Nat} {Ls : List Es} {p : Nat} (h : EntsAt W v L) (hH : HistAt W hb Ls p) (hg : W.grownBy W' (some hb)) : EntsAt W' v L := by
  obtain ⟨a, cap, rfl, h | ⟨g, off, rfl, hl, hc⟩⟩ := h
  · exact ⟨a, cap, rfl, .inl h⟩
  · by_cases h0 : L = []
    · exact ⟨_, cap, rfl, .inl h0⟩
    have hn : 0 < L.length := by cases L with | nil => exact absurd rfl h0 | cons x L => simp
    have hne : some hb ≠ some g := fun e => by
      obtain rfl := Option.some.inj e
      obtain ⟨-, -, g', cap', vs, hB, -⟩ := hH
      have := (hc 0 hn).2.2
      rw [cell_of_row _ _ _ _ _ _ hB] at this
      simp at this
    exact ⟨_, cap, rfl, .inr ⟨g, off, rfl, Nat.lt_of_lt_of_le hl hg.size, fun i hi => ⟨(grown_cell hg hl hne).trans (hc i hi).1, (grown_cell hg hl hne).trans (hc i hi).2.1, (grown_cell hg hl hne).trans (hc i hi).2.2⟩⟩⟩

/-- A list of lists of entries. -/
def AllAt (W : World) (lo : Nat) (v : Value) (Ls : List Es) : Prop := ∃ g off cap, ∃ ss : Nat → Value, v = .slice (some ⟨g, off, none⟩) Ls.length cap ∧ Ls.length ≤ cap ∧ lo ≤ g ∧ g < W.heap.size ∧ ∀ i (h : i < Ls.length), W.cell? ⟨g, off + i, none⟩ = some (ss i) ∧ EntsAt W (ss i) Ls[i] ∧ Ls[i].length ≤ 200
theorem AllAt.later {W W' : World} {lo : Nat} {v : Value} {Ls : List Es} (h : AllAt W lo v Ls) (hb : Below W.heap.size W W') : AllAt W' lo v Ls := by
  obtain ⟨g, off, cap, ss, rfl, h0, h1, h2, h3⟩ := h
  exact ⟨g, off, cap, ss, rfl, h0, h1, Nat.lt_of_lt_of_le h2 hb.size, fun i hi => ⟨(hb.cell (p := ⟨g, off + i, none⟩) h2).trans (h3 i hi).1, (h3 i hi).2.1.later hb, (h3 i hi).2.2⟩⟩
theorem AllAt.kept {W W' : World} {lo : Nat} {v : Value} {Ls : List Es} {hb : Nat} {Ls' : List Es} {p' : Nat} (h : AllAt W lo v Ls) (hlo : hb < lo) (hH : HistAt W hb Ls' p') (hg : W.grownBy W' (some hb)) : AllAt W' lo v Ls := by
  obtain ⟨g, off, cap, ss, rfl, h0, h1, h2, h3⟩ := h
  have hne : some hb ≠ some g := fun e => by have := Option.some.inj e; omega
  exact ⟨g, off, cap, ss, rfl, h0, h1, Nat.lt_of_lt_of_le h2 hg.size, fun i hi => ⟨(grown_cell hg h2 hne).trans (h3 i hi).1, (h3 i hi).2.1.kept hH hg, (h3 i hi).2.2⟩⟩

theorem infoL : (Try.prog.info? 22).map (fun i => (i.zero, i.size, i.bytes)) = some (some (.slice none 0 0), 1, 24) := by kernel_rfl
def rowS (ss : Nat → Value) (j : Nat) : List Value := (List.range j).map ss
theorem rowS_snoc (ss : Nat → Value) (j : Nat) (v : Value) : rowS ss j ++ [v] = rowS (fun i => if i = j then v else ss i) (j + 1) := by
  unfold rowS
  rw [List.range_succ, List.map_append]
  congr 1
  · refine List.map_congr_left fun i hi => ?_
    have := List.mem_range.1 hi
    simp only [if_neg (show ¬ i = j by omega)]
  · simp

/-- A list of entries, a row of one's own. -/
def EntO (X : World) (v : Value) (L : Es) : Prop := X.ownsRow 0 98 3 v L.length (flat3 L)
theorem EntO.of {X : World} {base : Nat} {v : Value} {L : Es} (h : X.ownsRow base 98 3 v L.length (flat3 L)) : EntO X v L := by
  obtain ⟨h1, h2 | ⟨g, cap, cur, e, -, rest⟩⟩ := h
  · exact ⟨h1, .inl h2⟩
  · exact ⟨h1, .inr ⟨g, cap, cur, e, Nat.zero_le _, rest⟩⟩
theorem EntO.ents {X : World} {v : Value} {L : Es} (h : EntO X v L) : EntsAt X v L := ents_of_own h
theorem EntO.later {X Y : World} {v : Value} {L : Es} (h : EntO X v L) (hb : Below X.heap.size X Y) : EntO Y v L := own_laterB h hb
/-- A list of lists grows: the entries' rows are others. -/
theorem EntO.grow {X Y : World} {base n : Nat} {v lv : Value} {L : Es} {xs : List Value} (h : EntO X v L) (h1 : X.ownsRow base 22 1 lv n xs) (hg : X.grownBy Y lv.ownBlock) : EntO Y v L := by
  refine World.ownsRow.kept h hg ?_
  obtain ⟨-, ⟨rfl, -⟩ | ⟨g, cap, cur, rfl, -, ht, -⟩⟩ := h
  · exact .inl rfl
  · refine .inr fun e => ?_
    obtain ⟨-, ⟨rfl, -⟩ | ⟨g', cap', cur', rfl, -, ht', -⟩⟩ := h1
    · cases e
    · simp only [Value.ownBlock, Option.some.injEq] at e
      subst e
      rw [ht] at ht'
      injection ht' with ht'
      injection ht' with _ h2
      exact absurd h2 (by decide)

/-- What all has gathered. -/
def AJ (w : World) (Ls : List Es) (j : Nat) (lv : Value) (X : World) : Prop := ∃ ss : Nat → Value, X.ownsRow w.heap.size 22 1 lv j (rowS ss j) ∧ (∀ i (h : i < Ls.length), i < j → EntO X (ss i) Ls[i]) ∧ Below w.heap.size w X

theorem all_add {w Y Z : World} {Ls : List Es} {j : Nat} {ss : Nat → Value} {L : Es} {ev lv lv' : Value} (hj : j < Ls.length) (hL : Ls[j] = L)
    (hss : ∀ i (h : i < Ls.length), i < j → EntO Y (ss i) Ls[i]) (hev : EntO Y ev L) (hgr : Y.grownBy Z lv.ownBlock) (hown : Y.ownsRow w.heap.size 22 1 lv j (rowS ss j)) (hown' : Z.ownsRow w.heap.size 22 1 lv' (j + 1) (rowS ss j ++ [ev])) (hB : Below w.heap.size w Z) : AJ w Ls (j + 1) lv' Z := by
  rw [rowS_snoc] at hown'
  refine ⟨_, hown', fun i hi hij => ?_, hB⟩
  by_cases e : i = j
  · subst e
    simp only [if_true]
    rw [hL]
    exact hev.grow hown hgr
  · simp only [if_neg e]
    exact (hss i hi (by omega)).grow hown hgr

theorem own_slot {w : World} {base n : Nat} {vs : Nat → Nat} {ov : Value} {p : Nat} (h : w.ownsRow base 89 2 ov n (flat2 vs p n)) (hn : 0 < n) : ∃ g cap, ov = .slice (some ⟨g, 0, none⟩) n cap ∧ g < w.heap.size ∧ ∀ i, i < n → w.cell? ⟨g, i * 2, none⟩ = some (.int .i64 ((i : Int) - (p : Int))) ∧ w.cell? ⟨g, i * 2 + 1, none⟩ = some (.pointer (some ⟨vs i, 0, none⟩)) := by
  obtain ⟨g, cap, rfl⟩ := own_some h hn
  refine ⟨g, cap, rfl, (h.lt g rfl).2, fun i hi => ?_⟩
  obtain ⟨a, b⟩ := flat2_at vs p n i hi
  exact ⟨(h.cellAt _ (by omega)).trans a, (h.cellAt _ (by omega)).trans b⟩

end Go.Proofs.Ytkojgbfocdefnaa
