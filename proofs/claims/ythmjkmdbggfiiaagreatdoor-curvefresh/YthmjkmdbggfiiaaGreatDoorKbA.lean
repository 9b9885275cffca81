import Derived.Test.YthmjkmdbggfiiaaGreatDoorProg
import Derived.WalkKit
import Derived.WalkSpells
import Derived.WalkSmall
import Derived.Laws.Rows
import Derived.Handy
/- levykept.Book in memory. -/
namespace Go.Proofs.YthmjkmdbggfiiaaGreatDoor.KB
open Go.RowKit
set_option linter.constructorNameAsVariable false

/-- The book's cells: f k j: the j-th list of the k-th kind (Out, Told, Waits, Note, Fresh, Mark, Due, From). -/
def bkC (turn deep : Int) (f : Nat → Nat → Value) (seen : Nat → Int) (i : Nat) : Value :=
  if i = 0 then .bool false else if i = 1 then .bool false else if i = 2 then .int .i64 turn else if i = 3 then .int .i64 deep
  else if (i - 4) % 9 = 8 then .int .i64 (seen ((i - 4) / 9)) else f ((i - 4) / 9) ((i - 4) % 9)
def bkCs (turn deep : Int) (f : Nat → Nat → Value) (seen : Nat → Int) : Array Value := ((List.range 220).map (bkC turn deep f seen)).toArray
def BkAt (W : World) (bb : Nat) (turn deep : Int) (f : Nat → Nat → Value) (seen : Nat → Int) : Prop := W.heap[bb]? = some (.cells (bkCs turn deep f seen) 53 (0, 0))
def upd (f : Nat → Nat → Value) (k j : Nat) (v : Value) : Nat → Nat → Value := fun k' j' => if k' = k ∧ j' = j then v else f k' j'
def updS (s : Nat → Int) (k : Nat) (v : Int) : Nat → Int := fun k' => if k' = k then v else s k'
/-- A kind of which there is nothing. -/
def Nil (f : Nat → Nat → Value) (k : Nat) : Prop := ∀ j, f k j = .slice none 0 0
theorem bkCs_get (turn deep : Int) (f : Nat → Nat → Value) (seen : Nat → Int) {i : Nat} (h : i < 220) : (bkCs turn deep f seen)[i]? = some (bkC turn deep f seen i) := by simp [bkCs, h]
theorem bkCs_size (turn deep : Int) (f : Nat → Nat → Value) (seen : Nat → Int) : (bkCs turn deep f seen).size = 220 := by simp [bkCs]
section
variable {W X : World} {bb : Nat} {turn deep : Int} {f : Nat → Nat → Value} {seen : Nat → Int}
theorem BkAt.cell (h : BkAt W bb turn deep f seen) {i : Nat} (hi : i < 220) : W.cell? ⟨bb, i, none⟩ = some (bkC turn deep f seen i) := (cell_of_row _ _ i _ _ _ h).trans (bkCs_get _ _ _ _ hi)
theorem BkAt.fz (h : BkAt W bb turn deep f seen) (i : Nat) : W.frozen? ⟨bb, i, none⟩ = false := frozen_of_row _ _ i _ _ h
theorem BkAt.lt (h : BkAt W bb turn deep f seen) : bb < W.heap.size := (Array.getElem?_eq_some_iff.1 h).1
theorem cs_ext {A : Array Value} (hs : A.size = 220) (hg : ∀ i, i < 220 → A[i]? = some (bkC turn deep f seen i)) : A = bkCs turn deep f seen := by
  apply Array.ext_getElem?
  intro i
  by_cases hi : i < 220
  · rw [hg i hi, bkCs_get _ _ _ _ hi]
  · rw [Array.getElem?_eq_none (by omega), Array.getElem?_eq_none (by rw [bkCs_size]; omega)]
theorem BkAt.setAny {turn' deep' : Int} {f' : Nat → Nat → Value} {seen' : Nat → Int} (h : BkAt W bb turn deep f seen) {i : Nat} (hi : i < 220) {v : Value} (hv : bkC turn' deep' f' seen' i = v) (ho : ∀ j, j < 220 → j ≠ i → bkC turn' deep' f' seen' j = bkC turn deep f seen j) : BkAt (W.setCell ⟨bb, i, none⟩ v) bb turn' deep' f' seen' := by
  unfold BkAt
  rw [heap_setCell_same _ _ i _ _ _ h]
  congr 2
  refine cs_ext (by rw [Array.size_setIfInBounds, bkCs_size]) (fun j hj => ?_)
  rw [Array.getElem?_setIfInBounds]
  by_cases e : i = j
  · subst e
    rw [if_pos rfl, if_pos (by rw [bkCs_size]; exact hi), hv]
  · rw [if_neg e, bkCs_get _ _ _ _ hj, ho j hj (fun e' => e e'.symm)]
theorem BkAt.set (h : BkAt W bb turn deep f seen) {k j : Nat} (hk : k < 24) (hj : j < 8) (v : Value) : BkAt (W.setCell ⟨bb, 4 + 9 * k + j, none⟩ v) bb turn deep (upd f k j v) seen := by
  have e1 : (4 + 9 * k + j - 4) % 9 = j := by omega
  have e2 : (4 + 9 * k + j - 4) / 9 = k := by omega
  refine h.setAny (by omega) ?_ (fun i hi hne => ?_)
  · unfold bkC
    rw [if_neg (by omega), if_neg (by omega), if_neg (by omega), if_neg (by omega), if_neg (by omega), e1, e2, upd, if_pos ⟨rfl, rfl⟩]
  · unfold bkC
    split
    · rfl
    split
    · rfl
    split
    · rfl
    split
    · rfl
    split
    · rfl
    rw [upd, if_neg (by omega)]
theorem BkAt.setSeen (h : BkAt W bb turn deep f seen) {k : Nat} (hk : k < 24) (v : Int) : BkAt (W.setCell ⟨bb, 4 + 9 * k + 8, none⟩ (.int .i64 v)) bb turn deep f (updS seen k v) := by
  refine h.setAny (by omega) ?_ (fun i hi hne => ?_)
  · unfold bkC
    rw [if_neg (by omega), if_neg (by omega), if_neg (by omega), if_neg (by omega), if_pos (by omega), updS, if_pos (by omega)]
  unfold bkC
  by_cases h0 : i = 0
  · rw [if_pos h0, if_pos h0]
  rw [if_neg h0, if_neg h0]
  by_cases h1 : i = 1
  · rw [if_pos h1, if_pos h1]
  rw [if_neg h1, if_neg h1]
  by_cases h2 : i = 2
  · rw [if_pos h2, if_pos h2]
  rw [if_neg h2, if_neg h2]
  by_cases h3 : i = 3
  · rw [if_pos h3, if_pos h3]
  rw [if_neg h3, if_neg h3]
  by_cases h8 : (i - 4) % 9 = 8
  · rw [if_pos h8, if_pos h8, updS, if_neg (by omega)]
  rw [if_neg h8, if_neg h8]
theorem BkAt.setTurn (h : BkAt W bb turn deep f seen) (v : Int) : BkAt (W.setCell ⟨bb, 2, none⟩ (.int .i64 v)) bb v deep f seen := by
  refine h.setAny (by omega) rfl (fun i hi hne => ?_)
  unfold bkC
  by_cases h0 : i = 0
  · rw [if_pos h0, if_pos h0]
  rw [if_neg h0, if_neg h0]
  by_cases h1 : i = 1
  · rw [if_pos h1, if_pos h1]
  rw [if_neg h1, if_neg h1]
  rw [if_neg hne, if_neg hne]
theorem BkAt.setDeep (h : BkAt W bb turn deep f seen) (v : Int) : BkAt (W.setCell ⟨bb, 3, none⟩ (.int .i64 v)) bb turn v f seen := by
  refine h.setAny (by omega) rfl (fun i hi hne => ?_)
  unfold bkC
  by_cases h0 : i = 0
  · rw [if_pos h0, if_pos h0]
  rw [if_neg h0, if_neg h0]
  by_cases h1 : i = 1
  · rw [if_pos h1, if_pos h1]
  rw [if_neg h1, if_neg h1]
  by_cases h2 : i = 2
  · rw [if_pos h2, if_pos h2]
  rw [if_neg h2, if_neg h2]
  rw [if_neg hne, if_neg hne]
/-- A cell that is set to what it holds. -/
theorem set_same (w : World) (g i : Nat) (cs : Array Value) (t : TypeId) (v : Value) (hg : w.heap[g]? = some (.cells cs t (0, 0))) (hv : cs[i]? = some v) : w.setCell ⟨g, i, none⟩ v = w := by
  have hh : (w.setCell ⟨g, i, none⟩ v).heap = w.heap := by
    apply Array.ext_getElem?
    intro k
    by_cases e : k = g
    · subst e
      rw [heap_setCell_same w k i cs t v hg, hg]
      congr 2
      apply Array.ext_getElem?
      intro j
      rw [Array.getElem?_setIfInBounds]
      by_cases e : i = j
      · subst e
        rw [if_pos rfl, if_pos (Array.getElem?_eq_some_iff.1 hv).1, hv]
      · rw [if_neg e]
    · exact heap_setCell_other w ⟨g, i, none⟩ k v e
  cases w
  simp only [World.setCell] at hh ⊢
  simp_all
end
end Go.Proofs.YthmjkmdbggfiiaaGreatDoor.KB
