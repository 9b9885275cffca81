import Derived.Test.YthbojlbgjmecoaaGreatDlA
import Derived.Test.YthbojlbgjmecoaaGreatDjC
import Derived.Deep.DeepMust
import Derived.BigQuiet
import Derived.WalkSpells
import Derived.WalkSmall
/- RECORDS IN MEMORY; sameRecords. -/
namespace Go.Proofs.YthbojlbgjmecoaaGreat.DJ
open Go.RowKit

/-- A list of records. -/
def RcAt (w : World) (a : Option Addr) (R : List Rec) : Prop := (∀ r ∈ R, r.1 < 256) ∧ (R = [] ∨ ∃ b off, a = some ⟨b, off, none⟩ ∧ b < w.heap.size ∧ ∀ i (h : i < R.length), w.cell? ⟨b, off + i * 2, none⟩ = some (.int .u8 (R[i].1 : Int)) ∧ ∃ p c, w.cell? ⟨b, off + i * 2 + 1, none⟩ = some (.slice p R[i].2.length c) ∧ Byts w p R[i].2)
theorem RcAt.later {w w' : World} {a : Option Addr} {R : List Rec} (h : RcAt w a R) (hb : Below w.heap.size w w') : RcAt w' a R := by
  obtain ⟨h0, h | ⟨b, off, ha, hlt, hc⟩⟩ := h
  · exact ⟨h0, .inl h⟩
  · refine ⟨h0, .inr ⟨b, off, ha, Nat.lt_of_lt_of_le hlt hb.size, fun i hi => ?_⟩⟩
    obtain ⟨h1, p, c, h2, h3⟩ := hc i hi
    exact ⟨(hb.cell (p := ⟨b, off + i * 2, none⟩) hlt).trans h1, p, c, (hb.cell (p := ⟨b, off + i * 2 + 1, none⟩) hlt).trans h2, h3.later hb⟩

theorem drewN_add (w : World) (m n : Nat) : (w.drewN m).drewN n = w.drewN (m + n) := by
  induction n with
  | zero => rfl
  | succ n ih => exact congrArg World.drew ih
theorem take_same {α : Type} {A B : List α} {k : Nat} (hA : k < A.length) (hB : k < B.length) (h : A.take k = B.take k) (e : A[k] = B[k]) : A.take (k + 1) = B.take (k + 1) := by
  rw [List.take_succ_eq_append_getElem hA, List.take_succ_eq_append_getElem hB, h, e]

end Go.Proofs.YthbojlbgjmecoaaGreat.DJ
