import Derived.Test.YthbojlbgjmecoaaGreatPSumM
import Derived.WalkKit
import Derived.OwnWalk
import Derived.Laws.OwnMore
import Derived.Lib.SmallJoins
import Derived.Deep.QuietTactic
namespace Go.Proofs.YthbojlbgjmecoaaGreat
open Go.RowKit

/-- Bytes in memory. -/
def Byts (w : World) (a : Option Addr) (bs : List Nat) : Prop := (∀ n ∈ bs, n < 256) ∧ (bs = [] ∨ ∃ b off, a = some ⟨b, off, none⟩ ∧ b < w.heap.size ∧ ∀ i (h : i < bs.length), w.cell? ⟨b, off + i, none⟩ = some (.int .u8 (bs[i] : Int)))
theorem Byts.later {w w' : World} {a : Option Addr} {bs : List Nat} (h : Byts w a bs) (hb : Below w.heap.size w w') : Byts w' a bs := by
  obtain ⟨h0, h | ⟨b, off, rfl, hlt, hc⟩⟩ := h
  · exact ⟨h0, .inl h⟩
  · exact ⟨h0, .inr ⟨b, off, rfl, Nat.lt_of_lt_of_le hlt hb.size, fun i hi => (hb.cell (p := ⟨b, off + i, none⟩) hlt).trans (hc i hi)⟩⟩
structure Hid (p : Prop) : Prop where
  out : p

end Go.Proofs.YthbojlbgjmecoaaGreat
