import Derived.Test.YteefieidfgpijaaCwB
namespace Go.Proofs.Yteefieidfgpijaa.CF
open Go.RowKit
attribute [local go_sem] run_store_float

theorem atR_lt {D : Dots} (hD : Ok D) {x : Int} {r : Nat} {e : Int} (h : AtR D x r e) : r < 4294967296 := by
  rcases h with ⟨-, rfl, -⟩ | ⟨-, -, rfl, -⟩ | ⟨-, -, -, rfl, -⟩ | ⟨-, -, -, -, rfl, -⟩ | ⟨h1, -, -, -, -, i, hi, -, -, ⟨-, rfl⟩ | ⟨-, h0, rfl⟩⟩
  · decide
  · decide
  · decide
  · decide
  · exact (hD.getD i).2
  · have g1 := gB_parts (inO_true.1 h1 (i - 1) (by omega))
    have g2 := gB_parts (inO_true.1 h1 i hi)
    exact btwN_lt (hD.getD (i - 1)).2 g1.1.2 g2.1.2
/-- A list of whole numbers. -/
def XsAt (w : World) (a : Option Addr) (xs : List Int) : Prop := xs = [] ∨ ∃ b off, a = some ⟨b, off, none⟩ ∧ b < w.heap.size ∧ ∀ i (h : i < xs.length), w.cell? ⟨b, off + i, none⟩ = some (.int .i64 xs[i])
end Go.Proofs.Yteefieidfgpijaa.CF
