import Derived.Test.YteefieidfgpijaaCw2
namespace Go.Proofs.Yteefieidfgpijaa.CF
open Go.RowKit

/-- Points: places and the bits of their heights. -/
abbrev Dots := List (Int × Nat)
def Ok (D : Dots) : Prop := ∀ d ∈ D, (-9223372036854775808 ≤ d.1 ∧ d.1 ≤ 9223372036854775807) ∧ d.2 < 4294967296
/-- A list of the program's points. -/
def PtAt (w : World) (a : Option Addr) (D : Dots) : Prop := D = [] ∨ ∃ b off, a = some ⟨b, off, none⟩ ∧ b < w.heap.size ∧ ∀ i (h : i < D.length), w.cell? ⟨b, off + i * 2, none⟩ = some (.int .i64 D[i].1) ∧ w.cell? ⟨b, off + i * 2 + 1, none⟩ = some (.float .f32 D[i].2)
/-- A list of the document's points. -/
def RtAt (w : World) (a : Option Addr) (D : Dots) : Prop := D = [] ∨ ∃ b off, a = some ⟨b, off, none⟩ ∧ b < w.heap.size ∧ ∀ i (h : i < D.length), w.cell? ⟨b, off + i * 2, none⟩ = some (.int .i64 D[i].1) ∧ w.cell? ⟨b, off + i * 2 + 1, none⟩ = some (.int .u32 (D[i].2 : Int))
theorem PtAt.later {w w' : World} {a : Option Addr} {D : Dots} (h : PtAt w a D) (hb : Below w.heap.size w w') : PtAt w' a D := by
  rcases h with h | ⟨b, off, ha, hlt, hc⟩
  · exact .inl h
  · exact .inr ⟨b, off, ha, Nat.lt_of_lt_of_le hlt hb.size, fun i hi => ⟨(hb.cell (p := ⟨b, off + i * 2, none⟩) hlt).trans (hc i hi).1, (hb.cell (p := ⟨b, off + i * 2 + 1, none⟩) hlt).trans (hc i hi).2⟩⟩
theorem RtAt.later {w w' : World} {a : Option Addr} {D : Dots} (h : RtAt w a D) (hb : Below w.heap.size w w') : RtAt w' a D := by
  rcases h with h | ⟨b, off, ha, hlt, hc⟩
  · exact .inl h
  · exact .inr ⟨b, off, ha, Nat.lt_of_lt_of_le hlt hb.size, fun i hi => ⟨(hb.cell (p := ⟨b, off + i * 2, none⟩) hlt).trans (hc i hi).1, (hb.cell (p := ⟨b, off + i * 2 + 1, none⟩) hlt).trans (hc i hi).2⟩⟩
end Go.Proofs.Yteefieidfgpijaa.CF
