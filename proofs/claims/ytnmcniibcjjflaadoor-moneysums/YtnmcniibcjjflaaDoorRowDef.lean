import Derived.Test.YtnmcniibcjjflaaDoorMishap
namespace Go.Proofs.YtnmcniibcjjflaaDoor
open Go.RowKit

/-- Numbers in a row of memory. -/
def Ints (w : World) (b : Nat) (ks : List Int) : Prop := ks.length ≤ maxLen ∧ b < w.heap.size ∧ ∀ i, i < ks.length → w.cell? ⟨b, i, none⟩ = some (.int .i64 (ks.getD i 0))

theorem Ints.later {w w' : World} {b : Nat} {ks : List Int} (h : Ints w b ks) (hb : Below w.heap.size w w') : Ints w' b ks := by
  obtain ⟨h0, hlt, hc⟩ := h
  refine ⟨h0, Nat.lt_of_lt_of_le hlt hb.size, fun i hi => ?_⟩
  rw [hb.cell (p := ⟨b, i, none⟩) hlt]
  exact hc i hi

/-- Values in a row of memory of their own, from its first cell. -/
def Row (w : World) (b : Nat) (vs : List (Int × Int)) : Prop := vs.length ≤ maxLen ∧ b < w.heap.size ∧ ∀ i, i < vs.length → w.cell? ⟨b, i * 2, none⟩ = some (.int .i64 (vs.getD i (0, 0)).1) ∧ w.cell? ⟨b, i * 2 + 1, none⟩ = some (.int .i64 (vs.getD i (0, 0)).2)

theorem Row.later {w w' : World} {b : Nat} {vs : List (Int × Int)} (h : Row w b vs) (hb : Below w.heap.size w w') : Row w' b vs := by
  obtain ⟨h0, hlt, hc⟩ := h
  refine ⟨h0, Nat.lt_of_lt_of_le hlt hb.size, fun i hi => ?_⟩
  rw [hb.cell (p := ⟨b, i * 2, none⟩) hlt, hb.cell (p := ⟨b, i * 2 + 1, none⟩) hlt]
  exact hc i hi

theorem Row.vals {w : World} {b : Nat} {vs : List (Int × Int)} (h : Row w b vs) : Vals w (some ⟨b, 0, none⟩) vs := by
  obtain ⟨h0, hlt, hc⟩ := h
  refine ⟨h0, .inr ⟨b, 0, rfl, hlt, fun i hi => ?_⟩⟩
  have := hc i hi
  simpa using this

end Go.Proofs.YtnmcniibcjjflaaDoor
