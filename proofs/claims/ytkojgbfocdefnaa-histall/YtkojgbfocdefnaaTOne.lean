import Derived.Test.YtkojgbfocdefnaaTKnown
namespace Go.Proofs.Ytkojgbfocdefnaa
open Go.RowKit

/-- What one step of a script does to the entries. -/
def stepL (L : List (Nat × (Int × Int))) (id : Nat) (v : Int × Int) (gone : Bool) : List (Nat × (Int × Int)) := if gone = true then del L id else ins L id v

/-- A list of entries in the world. -/
def EntsAt (W : World) (v : Value) (L : List (Nat × (Int × Int))) : Prop := ∃ a cap, v = .slice a L.length cap ∧ (L = [] ∨ ∃ g off, a = some ⟨g, off, none⟩ ∧ g < W.heap.size ∧ ∀ i (h : i < L.length), W.cell? ⟨g, off + i * 3, none⟩ = some (.int .u32 (L[i].1 : Int)) ∧ W.cell? ⟨g, off + i * 3 + 1, none⟩ = some (.int .i64 L[i].2.1) ∧ W.cell? ⟨g, off + i * 3 + 2, none⟩ = some (.int .i64 L[i].2.2))
theorem EntsAt.later {W W' : World} {v : Value} {L : List (Nat × (Int × Int))} (h : EntsAt W v L) (hb : Below W.heap.size W W') : EntsAt W' v L := by
  obtain ⟨a, cap, rfl, h | ⟨g, off, rfl, hg, hc⟩⟩ := h
  · exact ⟨a, cap, rfl, .inl h⟩
  · have e : ∀ j, W'.cell? ⟨g, j, none⟩ = W.cell? ⟨g, j, none⟩ := fun j => hb.cell (p := ⟨g, j, none⟩) hg
    exact ⟨_, cap, rfl, .inr ⟨g, off, rfl, Nat.lt_of_lt_of_le hg hb.size, fun i hi => ⟨(e _).trans (hc i hi).1, (e _).trans (hc i hi).2.1, (e _).trans (hc i hi).2.2⟩⟩⟩
theorem flat3_len (L : List (Nat × (Int × Int))) : (flat3 L).length = L.length * 3 := by
  induction L with
  | nil => rfl
  | cons a L ih => simp [flat3] at ih ⊢; omega
theorem flat3_at : ∀ (L : List (Nat × (Int × Int))) (i : Nat) (h : i < L.length), (flat3 L)[i * 3]? = some (.int .u32 (L[i].1 : Int)) ∧ (flat3 L)[i * 3 + 1]? = some (.int .i64 L[i].2.1) ∧ (flat3 L)[i * 3 + 2]? = some (.int .i64 L[i].2.2)
  | [], i, h => by simp at h
  | a :: L, 0, h => by simp [flat3]
  | a :: L, i + 1, h => by
    have ih := flat3_at L i (by simpa using h)
    have e : flat3 (a :: L) = .int .u32 (a.1 : Int) :: .int .i64 a.2.1 :: .int .i64 a.2.2 :: flat3 L := by simp [flat3]
    rw [e, show (i + 1) * 3 = i * 3 + 1 + 1 + 1 from by omega]
    simpa using ih
theorem ents_of_own {w : World} {base : Nat} {v : Value} {L : List (Nat × (Int × Int))} (h : w.ownsRow base 98 3 v L.length (flat3 L)) : EntsAt w v L := by
  by_cases h0 : L.length = 0
  · obtain rfl := List.eq_nil_of_length_eq_zero h0
    obtain ⟨-, h | ⟨g, cap, cur, rfl, -⟩⟩ := h
    · exact ⟨none, 0, h.1, .inl rfl⟩
    · exact ⟨_, cap, rfl, .inl rfl⟩
  · obtain ⟨g, cap, rfl⟩ := own_some h (by omega)
    refine ⟨_, cap, rfl, .inr ⟨g, 0, rfl, (h.lt g rfl).2, fun i hi => ?_⟩⟩
    obtain ⟨q0, q1, q2⟩ := flat3_at L i hi
    simp only [Nat.zero_add]
    exact ⟨own_cell3 h _ _ q0, own_cell3 h _ _ q1, own_cell3 h _ _ q2⟩


end Go.Proofs.Ytkojgbfocdefnaa
