import Derived.Test.YtmppgcijbeipfaaDoorTKnown
namespace Go.Proofs.YtmppgcijbeipfaaDoor
open Go.RowKit

/-- What one step of a script does to the entries. -/
def stepL (L : List (Nat × (Int × Int))) (id : Nat) (v : Int × Int) (gone : Bool) : List (Nat × (Int × Int)) := if gone = true then del L id else ins L id v

/-- A list of entries in the world. -/
def EntsAt (W : World) (v : Value) (L : List (Nat × (Int × Int))) : Prop := ∃ a cap, v = .slice a L.length cap ∧ (L = [] ∨ ∃ g off, a = some ⟨g, off, none⟩ ∧ g < W.heap.size ∧ ∀ i (h : i < L.length), W.cell? ⟨g, off + i * 3, none⟩ = some (.int .u32 (L[i].1 : Int)) ∧ W.cell? ⟨g, off + i * 3 + 1, none⟩ = some (.int .i64 L[i].2.1) ∧ W.cell? ⟨g, off + i * 3 + 2, none⟩ = some (.int .i64 L[i].2.2))
theorem EntsAt.later {W W' : World} {v : Value} {L : List (Nat × (Int × Int))} (h : EntsAt W v L) (hb : Below W.heap.size W W') : EntsAt W' v L := by
  obtain ⟨a, cap, rfl, h | ⟨g, off, rfl, hg, hc⟩⟩ := h
  · exact ⟨a, cap, rfl, .inl h⟩
  · have e : ∀ j, W'.cell? ⟨g, j, none⟩ = W.cell? ⟨g, j, none⟩ := fun j => hb.cell (p := ⟨g, j, none⟩) hg
    exact ⟨_, cap, rfl, .inr ⟨g, off, rfl, Nat.lt_of_lt_of_le hg hb.size, fun i hi => ⟨(e _).trans (hc i hi).1, (e _).trans (hc i hi).2.1, (e _).trans (hc i hi).2.2⟩⟩⟩
theorem flat3_len (L : List (Nat × (Int × Int))) : (flat3 L).length = L.length * 3 := by
  induction L with
  | nil => rfl
  | cons a L ih => simp [flat3] at ih ⊢; omega
theorem flat3_at : ∀ (L : List (Nat × (Int × Int))) (i : Nat) (h : i < L.length), (flat3 L)[i * 3]? = some (.int .u32 (L[i].1 : Int)) ∧ (flat3 L)[i * 3 + 1]? = some (.int .i64 L[i].2.1) ∧ (flat3 L)[i * 3 + 2]? = some (.int .i64 L[i].2.2)
  | [], i, h => by simp at h
  | a :: L, 0, h => by simp [flat3]
  | a :: L, i + 1, h => by
    have ih := flat3_at L i (by simpa using h)
    have e : flat3 (a :: L) = .int .u32 (a.1 : Int) :: .int .i64 a.2.1 :: .int .i64 a.2.2 :: flat3 L := by simp [flat3]
    rw [e, show (i + 1) * 3 = i * 3 + 1 + 1 + 1 from by omega]
    simpa using ih
theorem ents_of_own {w : World} {base : Nat} {v : Value} {L : List (Nat × (Int × Int))} (h : w.ownsRow base 49 3 v L.length (flat3 L)) : EntsAt w v L := by
  by_cases h0 : L.length = 0
  · obtain rfl := List.eq_nil_of_length_eq_zero h0
    obtain ⟨-, h | ⟨g, cap, cur, rfl, -⟩⟩ := h
    · exact ⟨none, 0, h.1, .inl rfl⟩
    · exact ⟨_, cap, rfl, .inl rfl⟩
  · obtain ⟨g, cap, rfl⟩ := own_some h (by omega)
    refine ⟨_, cap, rfl, .inr ⟨g, 0, rfl, (h.lt g rfl).2, fun i hi => ?_⟩⟩
    obtain ⟨q0, q1, q2⟩ := flat3_at L i hi
    simp only [Nat.zero_add]
    exact ⟨own_cell3 h _ _ q0, own_cell3 h _ _ q1, own_cell3 h _ _ q2⟩

set_option maxRecDepth 4000 in
set_option maxHeartbeats 1000000 in
/-- Of two lists with the same entries sameEntries says yes. -/
theorem same_entries (va vb : Value) (L : List (Nat × (Int × Int))) (hl : L.length ≤ 1000000000) (w : World) (ha : EntsAt w va L) (hb : EntsAt w vb L) : Calls Tryd.prog 22 #[va, vb] w fun e w' => e = .returned (.bool true) ∧ Below w.heap.size w w' := by
  obtain ⟨aa, ca, rfl, hda⟩ := ha
  obtain ⟨ab, cb, rfl, hdb⟩ := hb
  go_enter Tryd.func22, Tryd.ntmps22
  go_wp2
  go_loopw [5] (fun i wr => ∃ j : Nat, j ≤ L.length ∧ i = .int .i64 j ∧ Below w.heap.size w wr) (fun i _ => L.length - (intOf i).toNat)
  case atStart => exact ⟨0, by omega, rfl, Below.refl _ _⟩
  case round =>
    obtain ⟨j, hj, rfl, hB⟩ := hrel
    by_cases hlt : j < L.length
    · have hlt' : (j : Int) < L.length := by omega
      have hj0 : (0 : Int) ≤ (j : Int) := by omega
      rcases hda with h0 | ⟨ga, oa, rfl, hga, hca⟩
      · rw [h0] at hlt; simp at hlt
      rcases hdb with h0 | ⟨gb, ob, rfl, hgb, hcb⟩
      · rw [h0] at hlt; simp at hlt
      obtain ⟨a0, a1, a2⟩ := hca j hlt
      obtain ⟨b0, b1, b2⟩ := hcb j hlt
      generalize L[j].1 = k at *
      generalize L[j].2.1 = x at *
      generalize L[j].2.2 = y at *
      have hS0 : w.cell? ⟨ga, oa + j * 3, none⟩ = some (.int .u32 (k : Int)) ∧ w.cell? ⟨ga, oa + j * 3 + 1, none⟩ = some (.int .i64 x) ∧ w.cell? ⟨ga, oa + j * 3 + 2, none⟩ = some (.int .i64 y) ∧ w.cell? ⟨gb, ob + j * 3, none⟩ = some (.int .u32 (k : Int)) ∧ w.cell? ⟨gb, ob + j * 3 + 1, none⟩ = some (.int .i64 x) ∧ w.cell? ⟨gb, ob + j * 3 + 2, none⟩ = some (.int .i64 y) := ⟨a0, a1, a2, b0, b1, b2⟩
      have hS : ∀ X, Below w.heap.size w X → X.cell? ⟨ga, oa + j * 3, none⟩ = some (.int .u32 (k : Int)) ∧ X.cell? ⟨ga, oa + j * 3 + 1, none⟩ = some (.int .i64 x) ∧ X.cell? ⟨ga, oa + j * 3 + 2, none⟩ = some (.int .i64 y) ∧ X.cell? ⟨gb, ob + j * 3, none⟩ = some (.int .u32 (k : Int)) ∧ X.cell? ⟨gb, ob + j * 3 + 1, none⟩ = some (.int .i64 x) ∧ X.cell? ⟨gb, ob + j * 3 + 2, none⟩ = some (.int .i64 y) := fun X hX => ⟨(hX.cell (p := ⟨ga, _, none⟩) hga).trans a0, (hX.cell (p := ⟨ga, _, none⟩) hga).trans a1, (hX.cell (p := ⟨ga, _, none⟩) hga).trans a2, (hX.cell (p := ⟨gb, _, none⟩) hgb).trans b0, (hX.cell (p := ⟨gb, _, none⟩) hgb).trans b1, (hX.cell (p := ⟨gb, _, none⟩) hgb).trans b2⟩
      have hS1 := hS _ hB.drew
      have hsv := same_any x y x y true (by simp) wr.drew
      have hkk : ((k : Int) != (k : Int)) = false := by simp
      clear hS0 a0 a1 a2 b0 b1 b2 hca hcb
      go_wp2
      go_region_held3 (fun X => X.cell? ⟨ga, oa + j * 3, none⟩ = some (.int .u32 (k : Int)) ∧ X.cell? ⟨ga, oa + j * 3 + 1, none⟩ = some (.int .i64 x) ∧ X.cell? ⟨ga, oa + j * 3 + 2, none⟩ = some (.int .i64 y) ∧ X.cell? ⟨gb, ob + j * 3, none⟩ = some (.int .u32 (k : Int)) ∧ X.cell? ⟨gb, ob + j * 3 + 1, none⟩ = some (.int .i64 x) ∧ X.cell? ⟨gb, ob + j * 3 + 2, none⟩ = some (.int .i64 y)) (with_reducible assumption)
        (first | (go_at_call 12; refine hsv.mono ?_; rintro e w5 ⟨rfl, hb5⟩; have hB5 := below_step hB.drew hb5; have hS5 := hS _ hB5))
      go_wp2
      go_roundw
      case rel => exact ⟨j + 1, by omega, by go_num, hB5⟩
      case measure => simp [intOf]; omega
    · have hlt' : ¬ (j : Int) < L.length := by omega
      go_wp2
      go_ret
      exact ⟨rfl, hB⟩

end Go.Proofs.YtmppgcijbeipfaaDoor
