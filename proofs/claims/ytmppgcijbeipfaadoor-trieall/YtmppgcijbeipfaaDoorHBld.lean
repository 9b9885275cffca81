import Derived.Test.YtmppgcijbeipfaaDoorHEnt
import Derived.Lib.MinMax
namespace Go.Proofs.YtmppgcijbeipfaaDoor
open Go.RowKit

/-- What build makes of entries. -/
def putE (E : Es) (L : Es) : Es := L.foldl (fun E p => ins E p.1 p.2) E
theorem putE_snoc (E L : Es) (p : Nat × (Int × Int)) : putE E (L ++ [p]) = ins (putE E L) p.1 p.2 := by simp [putE]
def mkE (L : Es) : Es := putE [] (L.take 200)
theorem insE_len (E : Es) (id : Nat) (v : Int × Int) : (ins E id v).length ≤ E.length + 1 := by
  have := length_ins E id v
  omega
theorem putE_len (E : Es) : ∀ L : Es, (putE E L).length ≤ E.length + L.length := by
  intro L
  induction L generalizing E with
  | nil => simp [putE]
  | cons a L ih =>
    have h1 := ih (ins E a.1 a.2)
    have h2 := insE_len E a.1 a.2
    simp only [putE, List.foldl_cons, List.length_cons] at h1 ⊢
    omega
theorem mkE_len (L : Es) : (mkE L).length ≤ 200 := by
  have := putE_len [] (L.take 200)
  simp at this
  unfold mkE
  omega

/-- A list of entries that came in. -/
def EntA (W : World) (v : Value) (L : Es) : Prop := ∃ a cap, v = .slice a L.length cap ∧ L.length ≤ cap ∧ L.length ≤ 9223372036854775807 ∧ (∀ e ∈ L, e.1 < 4294967296) ∧ (L = [] ∨ ∃ g off, a = some ⟨g, off, none⟩ ∧ g < W.heap.size ∧ ∀ i (h : i < L.length), W.cell? ⟨g, off + i * 3, none⟩ = some (.int .u32 (L[i].1 : Int)) ∧ W.cell? ⟨g, off + i * 3 + 1, none⟩ = some (.int .i64 L[i].2.1) ∧ W.cell? ⟨g, off + i * 3 + 2, none⟩ = some (.int .i64 L[i].2.2))
theorem EntA.later {W W' : World} {v : Value} {L : Es} (h : EntA W v L) (hb : Below W.heap.size W W') : EntA W' v L := by
  obtain ⟨a, cap, rfl, h1, h2, h3, h | ⟨g, off, rfl, hg, hc⟩⟩ := h
  · exact ⟨a, cap, rfl, h1, h2, h3, .inl h⟩
  · have e : ∀ j, W'.cell? ⟨g, j, none⟩ = W.cell? ⟨g, j, none⟩ := fun j => hb.cell (p := ⟨g, j, none⟩) hg
    exact ⟨_, cap, rfl, h1, h2, h3, .inr ⟨g, off, rfl, Nat.lt_of_lt_of_le hg hb.size, fun i hi => ⟨(e _).trans (hc i hi).1, (e _).trans (hc i hi).2.1, (e _).trans (hc i hi).2.2⟩⟩⟩

end Go.Proofs.YtmppgcijbeipfaaDoor
