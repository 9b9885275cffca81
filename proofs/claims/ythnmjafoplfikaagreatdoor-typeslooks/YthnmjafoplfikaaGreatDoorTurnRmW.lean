import Derived.Test.YthnmjafoplfikaaGreatDoorTurnRmM
namespace Go.Proofs.YthnmjafoplfikaaGreatDoor
open Go.RowKit

/-- Blocks that are new since n, and none of the room's. -/
def SnR (n R : Nat) (K : Nat → Value) (W : World) (b : Nat) : Prop := n ≤ b ∧ b < W.heap.size ∧ b ≠ R ∧ ∀ i, i < 21 → (K i).ownBlock ≠ some b
/-- What the copy of a list is. -/
def RmC {α : Type} (D : Elt α) (R lo : Nat) (K : Nat → Value) (V : Nat → List Value) (N' sp : Nat) (xs : List α) (W : World) (e : Ending) (W' : World) : Prop := ∃ g K' V', e = .returned (.slice (some ⟨g, 0, none⟩) xs.length (xs.length + sp)) ∧ RmAt W' R lo K' V' N' ∧ RmStep R K V K' V' W W' ∧ RowR D W' (SnR W.heap.size R K' W') xs (some ⟨g, 0, none⟩)
theorem infoTx : (Tryz.prog.info? 9).map (fun i => (i.zero, i.size, i.bytes)) = some (some (.string ⟨#[]⟩), 1, 16) := by kernel_rfl
theorem infoTx2 : (Tryz.prog.info? 64).map (fun i => (i.zero, i.size, i.bytes)) = some (some (.slice none 0 0), 1, 24) := by kernel_rfl
theorem own_lit2 {w : World} {base n size : Nat} {e : TypeId} {v : Value} {xs : List Value} (h : w.ownsRow base e size v n xs) (hn : 0 < n) : ∃ g cap, v = .slice (some ⟨g, 0, none⟩) n cap ∧ n ≤ cap := by
  obtain ⟨_, h | ⟨g, cap, cur, rfl, _, _, h2, _⟩⟩ := h
  · omega
  · exact ⟨g, cap, rfl, h2⟩
theorem own_shape {w : World} {base n size : Nat} {e : TypeId} {v : Value} {xs : List Value} (h : w.ownsRow base e size v n xs) : ∃ a cap, v = .slice a n cap := by
  obtain ⟨_, h | ⟨g, cap, cur, rfl, _⟩⟩ := h
  · exact ⟨none, 0, by rw [h.1, h.2]⟩
  · exact ⟨_, _, rfl⟩
/-- A copy begins. -/
theorem gm_start {α : Type} (D : Elt α) (T : TypeId) {W : World} {R lo N : Nat} {K : Nat → Value} {V : Nat → List Value} (hR : RmAt W R lo K V N) : GM D T W.heap.size R K V (W.alloc (.cells #[] T)) (.slice (some ⟨W.heap.size, 0, none⟩) 0 0) [] 0 [] := by
  refine ⟨⟨[], ?_, Elems.nil _ _ _⟩, fun j hj v hv g e e' => ?_⟩
  · exact World.ownsRow_lit (base := W.heap.size) (e := T) (size := D.k) W #[] 0 (Nat.le_refl _) (by unfold maxLen; omega) (by simp)
  · have e2 : W.heap.size = g := Option.some.inj e
    have := (hR.mks j hj v hv).lt e'
    omega
theorem bel_alloc (W : World) (o : Obj) : Below W.heap.size W (W.alloc o) := (Below.refl W.heap.size W).alloc (Nat.le_refl _) o
theorem gr_alloc (W : World) (o : Obj) : W.grownBy (W.alloc o) none := World.grownBy_alloc W o none

end Go.Proofs.YthnmjafoplfikaaGreatDoor
