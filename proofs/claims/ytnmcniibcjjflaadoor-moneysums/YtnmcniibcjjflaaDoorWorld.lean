import Derived.Test.YtnmcniibcjjflaaDoorValid
import Derived.Deep.RegionWith
namespace Go.Proofs.YtnmcniibcjjflaaDoor
open Go.RowKit

theorem Kinds.later {w w' : World} (hK : Kinds w) (hb : Below w.heap.size w w') : Kinds w' := by
  refine ⟨Nat.lt_of_lt_of_le hK.1 hb.size, fun i hi => ?_⟩
  have h := hK.2 i hi
  rw [hb.cell (p := ⟨0, i * 3, none⟩) hK.1, hb.cell (p := ⟨0, i * 3 + 1, none⟩) hK.1, hb.cell (p := ⟨0, i * 3 + 2, none⟩) hK.1]
  exact h
theorem Kinds.alloc {w : World} (hK : Kinds w) (o : Obj) : Kinds (w.alloc o) := hK.later ((Below.refl _ _).alloc (Nat.le_refl _) _)
theorem Kinds.drew {w : World} (hK : Kinds w) : Kinds w.drew := hK.later (Below.refl _ _).drew
theorem Kinds.drewN {w : World} (hK : Kinds w) (n : Nat) : Kinds (w.drewN n) := hK.later (below_drewN (Below.refl _ _) n)
theorem Kinds.setCell {w : World} (hK : Kinds w) {a : Addr} (h : 0 < a.block) (v : Value) : Kinds (w.setCell a v) := by
  have hb : Below (0 + 1) w (w.setCell a v) := (Below.refl _ _).setCell h v
  refine ⟨Nat.lt_of_lt_of_le hK.1 hb.size, fun i hi => ?_⟩
  have h := hK.2 i hi
  rw [hb.cell (p := ⟨0, i * 3, none⟩) (Nat.lt_succ_self _), hb.cell (p := ⟨0, i * 3 + 1, none⟩) (Nat.lt_succ_self _), hb.cell (p := ⟨0, i * 3 + 2, none⟩) (Nat.lt_succ_self _)]
  exact h

theorem bcell {W w1 : World} (hb : Below W.heap.size W w1) : (∀ b o, b < W.heap.size → w1.cell? ⟨b, o, none⟩ = W.cell? ⟨b, o, none⟩) ∧ (∀ b o, b < W.heap.size → w1.frozen? ⟨b, o, none⟩ = W.frozen? ⟨b, o, none⟩) :=
  ⟨fun b o h => hb.cell (p := ⟨b, o, none⟩) h, fun b o h => hb.frozen (p := ⟨b, o, none⟩) h⟩

/-- One call behind the other. -/
theorem below_step {w X w1 : World} (h : Below w.heap.size w X) (hb : Below X.heap.size X w1) : Below w.heap.size w w1 := h.trans (hb.mono h.size)


end Go.Proofs.YtnmcniibcjjflaaDoor
