import Derived.Test.YtpmfgffhkklfeaaDoorTShA
import Derived.Test.YtpmfgffhkklfeaaDoorTMap
import Derived.Deep.RegionHeld3
namespace Go.Proofs.YtpmfgffhkklfeaaDoor
open Go.RowKit

set_option maxHeartbeats 1000000 in
/-- P3.7: what Shared tells of two maps. -/
theorem mshared_any (ma mb : Nat) (a t : Tr) (w : World) (hA : MapT w ma a) (hM : MapT w mb t) : Calls Tryd.prog 9 #[.pointer (some ⟨ma, 0, none⟩), .pointer (some ⟨mb, 0, none⟩)] w fun e w' => e = .returned (.tuple #[.int .i64 (t.sme a : Int), .int .i64 (t.frs a : Int)]) ∧ Below w.heap.size w w' := by
  obtain ⟨u, hu⟩ := ptr_pointer a
  obtain ⟨v, hv⟩ := ptr_pointer t
  have hd := (Below.refl w.heap.size w).drew
  have hA1 := hA.later hd
  have hM1 := hM.later hd
  have hs := shared_any t a hM1.2.2.2.2 w.drew hM1.2.2.2.1 hA1.2.2.2.1
  rw [hu, hv] at hs
  obtain ⟨p, hp⟩ : ∃ p : Int, p = (t.sme a : Int) := ⟨_, rfl⟩
  obtain ⟨q, hq⟩ : ∃ q : Int, q = (t.frs a : Int) := ⟨_, rfl⟩
  rw [← hp, ← hq] at hs ⊢
  clear hp hq
  have hmk : ∀ X, Below w.heap.size w X → X.cell? ⟨ma, 0, none⟩ = some (.pointer u) ∧ X.cell? ⟨mb, 0, none⟩ = some (.pointer v) := fun X hX => ⟨by rw [← hu]; exact (hA.later hX).2.1, by rw [← hv]; exact (hM.later hX).2.1⟩
  have hS := hmk _ hd
  go_enter Tryd.func9, Tryd.ntmps9
  go_wp2_with fail
  go_region_held3 (fun X => X.cell? ⟨ma, 0, none⟩ = some (.pointer u) ∧ X.cell? ⟨mb, 0, none⟩ = some (.pointer v)) (with_reducible assumption)
    (first | (go_at_call 20; refine hs.mono ?_; rintro e w1 ⟨rfl, hb1⟩; have hS1 := hmk _ (below_step hd hb1)))
  go_wp2_with fail
  exact bodyPost_ret (v := .tuple #[.int .i64 p, .int .i64 q]) (by simp [results, Tryd.results9, go_sem]) rfl ⟨rfl, below_step hd hb1⟩

end Go.Proofs.YtpmfgffhkklfeaaDoor
