import Derived.Test.YtmppgcijbeipfaaDoorHSrch
import Derived.Test.YtmppgcijbeipfaaDoorHMem
import Derived.Deep.RegionLaw
namespace Go.Proofs.YtmppgcijbeipfaaDoor
open Go.RowKit

/-- The cell that holds the list, and the list. -/
def EJ (W : World) (T : Nat) (done : Es) (X : World) : Prop := ∃ ev, X.heap[T]? = some (.cells #[ev] 44 (0, 0)) ∧ X.ownsRow (T + 1) 49 3 ev done.length (flat3 done) ∧ W.heap.size ≤ T ∧ Below W.heap.size W X ∧ done.length < 4000
theorem EJ.drewN {W X : World} {T : Nat} {done : Es} (h : EJ W T done X) (n : Nat) : EJ W T done (X.drewN n) := by
  obtain ⟨ev, h1, h2, h3, h4, h5⟩ := h
  have hb := below_drewN (Below.refl X.heap.size X) n
  exact ⟨ev, (hb.block T (Array.getElem?_eq_some_iff.1 h1).1).trans h1, own_laterB h2 hb, h3, below_drewN h4 n, h5⟩

end Go.Proofs.YtmppgcijbeipfaaDoor
