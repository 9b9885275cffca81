import Derived.Test.YtjgngmmepheioaaPkQ2
import Derived.Laws.BitsAllLaws
import Derived.Laws.Shifts
namespace Go.Proofs.Ytjgngmmepheioaa
open Go.RowKit

set_option maxRecDepth 100000 in
theorem or128 (m : Nat) : m % 256 ||| 128 = m % 128 + 128 := by
  have h1 : ∀ x : Fin 256, x.1 ||| 128 = x.1 % 128 + 128 := by decide
  have h2 := h1 ⟨m % 256, Nat.mod_lt _ (by decide)⟩
  simp only [] at h2
  rw [h2]
  omega
end Go.Proofs.Ytjgngmmepheioaa
