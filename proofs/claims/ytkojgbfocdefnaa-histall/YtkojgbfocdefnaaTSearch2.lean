import Derived.Test.YtkojgbfocdefnaaTSearch
namespace Go.Proofs.Ytkojgbfocdefnaa
open Go.RowKit

theorem takes_ends {f : Nat} {T : Addr} {t : Tr} {J Jx : List (Nat × (Int × Int)) → World → Prop} (hT : Takes f T t J Jx) {d d' L : List (Nat × (Int × Int))} {X : World} (o : Bool) (h1 : o = true → J d X) (h2 : o = false → ∃ pre, pre <+: L ∧ Jx (d' ++ pre) X) : Lies X t := by
  cases o with
  | true => exact hT.lies _ _ (h1 rfl)
  | false =>
    obtain ⟨pre, -, h⟩ := h2 rfl
    exact hT.liesx _ _ h

end Go.Proofs.Ytkojgbfocdefnaa
