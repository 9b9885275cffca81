import Derived.Test.YteefieidfgpijaaCwE
namespace Go.Proofs.Yteefieidfgpijaa.CF
open Go.RowKit

theorem XsAt.later {w w' : World} {a : Option Addr} {xs : List Int} (h : XsAt w a xs) {n : Nat} (hb : Below n w w') (hn : w.heap.size ≤ n) : XsAt w' a xs := by
  rcases h with h | ⟨b, off, ha, hlt, hc⟩
  · exact .inl h
  · exact .inr ⟨b, off, ha, Nat.lt_of_lt_of_le hlt hb.size, fun i hi => (hb.cell (p := ⟨b, off + i, none⟩) (Nat.lt_of_lt_of_le hlt hn)).trans (hc i hi)⟩
end Go.Proofs.Yteefieidfgpijaa.CF
