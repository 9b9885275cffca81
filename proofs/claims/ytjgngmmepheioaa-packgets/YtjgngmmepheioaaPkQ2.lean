import Derived.Test.YtjgngmmepheioaaPkQ
namespace Go.Proofs.Ytjgngmmepheioaa
open Go.RowKit

theorem Wr.imp_ok {a0 a1 x : List UInt8} {b0 b1 : Bool} {p : Prop} (h : Wr a0 b0 a1 b1 x (p ∧ True)) : Wr a0 b0 a1 b1 x p := ⟨fun h0 => ⟨(h.1 h0).1, (h.1 h0).2.1, (h.1 h0).2.2.1⟩, fun h0 hl hp => h.2 h0 hl ⟨hp, trivial⟩⟩
theorem strCells_of (s : List UInt8) : Go.Lib.strCells ⟨s.toArray⟩ = Go.Lib.byteCells s := rfl
end Go.Proofs.Ytjgngmmepheioaa
