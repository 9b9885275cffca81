import Derived.Test.YtjgngmmepheioaaPkQ3
namespace Go.Proofs.Ytjgngmmepheioaa
open Go.RowKit

theorem Wr.tr {a0 a1 a2 x y : List UInt8} {b0 b1 b2 : Bool} {p : Prop} (h : Wr a0 b0 a1 b1 x p) (k : Wr a1 b1 a2 b2 y True) : Wr a0 b0 a2 b2 (x ++ y) p := (h.trans k).imp_ok
theorem compl64 (z : Int) (h1 : -9223372036854775808 ≤ z) (h2 : z ≤ 9223372036854775807) : bits .xor .i64 (-1) z = -z - 1 := by
  show IntKind.i64.wrap ((BitVec.ofInt 64 (-1) ^^^ BitVec.ofInt 64 z).toNat : Int) = _
  rw [show BitVec.ofInt 64 (-1) = BitVec.allOnes 64 from rfl, BitVec.allOnes_xor, BitVec.toNat_not, BitVec.toNat_ofInt]
  rw [IntKind.wrap_i64, show (2 : Nat) ^ 64 = 18446744073709551616 from rfl]
  omega
end Go.Proofs.Ytjgngmmepheioaa
