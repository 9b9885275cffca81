import Derived.Test.YtjgngmmepheioaaPxN2
namespace Go.Proofs.Ytjgngmmepheioaa
theorem xor_all {n : Nat} (h : n < 9223372036854775808) : bits BinOp.xor IntKind.i64 (-1) (n : Int) = -(n : Int) - 1 := by
  have e : (BitVec.ofInt 64 (-1)) ^^^ (BitVec.ofInt 64 (n : Int)) = ~~~ (BitVec.ofNat 64 n) := by
    have h1 : (BitVec.ofInt 64 (-1)) = BitVec.allOnes 64 := by decide
    rw [h1, BitVec.ofInt_natCast, BitVec.allOnes_xor]
  have e2 : (~~~ (BitVec.ofNat 64 n)).toNat = 18446744073709551615 - n := by
    rw [BitVec.toNat_not, BitVec.toNat_ofNat, Nat.mod_eq_of_lt (by omega)]
  show IntKind.i64.wrap (((BitVec.ofInt 64 (-1)) ^^^ (BitVec.ofInt 64 (n : Int))).toNat : Int) = _
  rw [e, e2]
  simp [IntKind.wrap, IntKind.bits, IntKind.signed]
  omega
end Go.Proofs.Ytjgngmmepheioaa
