import Derived.Test.YteefieidfgpijaaCrD
namespace Go.Proofs.Yteefieidfgpijaa.CF
open Go.RowKit
attribute [local go_sem] run_store_float

def cntN (k r n t : Nat) : Nat := min (k + t - r) n - (k - r)
def sumC (D : Dots) (lo : Nat) : Nat → Nat
  | 0 => 0
  | c + 1 => sumS D lo c
end Go.Proofs.Yteefieidfgpijaa.CF
