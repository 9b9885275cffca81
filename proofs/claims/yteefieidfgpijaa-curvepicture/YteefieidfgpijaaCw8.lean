import Derived.Test.YteefieidfgpijaaCw7
namespace Go.Proofs.Yteefieidfgpijaa.CF
open Go.RowKit
attribute [local go_sem] run_store_float

theorem below_two {w X : World} (h : Below w.heap.size w X) (o o2 : Obj) : Below w.heap.size w ((X.alloc o).alloc o2) := (h.alloc h.size o).alloc (Nat.le_trans h.size (by simp)) o2

end Go.Proofs.Yteefieidfgpijaa.CF
