import Derived.Test.YtmppgcijbeipfaaDoorHBld
import Derived.Laws.StructEq
namespace Go.Proofs.YtmppgcijbeipfaaDoor
open Go.RowKit

theorem eqVal (d : Nat) (x y : Int) (w : World) : (Op.equalIn (d + 2) 29 (.agg #[.int .i64 x, .int .i64 y]) (.agg #[.int .i64 x, .int .i64 y])).run Tryd.prog w = .ok true w := by
  have hS : Tryd.prog.underlying 29 = some (.struct (Tryd.prog.fieldsOf 29)) := by kernel_rfl
  have hp : Tryd.prog.stoodInHeld 29 = false := by kernel_rfl
  rw [show d + 2 = (d + 1) + 1 from rfl, run_equalIn_agg w (d + 1) 29 _ _ hS hp]
  simp only [Program.fieldsOf, Tryd.underlying29]
  go_simp
theorem eqEnt (k : Int) (x y : Int) (w : World) : (Op.equalIn 10000 49 (.agg #[.int .u32 k, .int .i64 x, .int .i64 y]) (.agg #[.int .u32 k, .int .i64 x, .int .i64 y])).run Tryd.prog w = .ok true w := by
  have hS : Tryd.prog.underlying 49 = some (.struct (Tryd.prog.fieldsOf 49)) := by kernel_rfl
  have hp : Tryd.prog.stoodInHeld 49 = false := by kernel_rfl
  have hv := fun W => eqVal 9997 x y W
  rw [show (10000 : Nat) = 9999 + 1 from rfl, run_equalIn_agg w 9999 49 _ _ hS hp]
  simp only [Program.fieldsOf, Tryd.underlying49]
  go_simp

end Go.Proofs.YtmppgcijbeipfaaDoor
