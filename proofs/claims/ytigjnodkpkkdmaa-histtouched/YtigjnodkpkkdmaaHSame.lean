import Derived.Test.YtigjnodkpkkdmaaHBld
import Derived.Laws.StructEq
namespace Go.Proofs.Ytigjnodkpkkdmaa
open Go.RowKit

theorem eqVal (d : Nat) (x y : Int) (w : World) : (Op.equalIn (d + 2) 37 (.agg #[.int .i64 x, .int .i64 y]) (.agg #[.int .i64 x, .int .i64 y])).run Try.prog w = .ok true w := by
  have hS : Try.prog.underlying 37 = some (.struct (Try.prog.fieldsOf 37)) := by kernel_rfl
  have hp : Try.prog.stoodInHeld 37 = false := by kernel_rfl
  rw [show d + 2 = (d + 1) + 1 from rfl, run_equalIn_agg w (d + 1) 37 _ _ hS hp]
  simp only [Program.fieldsOf, Try.underlying37]
  go_simp
theorem eqEnt (k : Int) (x y : Int) (w : World) : (Op.equalIn 10000 43 (.agg #[.int .u32 k, .int .i64 x, .int .i64 y]) (.agg #[.int .u32 k, .int .i64 x, .int .i64 y])).run Try.prog w = .ok true w := by
  have hS : Try.prog.underlying 43 = some (.struct (Try.prog.fieldsOf 43)) := by kernel_rfl
  have hp : Try.prog.stoodInHeld 43 = false := by kernel_rfl
  have hv := fun W => eqVal 9997 x y W
  rw [show (10000 : Nat) = 9999 + 1 from rfl, run_equalIn_agg w 9999 43 _ _ hS hp]
  simp only [Program.fieldsOf, Try.underlying43]
  go_simp

end Go.Proofs.Ytigjnodkpkkdmaa
