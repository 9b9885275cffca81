import Derived.Test.YteiplejamciddaaYL1
import Derived.Test.YteiplejamciddaaYC0
namespace Go.Proofs.Yteiplejamciddaa
open Go.RowKit

set_option maxRecDepth 20000 in
theorem isLetter_any (b : UInt8) (W : World) : Calls Try.prog 68 #[.int .u8 (b.toNat : Int)] W fun e W' => e = .returned (.bool (letB b)) ∧ W = W' := by
  have hb : (0 : Int) ≤ (b.toNat : Int) := by omega
  have hr : letB b = (decide ((97 : Int) ≤ (b.toNat : Int)) && decide ((b.toNat : Int) ≤ 122)) := by
    unfold letB
    congr 1 <;> (apply decide_eq_decide.2; omega)
  by_cases h : (97 : Int) ≤ (b.toNat : Int)
  · rw [hr, decide_eq_true h, Bool.true_and]
    go_enter Try.func68, Try.ntmps68
    go_wp2
    go_ret
    exact ⟨rfl, rfl⟩
  · rw [hr, decide_eq_false h, Bool.false_and]
    go_enter Try.func68, Try.ntmps68
    go_wp2
    go_ret
    exact ⟨rfl, rfl⟩
set_option maxRecDepth 20000 in
theorem isDigit_any (b : UInt8) (W : World) : Calls Try.prog 69 #[.int .u8 (b.toNat : Int)] W fun e W' => e = .returned (.bool (digB b)) ∧ W = W' := by
  have hb : (0 : Int) ≤ (b.toNat : Int) := by omega
  have hr : digB b = (decide ((48 : Int) ≤ (b.toNat : Int)) && decide ((b.toNat : Int) ≤ 57)) := by
    unfold digB
    congr 1 <;> (apply decide_eq_decide.2; omega)
  by_cases h : (48 : Int) ≤ (b.toNat : Int)
  · rw [hr, decide_eq_true h, Bool.true_and]
    go_enter Try.func69, Try.ntmps69
    go_wp2
    go_ret
    exact ⟨rfl, rfl⟩
  · rw [hr, decide_eq_false h, Bool.false_and]
    go_enter Try.func69, Try.ntmps69
    go_wp2
    go_ret
    exact ⟨rfl, rfl⟩
end Go.Proofs.Yteiplejamciddaa
