import Derived.Test.YteefieidfgpijaaCw1
import Derived.Test.YteefieidfgpijaaCfO
import Derived.OwnWalk
import Derived.Laws.OwnMore
import Derived.Laws.Externs
namespace Go.Proofs.Yteefieidfgpijaa.CF
open Go.RowKit

theorem order_any (a : Nat) (h : a < 4294967296) (w : World) : Calls Try.prog 50 #[.int .u32 (a : Int)] w fun e w' => e = .returned (.int .i64 (ordN a)) ∧ w' = w := by
  by_cases h1 : 2147483648 ≤ a
  · have h2 : (2147483648 : Int) ≤ (a : Int) := by omega
    have h3 : -((a : Int) - 2147483648) = ordN a := by unfold ordN; rw [if_pos h1]; omega
    go_enter Try.func50, Try.ntmps50
    go_wp2
    go_ret
    exact ⟨rfl, rfl⟩
  · have h2 : ¬ (2147483648 : Int) ≤ (a : Int) := by omega
    have h3 : (a : Int) = ordN a := by unfold ordN; rw [if_neg h1]
    have h4 := Hid.mk h3
    clear h3
    go_enter Try.func50, Try.ntmps50
    go_wp2
    go_ret
    exact ⟨by rw [← h4.out]; rfl, rfl⟩
def nanB (a : Nat) : Bool := decide (2139095040 < a % 2147483648)
set_option maxHeartbeats 1000000 in
theorem same_any (a b : Nat) (ha : a < 4294967296) (hb : b < 4294967296) (w : World) : Calls Try.prog 53 #[.int .u32 (a : Int), .int .u32 (b : Int)] w fun e w' => e = .returned (.bool (!nanB a && !nanB b && (ordN a == ordN b))) ∧ w' = w := by
  have n1 := nan_any a w
  have n2 := nan_any b w
  have o1 := order_any a ha w
  have o2 := order_any b hb w
  change Calls _ _ _ _ (fun e w' => e = .returned (.bool (nanB a)) ∧ w' = w) at n1
  change Calls _ _ _ _ (fun e w' => e = .returned (.bool (nanB b)) ∧ w' = w) at n2
  generalize nanB a = x at *
  generalize nanB b = y at *
  generalize ordN a = u at *
  generalize ordN b = v at *
  obtain ⟨p, hp⟩ : ∃ p : Int, p = (a : Int) := ⟨_, rfl⟩
  obtain ⟨q, hq⟩ : ∃ q : Int, q = (b : Int) := ⟨_, rfl⟩
  rw [← hp] at n1 o1 ⊢
  rw [← hq] at n2 o2 ⊢
  clear hp hq
  go_enter Try.func53, Try.ntmps53
  go_wp2_with (go_at_call 39; fail)
  refine n1.mono ?_
  rintro _ _ ⟨rfl, rfl⟩
  clear n1
  go_wp2_with (go_at_call 39; fail)
  refine n2.mono ?_
  rintro _ _ ⟨rfl, rfl⟩
  clear n2
  cases x <;> cases y
  · go_wp2_with (go_at_call 50; fail)
    refine o1.mono ?_
    rintro _ _ ⟨rfl, rfl⟩
    clear o1
    go_wp2_with (go_at_call 50; fail)
    refine o2.mono ?_
    rintro _ _ ⟨rfl, rfl⟩
    clear o2
    go_wp2
    go_ret
    exact ⟨by simp, rfl⟩
  all_goals
    go_wp2
    go_ret
    exact ⟨rfl, rfl⟩
theorem f32bits (b : Nat) (w : World) : (callFunc 38 #[.float .f32 b]).run Try.prog w = .ok (.value (.int .u32 (b : Int))) w := by
  rw [run_callFunc_extern (P := Try.prog) (f := 38) (e := Extern.MathFloatBits.float32bits) Try.func38 (by kernel_rfl) (by kernel_rfl) (by kernel_rfl) (by kernel_rfl)]
  rfl
theorem f32from (z : Int) (w : World) : (callFunc 34 #[.int .u32 z]).run Try.prog w = .ok (.value (.float .f32 z.toNat)) w := by
  rw [run_callFunc_extern (P := Try.prog) (f := 34) (e := Extern.MathFloatBits.float32frombits) Try.func34 (by kernel_rfl) (by kernel_rfl) (by kernel_rfl) (by kernel_rfl)]
  rfl
theorem whole_any (z : Int) (h0 : -9223372036854775808 ≤ z) (h1 : z ≤ 9223372036854775807) (w : World) : Calls Try.prog 55 #[.int .i64 z] w fun e w' => e = .returned (.int .u32 (wholeN z : Int)) ∧ w' = w := by
  have hb : ∀ m : Nat, shiftN m 0 = (bitsN m : Int) - 24 := fun m => by unfold shiftN; rw [if_neg (by omega)]
  have hr := rounded_any (decide (z < 0)) z.natAbs 0 false (by omega) (by omega) (fun _ _ => by rw [hb]; have := bitsN_le (m := z.natAbs) (by omega); omega) w
  by_cases hz : z < 0
  · have e1 : wholeN z = rnd true z.natAbs 0 false := by unfold wholeN; rw [if_pos hz]
    rw [decide_eq_true hz, ← e1, show ((z.natAbs : Nat) : Int) = -(z + 1) + 1 by omega] at hr
    clear hb e1
    generalize wholeN z = r at *
    go_enter Try.func55, Try.ntmps55
    go_wp2_with (go_at_call 59; refine hr.mono ?_; rintro _ _ ⟨rfl, rfl⟩)
    go_ret
    exact ⟨rfl, rfl⟩
  · have e1 : wholeN z = rnd false z.natAbs 0 false := by unfold wholeN; rw [if_neg hz]
    rw [decide_eq_false hz, ← e1, show ((z.natAbs : Nat) : Int) = z by omega] at hr
    clear hb e1
    generalize wholeN z = r at *
    go_enter Try.func55, Try.ntmps55
    go_wp2_with (go_at_call 59; refine hr.mono ?_; rintro _ _ ⟨rfl, rfl⟩)
    go_ret
    exact ⟨rfl, rfl⟩
end Go.Proofs.Yteefieidfgpijaa.CF
