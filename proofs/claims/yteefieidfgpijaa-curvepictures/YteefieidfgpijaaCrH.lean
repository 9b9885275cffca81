import Derived.Test.YteefieidfgpijaaCrG
namespace Go.Proofs.Yteefieidfgpijaa.CF
open Go.RowKit
attribute [local go_sem] run_store_float

set_option maxHeartbeats 1000000 in
theorem less_any (a b : Nat) (ha : a < 4294967296) (hb : b < 4294967296) (w : World) : Calls Try.prog 45 #[.int .u32 (a : Int), .int .u32 (b : Int)] w fun e w' => e = .returned (.bool (!nanB a && !nanB b && decide (ordN a < ordN b))) ∧ w' = w := by
  have n1 := nan_any a w
  have n2 := nan_any b w
  have o1 := order_any a ha w
  have o2 := order_any b hb w
  change Calls _ _ _ _ (fun e w' => e = .returned (.bool (nanB a)) ∧ w' = w) at n1
  change Calls _ _ _ _ (fun e w' => e = .returned (.bool (nanB b)) ∧ w' = w) at n2
  generalize nanB a = x at *
  generalize nanB b = y at *
  generalize ordN a = u at *
  generalize ordN b = v at *
  obtain ⟨p, hp⟩ : ∃ p : Int, p = (a : Int) := ⟨_, rfl⟩
  obtain ⟨q, hq⟩ : ∃ q : Int, q = (b : Int) := ⟨_, rfl⟩
  rw [← hp] at n1 o1 ⊢
  rw [← hq] at n2 o2 ⊢
  clear hp hq
  go_enter Try.func45, Try.ntmps45
  go_wp2_with (go_at_call 39; fail)
  refine n1.mono ?_
  rintro _ _ ⟨rfl, rfl⟩
  clear n1
  go_wp2_with (go_at_call 39; fail)
  refine n2.mono ?_
  rintro _ _ ⟨rfl, rfl⟩
  clear n2
  cases x <;> cases y
  · go_wp2_with (go_at_call 50; fail)
    refine o1.mono ?_
    rintro _ _ ⟨rfl, rfl⟩
    clear o1
    go_wp2_with (go_at_call 50; fail)
    refine o2.mono ?_
    rintro _ _ ⟨rfl, rfl⟩
    clear o2
    go_wp2
    go_ret
    exact ⟨by simp, rfl⟩
  all_goals
    go_wp2
    go_ret
    exact ⟨rfl, rfl⟩
theorem nanB_any (a : Nat) (w : World) : Calls Try.prog 39 #[.int .u32 (a : Int)] w fun e w' => e = .returned (.bool (nanB a)) ∧ w' = w := nan_any a w
theorem jmp_ref {d z : Nat} (h1 : nanB d = false) (h2 : nanB z = false) : jmp d z = !(!nanB (d % 2147483648) && !nanB z && decide (ordN (d % 2147483648) < ordN z)) := by
  have h3 : nanB (d % 2147483648) = false := by unfold nanB at *; rw [Nat.mod_mod]; exact h1
  rw [h3, h2]
  have h4 : ordN (d % 2147483648) = ((d % 2147483648 : Nat) : Int) := by unfold ordN; rw [if_neg (by omega)]
  rw [h4]
  have n1 := of_decide_eq_false h1
  have n2 := of_decide_eq_false h2
  unfold jmp
  by_cases h : ((d % 2147483648 : Nat) : Int) < ordN z
  · rw [decide_eq_true h, decide_eq_false (by omega)]; rfl
  · rw [decide_eq_false h, decide_eq_true ⟨by omega, by omega, by omega⟩]; rfl
theorem jmp_no {d z : Nat} (h : (nanB d || nanB z) = true) : jmp d z = false := by
  unfold jmp
  refine decide_eq_false fun hc => ?_
  rcases Bool.or_eq_true_iff.1 h with h1 | h1
  · have := of_decide_eq_true h1; omega
  · have := of_decide_eq_true h1; omega
end Go.Proofs.Yteefieidfgpijaa.CF
