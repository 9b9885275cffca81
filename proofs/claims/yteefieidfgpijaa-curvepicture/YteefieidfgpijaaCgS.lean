import Derived.Test.YteefieidfgpijaaCw7
namespace Go.Proofs.Yteefieidfgpijaa.CF
open Go.RowKit
attribute [local go_sem] run_store_float

/-- May there be so many more steps? -/
def okS (f s m : Int) : Bool := decide (1 ≤ s) && bw f && (decide (m = 0) || decide (s ≤ (9999999999999 - f) / m))
set_option maxHeartbeats 1000000 in
theorem mayStep_any (f s m : Int) (hm0 : 0 ≤ m) (hm : m ≤ 63) (w : World) : Calls Try.prog 24 #[.int .i64 f, .int .i64 s, .int .i64 m] w fun e w' => e = .returned (.bool (okS f s m)) ∧ w' = w := by
  have hwi := within_any f w
  unfold okS
  by_cases h1 : 1 ≤ s
  · have h1' : ¬ s < 1 := by omega
    rw [decide_eq_true h1, Bool.true_and]
    by_cases h2 : -9999999999999 ≤ f ∧ f ≤ 9999999999999
    · have hb : bw f = true := by unfold bw; exact decide_eq_true h2
      rw [hb] at hwi
      rw [hb, Bool.true_and]
      by_cases h3 : m = 0
      · subst h3
        go_enter Try.func24, Try.ntmps24
        go_wp2_with (go_at_call 40; refine hwi.mono ?_; rintro _ w1 ⟨rfl, hw1⟩; subst w1)
        go_ret
        exact ⟨rfl, rfl⟩
      · have h3' : (m == 0) = false := beq_eq_false_iff_ne.2 h3
        have hq : (9999999999999 - f).tdiv m = (9999999999999 - f) / m := Int.tdiv_eq_ediv_of_nonneg (by omega)
        have hq0 : 0 ≤ (9999999999999 - f) / m := Int.ediv_nonneg (by omega) hm0
        have hq1 : (9999999999999 - f) / m ≤ 20000000000000 := Int.le_trans (Int.ediv_le_self _ (by omega)) (by omega)
        rw [decide_eq_false h3, Bool.false_or]
        obtain ⟨q, hqe⟩ : ∃ q, q = (9999999999999 - f) / m := ⟨_, rfl⟩
        rw [← hqe] at hq hq0 hq1 ⊢
        have hqe2 : (9999999999999 - f) / m = q := hqe.symm
        clear hqe hb
        go_enter Try.func24, Try.ntmps24
        go_wp2_with (go_at_call 40; refine hwi.mono ?_; rintro _ w1 ⟨rfl, hw1⟩; subst w1)
        go_ret
        exact ⟨rfl, rfl⟩
    · have hb : bw f = false := by unfold bw; exact decide_eq_false h2
      rw [hb] at hwi
      rw [hb, Bool.false_and]
      go_enter Try.func24, Try.ntmps24
      go_wp2_with (go_at_call 40; refine hwi.mono ?_; rintro _ w1 ⟨rfl, hw1⟩; subst w1)
      go_ret
      exact ⟨rfl, rfl⟩
  · have h1' : s < 1 := by omega
    rw [decide_eq_false h1, Bool.false_and, Bool.false_and]
    go_enter Try.func24, Try.ntmps24
    go_wp2
    go_ret
    exact ⟨rfl, rfl⟩
/-- The numbers that are asked for. -/
def xsL (f s : Int) (n : Nat) : List Int := (List.range n).map fun (i : Nat) => f + (i : Int) * s
theorem xsL_snoc (f s : Int) (n : Nat) : xsL f s (n + 1) = xsL f s n ++ [f + (n : Int) * s] := by unfold xsL; rw [List.range_succ, List.map_append]; rfl
theorem xsL_len (f s : Int) (n : Nat) : (xsL f s n).length = n := by simp [xsL]
theorem okS_bounds {f s m : Int} (h : okS f s m = true) (hm0 : 0 ≤ m) : (1 ≤ s ∧ -9999999999999 ≤ f ∧ f ≤ 9999999999999) ∧ (∀ k : Int, 0 ≤ k → k ≤ m → 0 ≤ k * s ∧ k * s ≤ 9999999999999 - f) := by
  unfold okS at h
  rw [Bool.and_eq_true, Bool.and_eq_true, Bool.or_eq_true] at h
  obtain ⟨⟨h1, h2⟩, h3⟩ := h
  have h1 := of_decide_eq_true h1
  have h2 : -9999999999999 ≤ f ∧ f ≤ 9999999999999 := of_decide_eq_true h2
  refine ⟨⟨h1, h2⟩, fun k hk0 hkm => ⟨Int.mul_nonneg hk0 (by omega), ?_⟩⟩
  rcases h3 with h3 | h3
  · have h3 : m = 0 := of_decide_eq_true h3
    have : k = 0 := by omega
    subst this
    rw [Int.zero_mul]
    omega
  · have h3 : s ≤ (9999999999999 - f) / m := of_decide_eq_true h3
    by_cases hm : m = 0
    · have : k = 0 := by omega
      subst this
      rw [Int.zero_mul]
      omega
    · have h4 : m * s ≤ m * ((9999999999999 - f) / m) := Int.mul_le_mul_of_nonneg_left h3 hm0
      have h5 : m * ((9999999999999 - f) / m) ≤ 9999999999999 - f := Int.mul_ediv_self_le hm
      have h6 : k * s ≤ m * s := Int.mul_le_mul_of_nonneg_right hkm (by omega)
      omega
end Go.Proofs.Yteefieidfgpijaa.CF
