import Derived.Test.YtjgkjdalnjlefaaPkQ4
namespace Go.Proofs.Ytjgkjdalnjlefaa
open Go.RowKit

theorem or_facts : bits .or .u8 0 1 = 1 ∧ bits .or .u8 0 2 = 2 ∧ bits .or .u8 0 4 = 4 ∧ bits .or .u8 0 8 = 8 ∧ bits .or .u8 1 2 = 3 ∧ bits .or .u8 1 4 = 5 ∧ bits .or .u8 1 8 = 9 ∧ bits .or .u8 2 4 = 6 ∧ bits .or .u8 2 8 = 10 ∧ bits .or .u8 3 4 = 7 ∧ bits .or .u8 3 8 = 11 ∧ bits .or .u8 4 8 = 12 ∧ bits .or .u8 5 8 = 13 ∧ bits .or .u8 6 8 = 14 ∧ bits .or .u8 7 8 = 15 := by decide
set_option maxRecDepth 8000 in
set_option maxHeartbeats 4000000 in
theorem wfields_any (op num den mode : Int) (a : Option Addr) (n cap : Nat) (W : World) : Calls Try.prog 129 #[.agg #[.int .i64 op, .int .i64 num, .int .i64 den, .int .i64 mode, .slice a n cap]] W (fun e W' => e = .returned (.int .u8 (hasB num den mode n : Int)) ∧ W.grownBy W' none) := by
  have hg := World.grownBy_alloc W (.cells #[.int .i64 op, .int .i64 num, .int .i64 den, .int .i64 mode, .slice a n cap] 83) none
  obtain ⟨q1, q2, q3, q4, q5, q6, q7, q8, q9, q10, q11, q12, q13, q14, q15⟩ := or_facts
  by_cases h0 : num = 0
  · by_cases h1 : den = 0
    · by_cases h2 : mode = 0
      · by_cases h3 : n = 0
        · have hb : ((hasB num den mode n : Nat) : Int) = 0 := by unfold hasB; simp [h0, h1, h2, h3]
          rw [hb]
          clear hb
          subst h0
          subst h1
          subst h2
          subst h3
          go_enter Try.func129, Try.ntmps129
          go_wp2
          go_ret
          exact ⟨rfl, hg⟩
        · have hb : ((hasB num den mode n : Nat) : Int) = 8 := by unfold hasB; simp [h0, h1, h2, h3]
          rw [hb]
          clear hb
          subst h0
          subst h1
          subst h2
          have h3' : (0 : Int) < (n : Int) := by omega
          go_enter Try.func129, Try.ntmps129
          go_wp2
          go_ret
          exact ⟨rfl, hg⟩
      · by_cases h3 : n = 0
        · have hb : ((hasB num den mode n : Nat) : Int) = 4 := by unfold hasB; simp [h0, h1, h2, h3]
          rw [hb]
          clear hb
          subst h0
          subst h1
          subst h3
          go_enter Try.func129, Try.ntmps129
          go_wp2
          go_ret
          exact ⟨rfl, hg⟩
        · have hb : ((hasB num den mode n : Nat) : Int) = 12 := by unfold hasB; simp [h0, h1, h2, h3]
          rw [hb]
          clear hb
          subst h0
          subst h1
          have h3' : (0 : Int) < (n : Int) := by omega
          go_enter Try.func129, Try.ntmps129
          go_wp2
          go_ret
          exact ⟨rfl, hg⟩
    · by_cases h2 : mode = 0
      · by_cases h3 : n = 0
        · have hb : ((hasB num den mode n : Nat) : Int) = 2 := by unfold hasB; simp [h0, h1, h2, h3]
          rw [hb]
          clear hb
          subst h0
          subst h2
          subst h3
          go_enter Try.func129, Try.ntmps129
          go_wp2
          go_ret
          exact ⟨rfl, hg⟩
        · have hb : ((hasB num den mode n : Nat) : Int) = 10 := by unfold hasB; simp [h0, h1, h2, h3]
          rw [hb]
          clear hb
          subst h0
          subst h2
          have h3' : (0 : Int) < (n : Int) := by omega
          go_enter Try.func129, Try.ntmps129
          go_wp2
          go_ret
          exact ⟨rfl, hg⟩
      · by_cases h3 : n = 0
        · have hb : ((hasB num den mode n : Nat) : Int) = 6 := by unfold hasB; simp [h0, h1, h2, h3]
          rw [hb]
          clear hb
          subst h0
          subst h3
          go_enter Try.func129, Try.ntmps129
          go_wp2
          go_ret
          exact ⟨rfl, hg⟩
        · have hb : ((hasB num den mode n : Nat) : Int) = 14 := by unfold hasB; simp [h0, h1, h2, h3]
          rw [hb]
          clear hb
          subst h0
          have h3' : (0 : Int) < (n : Int) := by omega
          go_enter Try.func129, Try.ntmps129
          go_wp2
          go_ret
          exact ⟨rfl, hg⟩
  · by_cases h1 : den = 0
    · by_cases h2 : mode = 0
      · by_cases h3 : n = 0
        · have hb : ((hasB num den mode n : Nat) : Int) = 1 := by unfold hasB; simp [h0, h1, h2, h3]
          rw [hb]
          clear hb
          subst h1
          subst h2
          subst h3
          go_enter Try.func129, Try.ntmps129
          go_wp2
          go_ret
          exact ⟨rfl, hg⟩
        · have hb : ((hasB num den mode n : Nat) : Int) = 9 := by unfold hasB; simp [h0, h1, h2, h3]
          rw [hb]
          clear hb
          subst h1
          subst h2
          have h3' : (0 : Int) < (n : Int) := by omega
          go_enter Try.func129, Try.ntmps129
          go_wp2
          go_ret
          exact ⟨rfl, hg⟩
      · by_cases h3 : n = 0
        · have hb : ((hasB num den mode n : Nat) : Int) = 5 := by unfold hasB; simp [h0, h1, h2, h3]
          rw [hb]
          clear hb
          subst h1
          subst h3
          go_enter Try.func129, Try.ntmps129
          go_wp2
          go_ret
          exact ⟨rfl, hg⟩
        · have hb : ((hasB num den mode n : Nat) : Int) = 13 := by unfold hasB; simp [h0, h1, h2, h3]
          rw [hb]
          clear hb
          subst h1
          have h3' : (0 : Int) < (n : Int) := by omega
          go_enter Try.func129, Try.ntmps129
          go_wp2
          go_ret
          exact ⟨rfl, hg⟩
    · by_cases h2 : mode = 0
      · by_cases h3 : n = 0
        · have hb : ((hasB num den mode n : Nat) : Int) = 3 := by unfold hasB; simp [h0, h1, h2, h3]
          rw [hb]
          clear hb
          subst h2
          subst h3
          go_enter Try.func129, Try.ntmps129
          go_wp2
          go_ret
          exact ⟨rfl, hg⟩
        · have hb : ((hasB num den mode n : Nat) : Int) = 11 := by unfold hasB; simp [h0, h1, h2, h3]
          rw [hb]
          clear hb
          subst h2
          have h3' : (0 : Int) < (n : Int) := by omega
          go_enter Try.func129, Try.ntmps129
          go_wp2
          go_ret
          exact ⟨rfl, hg⟩
      · by_cases h3 : n = 0
        · have hb : ((hasB num den mode n : Nat) : Int) = 7 := by unfold hasB; simp [h0, h1, h2, h3]
          rw [hb]
          clear hb
          subst h3
          go_enter Try.func129, Try.ntmps129
          go_wp2
          go_ret
          exact ⟨rfl, hg⟩
        · have hb : ((hasB num den mode n : Nat) : Int) = 15 := by unfold hasB; simp [h0, h1, h2, h3]
          rw [hb]
          clear hb
          have h3' : (0 : Int) < (n : Int) := by omega
          go_enter Try.func129, Try.ntmps129
          go_wp2
          go_ret
          exact ⟨rfl, hg⟩

end Go.Proofs.Ytjgkjdalnjlefaa
