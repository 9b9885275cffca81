import Derived.Test.YteefieidfgpijaaCpU
import Derived.Test.YteefieidfgpijaaCw7
import Derived.Test.YteefieidfgpijaaCrC
namespace Go.Proofs.Yteefieidfgpijaa.CF
open Go.RowKit
attribute [local go_sem] run_store_float

theorem cut_zero (s : Bool) (n d : Nat) : Ieee.Toward.zero.cut s n d = n / 2 ^ d := by
  unfold Ieee.Toward.cut
  simp only [Bool.toNat_false, Nat.add_zero, Nat.shiftLeft_eq, Nat.one_mul]
  by_cases h : d ≤ n.log2 + 2
  · rw [Nat.min_eq_left h]
  · rw [Nat.min_eq_right (by omega)]
    have h1 : n < 2 ^ (n.log2 + 1) := Nat.lt_log2_self
    have h2 : 2 ^ (n.log2 + 1) ≤ 2 ^ (n.log2 + 2) := Nat.pow_le_pow_right (by decide) (by omega)
    have h3 : 2 ^ (n.log2 + 2) ≤ 2 ^ d := Nat.pow_le_pow_right (by decide) (by omega)
    rw [Nat.div_eq_of_lt (by omega), Nat.div_eq_of_lt (by omega)]
theorem part_eq {s : Nat} : pM s * 2 ^ (pE s).toNat / 2 ^ (-(pE s)).toNat = partN (s % 2147483648) := by
  unfold partN
  rw [← vR_eq s]
  have h1 := pE_le s
  by_cases h : 0 ≤ pE s
  · rw [show (-(pE s)).toNat = 0 by omega, Nat.pow_zero, Nat.div_one, show (pE s + 149).toNat = (pE s).toNat + 149 by omega, Nat.pow_add, ← Nat.mul_assoc, Nat.mul_div_cancel _ (Nat.two_pow_pos _)]
  · rw [show (pE s).toNat = 0 by omega, Nat.pow_zero, Nat.mul_one, show (149 : Nat) = (-(pE s)).toNat + (pE s + 149).toNat by omega, Nat.pow_add, Nat.mul_div_mul_right _ _ (Nat.two_pow_pos _)]
theorem toInt_part {s : Nat} (h : s < 2139095040) : (FloatKind.f32.decode s).toInt .zero = some ((partN s : Nat) : Int) := by
  show (Ieee.single.read s).toInt .zero = _
  rw [read_fin (by omega) (by omega)]
  unfold Ieee.Datum.toInt Ieee.Datum.integral
  simp only
  rw [cut_zero, Nat.shiftLeft_eq, part_eq, Nat.mod_eq_of_lt (by omega)]
  unfold Ieee.signed
  rw [show pS s = false from decide_eq_false (by omega), Nat.shiftLeft_zero, if_neg (by decide)]
theorem conv_part {s : Nat} (h : s < 2139095040) (hp : partN s ≤ 40) (w : World) : (convert 33 3 (.float .f32 s)).run Try.prog w = .ok (.int .i64 (partN s : Int)) w := by
  refine run_convert_float_int w 33 3 .f32 .i64 s _ (by rw [Try.underlying33]; rfl) (by rw [Try.underlying3]) ?_
  unfold floatToIntVal
  rw [toInt_part h]
  simp only
  rw [if_pos]
  refine ⟨?_, ?_⟩
  · show (-9223372036854775808 : Int) ≤ _
    omega
  · show _ ≤ (9223372036854775807 : Int)
    omega
theorem part_small {s : Nat} (h : s < 2139095040) (hp : partN s ≤ 40) : pE s < 0 ∧ (pE s < -40 → partN s = 0) ∧ pM s / 2 ^ (-(pE s)).toNat = partN s := by
  have e := part_eq (s := s)
  rw [Nat.mod_eq_of_lt (by omega)] at e
  have hm := pM_lt s
  have h0 : pE s < 0 := Int.not_le.1 (fun hc => by
    have hn := pM_norm (b := s) (by omega)
    rw [show (-(pE s)).toNat = 0 by omega, Nat.pow_zero, Nat.div_one] at e
    have := Nat.le_mul_of_pos_right (pM s) (Nat.two_pow_pos (pE s).toNat)
    omega)
  rw [show (pE s).toNat = 0 by omega, Nat.pow_zero, Nat.mul_one] at e
  refine ⟨h0, fun h4 => ?_, e⟩
  rw [← e]
  have h3 : 2 ^ 40 ≤ 2 ^ (-(pE s)).toNat := Nat.pow_le_pow_right (by decide) (by omega)
  exact Nat.div_eq_of_lt (by omega)
set_option maxHeartbeats 1000000 in
theorem part_any (s : Nat) (h : s < 2139095040) (hp : partN s ≤ 40) (w : World) : Calls Try.prog 57 #[.int .u32 (s : Int)] w fun e w' => e = .returned (.int .i64 (partN s : Int)) ∧ w' = w := by
  obtain ⟨h1, h2, h3⟩ := part_small h hp
  have hpa := parts_any s (by omega) w
  have hm := pM_lt s
  obtain ⟨r, hr⟩ : ∃ r : Int, r = (partN s : Int) := ⟨_, rfl⟩
  obtain ⟨m, hme⟩ : ∃ m : Int, m = (pM s : Int) := ⟨_, rfl⟩
  obtain ⟨q, hq⟩ : ∃ q : Int, q = (s : Int) := ⟨_, rfl⟩
  have hl := pE_le s
  have h3' : m / 2 ^ (-(pE s)).toNat = r := by
    rw [hr, hme, ← h3, Int.natCast_ediv, Int.natCast_pow]
    rfl
  have hr0 : 0 ≤ r ∧ r ≤ 40 := by omega
  have h2' : pE s < -40 → Hid (r = 0) := fun hc => ⟨by rw [hr, h2 hc]; rfl⟩
  rw [← hr, ← hq]
  rw [← hme, ← hq] at hpa
  clear hr hq h2 h3 h hp
  generalize pE s = e at *
  generalize pS s = b at *
  have hm2 : 0 ≤ m ∧ m < 16777216 := by omega
  clear hm hme
  have hne : ¬ 0 ≤ e := by omega
  by_cases h4 : e < -40
  · have h5 := h2' h4
    go_enter Try.func57, Try.ntmps57
    go_wp2_with (go_at_call 58; refine hpa.mono ?_; rintro _ w1 ⟨rfl, hw1⟩; subst w1)
    go_ret
    exact ⟨by rw [h5.out]; rfl, rfl⟩
  · clear h2'
    go_enter Try.func57, Try.ntmps57
    go_wp2_with (go_at_call 58; refine hpa.mono ?_; rintro _ w1 ⟨rfl, hw1⟩; subst w1)
    go_ret
    exact ⟨rfl, rfl⟩
end Go.Proofs.Yteefieidfgpijaa.CF
