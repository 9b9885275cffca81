import Derived.Test.YteefieidfgpijaaCw2
namespace Go.Proofs.Yteefieidfgpijaa.CF
open Go.RowKit

theorem neg_any (a : Nat) (h : a < 4294967296) (w : World) : Calls Try.prog 51 #[.int .u32 (a : Int)] w fun e w' => e = .returned (.int .u32 (negN a : Int)) ∧ w' = w := by
  by_cases h1 : 2147483648 ≤ a
  · have h2 : (2147483648 : Int) ≤ (a : Int) := by omega
    have h3 : (a : Int) - 2147483648 = (negN a : Int) := by unfold negN; rw [if_pos h1]; omega
    go_enter Try.func51, Try.ntmps51
    go_wp2
    go_ret
    exact ⟨rfl, rfl⟩
  · have h2 : ¬ (2147483648 : Int) ≤ (a : Int) := by omega
    have h3 : (a : Int) + 2147483648 = (negN a : Int) := by unfold negN; rw [if_neg h1]; omega
    go_enter Try.func51, Try.ntmps51
    go_wp2
    go_ret
    exact ⟨rfl, rfl⟩
theorem bitsN_le63 {m : Nat} (h : m < 9223372036854775808) : bitsN m ≤ 63 := by
  unfold bitsN
  split
  · omega
  · rename_i h0
    have := (Nat.log2_lt h0 (k := 63)).2 (by omega)
    omega
/-- rounded, for a number of at most 63 bits that is told as a whole number. -/
theorem round_int (minus : Bool) (z : Int) (m : Nat) (hz : z = (m : Int)) (e : Int) (more : Bool) (hm : m < 9223372036854775808) (he : -1000 ≤ e ∧ e ≤ 1000) (w : World) : Calls Try.prog 59 #[.bool minus, .int .u64 z, .int .i64 e, .bool more] w fun en w' => en = .returned (.int .u32 (rnd minus m e more : Int)) ∧ w' = w := by
  subst hz
  exact rounded_any minus m e more (by omega) he (fun _ h => by have := bitsN_le63 hm; omega) w
def yN (d : Int) (bm : Nat) : Nat := if d ≤ 38 then bm * 2 ^ (38 - d).toNat else if d - 38 < 30 then bm / 2 ^ (d - 38).toNat else 0
def moN (d : Int) (bm : Nat) : Bool := if d ≤ 38 then false else if d - 38 < 30 then decide (0 < bm % 2 ^ (d - 38).toNat) else decide (0 < bm)
def addG (s t : Bool) (x y : Nat) (e : Int) (mo : Bool) : Nat := if s = t then rnd s (x + y) e mo else if x = y ∧ mo = false then 0 else if y ≤ x then (if mo = true then rnd s (x - y - 1) e true else rnd s (x - y) e false) else rnd t (y - x) e false
theorem addF_G (sa : Bool) (am : Nat) (ae : Int) (sb : Bool) (bm : Nat) (be : Int) : addF sa am ae sb bm be = addG sa sb (am * 2 ^ 38) (yN (ae - be) bm) (ae - 38) (moN (ae - be) bm) := rfl
theorem yN_lt {d : Int} {bm : Nat} (h0 : 0 ≤ d) (h : bm < 16777216) : yN d bm < 4611686018427387904 := by
  unfold yN
  split
  · have h1 : bm * 2 ^ (38 - d).toNat ≤ bm * 2 ^ 38 := Nat.mul_le_mul_left _ (Nat.pow_le_pow_right (by omega) (by omega))
    omega
  · split
    · exact Nat.lt_of_le_of_lt (Nat.div_le_self _ _) (by omega)
    · omega
set_option maxRecDepth 100000 in
set_option maxHeartbeats 2000000 in
theorem add_any (a b : Nat) (ha : a < 4294967296) (hb : b < 4294967296) (w : World) : Calls Try.prog 52 #[.int .u32 (a : Int), .int .u32 (b : Int)] w fun e w' => e = .returned (.int .u32 (addN a b : Int)) ∧ w' = w := by
  obtain ⟨Q, hQ⟩ : ∃ Q : Ending → World → Prop, Q = fun en w' => en = .returned (.int .u32 (addN a b : Int)) ∧ w' = w := ⟨_, rfl⟩
  have hfin : Hid (∀ x : Int, x = (addN a b : Int) → Q (.returned (.int .u32 x)) w) := ⟨fun x hx => by rw [hQ, hx]; exact ⟨rfl, rfl⟩⟩
  rw [← hQ]
  clear hQ
  have n1 := nan_any a w
  have n2 := nan_any b w
  have f1 := finite_any a w
  have f2 := finite_any b w
  have p1 := parts_any a ha w
  have p2 := parts_any b hb w
  obtain ⟨na, hna⟩ : ∃ x : Bool, x = decide (2139095040 < a % 2147483648) := ⟨_, rfl⟩
  obtain ⟨nb, hnb⟩ : ∃ x : Bool, x = decide (2139095040 < b % 2147483648) := ⟨_, rfl⟩
  obtain ⟨fa, hfa⟩ : ∃ x : Bool, x = decide (a % 2147483648 < 2139095040) := ⟨_, rfl⟩
  obtain ⟨fb, hfb⟩ : ∃ x : Bool, x = decide (b % 2147483648 < 2139095040) := ⟨_, rfl⟩
  rw [← hna] at n1
  rw [← hnb] at n2
  rw [← hfa] at f1
  rw [← hfb] at f2
  obtain ⟨A, hA⟩ : ∃ p : Int, p = (a : Int) := ⟨_, rfl⟩
  obtain ⟨B, hB⟩ : ∃ q : Int, q = (b : Int) := ⟨_, rfl⟩
  rw [← hA] at n1 f1 p1 ⊢
  rw [← hB] at n2 f2 p2 ⊢
  replace hA := Hid.mk hA
  replace hB := Hid.mk hB
  replace hna := Hid.mk hna
  replace hnb := Hid.mk hnb
  replace hfa := Hid.mk hfa
  replace hfb := Hid.mk hfb
  go_enter Try.func52, Try.ntmps52
  go_wp2_with (go_at_call 39; fail)
  refine n1.mono ?_
  rintro _ w1 ⟨rfl, hw1⟩
  subst w1
  clear n1
  go_wp2_with (go_at_call 39; fail)
  refine n2.mono ?_
  rintro _ w1 ⟨rfl, hw1⟩
  subst w1
  clear n2
  go_wp2_with (go_at_call 47; fail)
  refine f1.mono ?_
  rintro _ w1 ⟨rfl, hw1⟩
  subst w1
  clear f1
  go_wp2_with (go_at_call 47; fail)
  refine f2.mono ?_
  rintro _ w1 ⟨rfl, hw1⟩
  subst w1
  clear f2
  cases na with
  | true =>
    have hf := hfin.out 2143289344 (by unfold addN; rw [if_pos (.inl (.inl (of_decide_eq_true hna.out.symm)))]; rfl)
    clear p1 p2
    go_wp2
    exact hf
  | false =>
  cases nb with
  | true =>
    have hf := hfin.out 2143289344 (by unfold addN; rw [if_pos (.inl (.inr (of_decide_eq_true hnb.out.symm)))]; rfl)
    clear p1 p2
    go_wp2
    exact hf
  | false =>
  have hna' := of_decide_eq_false hna.out.symm
  have hnb' := of_decide_eq_false hnb.out.symm
  cases fa with
  | false =>
    have hfa' := of_decide_eq_false hfa.out.symm
    cases fb with
    | false =>
      have hfb' := of_decide_eq_false hfb.out.symm
      by_cases hab : a = b
      · have hf := hfin.out A (by unfold addN; rw [if_neg (by omega), if_pos hfa', hA.out])
        have hAB : (A != B) = false := by rw [hA.out, hB.out, hab]; simp
        clear p1 p2 hna' hnb' hfa' hfb' hab
        go_wp2
        exact hf
      · have hf := hfin.out 2143289344 (by unfold addN; rw [if_pos (.inr ⟨hfa', hfb', hab⟩)]; rfl)
        have hAB : (A != B) = true := by rw [hA.out, hB.out]; simp; omega
        clear p1 p2 hna' hnb' hfa' hfb' hab
        go_wp2
        exact hf
    | true =>
      have hfb' := of_decide_eq_true hfb.out.symm
      have hf := hfin.out A (by unfold addN; rw [if_neg (by omega), if_pos hfa', hA.out])
      clear p1 p2 hna' hnb' hfa' hfb'
      go_wp2
      exact hf
  | true =>
  have hfa' := of_decide_eq_true hfa.out.symm
  cases fb with
  | false =>
    have hfb' := of_decide_eq_false hfb.out.symm
    have hf := hfin.out B (by unfold addN; rw [if_neg (by omega), if_neg (by omega), if_pos hfb', hB.out])
    clear p1 p2 hna' hnb' hfa' hfb'
    go_wp2
    exact hf
  | true =>
  have hfb' := of_decide_eq_true hfb.out.symm
  have hfin2 : Hid (∀ x : Int, x = (swapF (pS a) (pM a) (pE a) (pS b) (pM b) (pE b) : Int) → Q (.returned (.int .u32 x)) w) := ⟨fun x hx => hfin.out x (by rw [hx]; unfold addN; rw [if_neg (by omega), if_neg (by omega), if_neg (by omega)])⟩
  have hE : Hid ((-149 ≤ pE a ∧ pE a ≤ 105) ∧ (-149 ≤ pE b ∧ pE b ≤ 105)) := ⟨⟨pE_le a, pE_hi hfa'⟩, pE_le b, pE_hi hfb'⟩
  clear hfin hna' hnb' hfa' hfb' hna hnb hfa hfb
  have sM1 := pM_lt a
  have sM2 := pM_lt b
  have nM1 := Hid.mk (pM_norm (b := a))
  have nM2 := Hid.mk (pM_norm (b := b))
  generalize pS a = S1 at *
  generalize pS b = S2 at *
  generalize pM a = M1 at *
  generalize pM b = M2 at *
  generalize pE a = E1 at *
  generalize pE b = E2 at *
  go_wp2_with (go_at_call 58; fail)
  refine p1.mono ?_
  rintro _ w1 ⟨rfl, hw1⟩
  subst w1
  clear p1
  go_wp2_with (go_at_call 58; fail)
  refine p2.mono ?_
  rintro _ w1 ⟨rfl, hw1⟩
  subst w1
  clear p2
  go_upto_if 69 with fail
  go_cut [9, 10, 11, 12, 13, 14] (fun v9 v10 v11 v12 v13 v14 wx => ∃ (s t : Bool) (m n : Nat) (i j : Int), v9 = .bool s ∧ v10 = .int .u64 (m : Int) ∧ v11 = .int .i64 i ∧ v12 = .bool t ∧ v13 = .int .u64 (n : Int) ∧ v14 = .int .i64 j ∧ wx = w ∧ swapF S1 M1 E1 S2 M2 E2 = addF s m i t n j ∧ j ≤ i ∧ m < 16777216 ∧ n < 16777216 ∧ -149 ≤ j ∧ i ≤ 105 ∧ (j < i → 8388608 ≤ m))
  case first =>
    by_cases hlt : E1 < E2
    · have hrel : Hid (swapF S1 M1 E1 S2 M2 E2 = addF S2 M2 E2 S1 M1 E1 ∧ E1 ≤ E2 ∧ -149 ≤ E1 ∧ E2 ≤ 105) := ⟨by unfold swapF; rw [if_pos hlt], by omega, hE.out.1.1, hE.out.2.2⟩
      go_wp2
      go_meet
      exact ⟨S2, S1, M2, M1, E2, E1, rfl, rfl, rfl, rfl, rfl, rfl, rfl, hrel.out.1, hrel.out.2.1, sM2, sM1, hrel.out.2.2.1, hrel.out.2.2.2, fun h => nM2.out (by have := hE.out.1.1; omega)⟩
    · have hrel : Hid (swapF S1 M1 E1 S2 M2 E2 = addF S1 M1 E1 S2 M2 E2 ∧ E2 ≤ E1 ∧ -149 ≤ E2 ∧ E1 ≤ 105) := ⟨by unfold swapF; rw [if_neg hlt], by omega, hE.out.2.1, hE.out.1.2⟩
      go_wp2
      go_meet
      exact ⟨S1, S2, M1, M2, E1, E2, rfl, rfl, rfl, rfl, rfl, rfl, rfl, hrel.out.1, hrel.out.2.1, sM1, sM2, hrel.out.2.2.1, hrel.out.2.2.2, fun h => nM1.out (by have := hE.out.2.1; omega)⟩
  case rest =>
  obtain ⟨s, t, m, n, i, j, rfl, rfl, rfl, rfl, rfl, rfl, hwc, hsw, hji, hm, hn, hj, hi, hnm⟩ := hcut
  replace hnm := Hid.mk hnm
  subst wc
  rw [addF_G] at hsw
  obtain ⟨Y, hY⟩ : ∃ Y : Nat, Y = yN (i - j) n := ⟨_, rfl⟩
  obtain ⟨mo, hmo⟩ : ∃ mo : Bool, mo = moN (i - j) n := ⟨_, rfl⟩
  have hYl : Y < 4611686018427387904 := by rw [hY]; exact yN_lt (by omega) hn
  rw [← hY, ← hmo] at hsw
  have hfin3 : Hid (∀ x : Int, x = (addG s t (m * 2 ^ 38) Y (i - 38) mo : Int) → Q (.returned (.int .u32 x)) w) := ⟨fun x hx => hfin2.out x (by rw [hx, hsw])⟩
  replace hY := Hid.mk hY
  replace hmo := Hid.mk hmo
  clear hfin2 hsw sM1 sM2 nM1 nM2 hE
  go_upto_if 83 with fail
  go_cut [16, 17] (fun v16 v17 wx => v16 = .int .u64 (Y : Int) ∧ v17 = .bool mo ∧ wx = w)
  case first =>
    by_cases hd : i - j ≤ 38
    · have hy : IntKind.u64.wrap ((n : Int) * 2 ^ (38 - (i - j)).toNat) = (Y : Int) := by
        have e : ((n : Int) * 2 ^ (38 - (i - j)).toNat) = (Y : Int) := by rw [hY.out]; unfold yN; rw [if_pos hd, Int.natCast_mul, Int.natCast_pow]; rfl
        rw [e]
        exact wrap_u64_of (by omega) (by omega)
      have hmf : Hid (false = mo) := ⟨by rw [hmo.out]; unfold moN; rw [if_pos hd]⟩
      go_wp2
      go_meet
      exact ⟨rfl, by rw [hmf.out], rfl⟩
    · by_cases hd2 : i - j - 38 < 30
      · obtain ⟨one, hone⟩ : ∃ one : Nat, one = 2 ^ (i - j - 38).toNat := ⟨_, rfl⟩
        have h1 : 1 ≤ one := by rw [hone]; exact Nat.two_pow_pos _
        have h2 : one ≤ 1073741824 := by rw [hone]; exact Nat.le_trans (Nat.pow_le_pow_right (by omega) (show (i - j - 38).toNat ≤ 30 by omega)) (by decide)
        have e1 : IntKind.u64.wrap (2 ^ (i - j - 38).toNat) = (one : Int) := by
          rw [show (2 : Int) ^ (i - j - 38).toNat = (one : Int) by rw [hone, Int.natCast_pow]; rfl]
          exact wrap_u64_of (by omega) (by omega)
        have e2 : IntKind.u64.wrap ((n : Int) / (one : Int)) = (Y : Int) := by
          rw [show (n : Int) / (one : Int) = (Y : Int) by rw [hY.out]; unfold yN; rw [if_neg hd, if_pos hd2, ← hone, Int.natCast_ediv]]
          exact wrap_u64_of (by omega) (by omega)
        have e3 : decide (0 < (n : Int) % (one : Int)) = mo := by
          rw [hmo.out]
          unfold moN
          rw [if_neg hd, if_pos hd2, ← hone, ← Int.natCast_emod]
          exact decide_eq_decide.2 (by omega)
        have h0 : (one : Int) ≠ 0 := by omega
        clear hone
        go_wp2
        go_meet
        exact ⟨rfl, rfl, rfl⟩
      · have e1 : Hid (Y = 0) := ⟨by rw [hY.out]; unfold yN; rw [if_neg hd, if_neg hd2]⟩
        have e2 : Hid (decide (0 < n) = mo) := ⟨by rw [hmo.out]; unfold moN; rw [if_neg hd, if_neg hd2]⟩
        go_wp2
        go_meet
        exact ⟨by rw [e1.out]; rfl, by rw [e2.out], rfl⟩
  case rest =>
  obtain ⟨rfl, rfl, hwc⟩ := hcut
  subst wc
  obtain ⟨X, hX⟩ : ∃ X : Nat, X = m * 2 ^ 38 := ⟨_, rfl⟩
  have hXI : (m : Int) * 274877906944 = (X : Int) := by rw [hX]; omega
  have hXl : X < 4611686018427387904 := by rw [hX]; omega
  rw [← hX] at hfin3
  have hmx : Hid (mo = true → X ≠ Y) := ⟨fun h e => by
    have hd : ¬ (i - j ≤ 38) := fun hd => by rw [hmo.out] at h; unfold moN at h; rw [if_pos hd] at h; cases h
    have h8 := hnm.out (by omega)
    have hYn : Y ≤ n := by
      rw [hY.out]
      unfold yN
      rw [if_neg hd]
      split
      · exact Nat.div_le_self _ _
      · omega
    omega⟩
  clear hX
  go_upto_if 109 with fail
  rw [hXI]
  clear hXI hY hmo hm hn
  by_cases hst : s = t
  · have hf := hfin3.out (rnd s (X + Y) (i - 38) mo) (by unfold addG; rw [if_pos hst])
    have hr := round_int s ((X : Int) + (Y : Int)) (X + Y) (by omega) (i - 38) mo (by omega) (by omega) w
    subst hst
    clear hfin3
    cases s <;> (go_wp2_with (go_at_call 59; refine hr.mono ?_; rintro _ w1 ⟨rfl, hw1⟩; subst w1); exact hf)
  · have hst2 : (s == t) = false := beq_eq_false_iff_ne.2 hst
    by_cases hxy : X = Y
    · cases mo with
      | false =>
        have hf := hfin3.out 0 (by unfold addG; rw [if_neg hst, if_pos ⟨hxy, rfl⟩]; rfl)
        have hxy2 : ((X : Int) == (Y : Int)) = true := beq_iff_eq.2 (by omega)
        clear hfin3 hxy
        cases s <;> cases t <;> first | (exact absurd rfl hst) | (go_wp2; exact hf)
      | true => exact absurd hxy (hmx.out rfl)
    · have hxy2 : ((X : Int) == (Y : Int)) = false := beq_eq_false_iff_ne.2 (by omega)
      by_cases hle : Y ≤ X
      · have hle2 : (Y : Int) ≤ (X : Int) := by omega
        cases mo with
        | true =>
          have hf := hfin3.out (rnd s (X - Y - 1) (i - 38) true) (by unfold addG; rw [if_neg hst, if_neg (fun h => hxy h.1), if_pos hle, if_pos rfl])
          have hr := round_int s ((X : Int) - (Y : Int) - 1) (X - Y - 1) (by omega) (i - 38) true (by omega) (by omega) w
          have hlt : (Y : Int) < (X : Int) := by omega
          clear hfin3 hxy
          cases s <;> cases t <;> first | (exact absurd rfl hst) | (go_wp2_with (go_at_call 59; refine hr.mono ?_; rintro _ w1 ⟨rfl, hw1⟩; subst w1); exact hf)
        | false =>
          have hf := hfin3.out (rnd s (X - Y) (i - 38) false) (by unfold addG; rw [if_neg hst, if_neg (fun h => hxy h.1), if_pos hle, if_neg (by decide)])
          have hr := round_int s ((X : Int) - (Y : Int)) (X - Y) (by omega) (i - 38) false (by omega) (by omega) w
          clear hfin3 hxy
          cases s <;> cases t <;> first | (exact absurd rfl hst) | (go_wp2_with (go_at_call 59; refine hr.mono ?_; rintro _ w1 ⟨rfl, hw1⟩; subst w1); exact hf)
      · have hle2 : ¬ (Y : Int) ≤ (X : Int) := by omega
        have hf := hfin3.out (rnd t (Y - X) (i - 38) false) (by unfold addG; rw [if_neg hst, if_neg (fun h => hxy h.1), if_neg hle])
        have hr := round_int t ((Y : Int) - (X : Int)) (Y - X) (by omega) (i - 38) false (by omega) (by omega) w
        clear hfin3 hxy
        cases s <;> cases t <;> first | (exact absurd rfl hst) | (go_wp2_with (go_at_call 59; refine hr.mono ?_; rintro _ w1 ⟨rfl, hw1⟩; subst w1); exact hf)
end Go.Proofs.Yteefieidfgpijaa.CF
