import Derived.Test.YteefieidfgpijaaCw4
namespace Go.Proofs.Yteefieidfgpijaa.CF
open Go.RowKit

theorem sub_any (a b : Nat) (ha : a < 4294967296) (hb : b < 4294967296) (w : World) : Calls Try.prog 46 #[.int .u32 (a : Int), .int .u32 (b : Int)] w fun e w' => e = .returned (.int .u32 (subN a b : Int)) ∧ w' = w := by
  have h1 := neg_any b hb w
  have h2 := add_any a (negN b) ha (negN_lt hb) w
  change Calls _ _ _ _ (fun e w' => e = .returned (.int .u32 (subN a b : Int)) ∧ w' = w) at h2
  generalize subN a b = r at *
  generalize negN b = n at *
  go_enter Try.func46, Try.ntmps46
  go_wp2_with (first | (go_at_call 51; refine h1.mono ?_; rintro _ w1 ⟨rfl, hw1⟩; subst w1) | (go_at_call 52; refine h2.mono ?_; rintro _ w1 ⟨rfl, hw1⟩; subst w1))
  go_ret
  exact ⟨rfl, rfl⟩
set_option maxHeartbeats 1000000 in
theorem mul_any (a b : Nat) (ha : a < 4294967296) (hb : b < 4294967296) (h1 : a % 2147483648 < 2139095040) (h2 : b % 2147483648 < 2139095040) (w : World) : Calls Try.prog 56 #[.int .u32 (a : Int), .int .u32 (b : Int)] w fun e w' => e = .returned (.int .u32 (mulN a b : Int)) ∧ w' = w := by
  have p1 := parts_any a ha w
  have p2 := parts_any b hb w
  have m1 := pM_lt a
  have m2 := pM_lt b
  have e1 := pE_le a
  have e2 := pE_le b
  have e3 := pE_hi h1
  have e4 := pE_hi h2
  have hlt : pM a * pM b < 281474976710656 := Nat.lt_of_le_of_lt (Nat.mul_le_mul (Nat.le_of_lt_succ m1) (Nat.le_of_lt_succ m2)) (by decide)
  have hr := round_int (pS a != pS b) ((pM a : Int) * (pM b : Int)) (pM a * pM b) (by rw [Int.natCast_mul]) (pE a + pE b) false (by omega) (by omega) w
  change Calls _ _ _ _ (fun e w' => e = .returned (.int .u32 (mulN a b : Int)) ∧ w' = w) at hr
  have hw : IntKind.u64.wrap ((pM a : Int) * (pM b : Int)) = (pM a : Int) * (pM b : Int) := by
    rw [← Int.natCast_mul]
    exact wrap_u64_of (by omega) (by omega)
  clear h1 h2 hlt m1 m2
  generalize mulN a b = r at *
  generalize pS a = s1 at *
  generalize pS b = s2 at *
  generalize pE a = x at *
  generalize pE b = y at *
  obtain ⟨M, hM⟩ : ∃ M : Int, M = (pM a : Int) * (pM b : Int) := ⟨_, rfl⟩
  rw [← hM] at hr
  rw [← hM] at hw
  obtain ⟨u, hu⟩ : ∃ u : Int, u = (pM a : Int) := ⟨_, rfl⟩
  obtain ⟨v, hv⟩ : ∃ v : Int, v = (pM b : Int) := ⟨_, rfl⟩
  rw [← hu] at hM p1
  rw [← hv] at hM p2
  have hM2 : u * v = M := hM.symm
  clear hu hv hM
  obtain ⟨P, hP⟩ : ∃ p : Int, p = (a : Int) := ⟨_, rfl⟩
  obtain ⟨R, hR⟩ : ∃ p : Int, p = (b : Int) := ⟨_, rfl⟩
  rw [← hP] at p1 ⊢
  rw [← hR] at p2 ⊢
  clear hP hR ha hb
  go_enter Try.func56, Try.ntmps56
  go_wp2_with (go_at_call 58; fail)
  refine p1.mono ?_
  rintro _ w1 ⟨rfl, hw1⟩
  subst w1
  clear p1
  go_wp2_with (go_at_call 58; fail)
  refine p2.mono ?_
  rintro _ w1 ⟨rfl, hw1⟩
  subst w1
  clear p2
  go_wp2_with (go_at_call 59; refine hr.mono ?_; rintro _ w1 ⟨rfl, hw1⟩; subst w1)
  go_ret
  exact ⟨rfl, rfl⟩
theorem pad_iff {m : Nat} (h0 : m ≠ 0) (h : m < 16777216) (k : Nat) : m * 2 ^ k < 8388608 ↔ k < padN m := by
  have hl : m.log2 ≤ 23 := by have := (Nat.log2_lt h0 (k := 24)).2 (by omega); omega
  have h1 : m * 2 ^ k ≠ 0 := Nat.mul_ne_zero h0 (by have := Nat.two_pow_pos k; omega)
  have h2 := Nat.log2_lt h1 (k := 23)
  rw [log2_scale h0] at h2
  unfold padN
  constructor
  · intro h3
    have := h2.2 (by omega)
    omega
  · intro h3
    have := h2.1 (by omega)
    omega
theorem pad_lt {m : Nat} (h : m < 16777216) : m * 2 ^ padN m < 16777216 := by
  by_cases h0 : m = 0
  · subst h0; simp
  · have hl : m.log2 ≤ 23 := by have := (Nat.log2_lt h0 (k := 24)).2 (by omega); omega
    have h1 : m * 2 ^ padN m < 2 ^ (m.log2 + 1) * 2 ^ padN m := Nat.mul_lt_mul_of_pos_right Nat.lt_log2_self (Nat.two_pow_pos _)
    rw [← Nat.pow_add, show m.log2 + 1 + padN m = 24 by unfold padN; omega] at h1
    omega
set_option maxRecDepth 100000 in
set_option maxHeartbeats 2000000 in
theorem div_any (a b : Nat) (ha : a < 4294967296) (hb : b < 4294967296) (h2 : b % 2147483648 < 2139095040) (h0 : pM b ≠ 0) (w : World) : Calls Try.prog 54 #[.int .u32 (a : Int), .int .u32 (b : Int)] w fun e w' => e = .returned (.int .u32 (divN a b : Int)) ∧ Below w.heap.size w w' := by
  obtain ⟨Q, hQ⟩ : ∃ Q : Ending → World → Prop, Q = fun en w' => en = .returned (.int .u32 (divN a b : Int)) ∧ Below w.heap.size w w' := ⟨_, rfl⟩
  have hfin : Hid (∀ (x : Int) (X : World), x = (divN a b : Int) → Below w.heap.size w X → Q (.returned (.int .u32 x)) X) := ⟨fun x X hx hX => by rw [hQ, hx]; exact ⟨rfl, hX⟩⟩
  rw [← hQ]
  clear hQ
  have f1 := finite_any a w
  have n1 := nan_any a w
  have p1 := parts_any a ha w
  have p2 := parts_any b hb w
  have hsA : decide (2147483648 ≤ (a : Int)) = pS a := by unfold pS; exact decide_eq_decide.2 (by omega)
  have hsB : decide (2147483648 ≤ (b : Int)) = pS b := by unfold pS; exact decide_eq_decide.2 (by omega)
  by_cases hfa : a % 2147483648 < 2139095040
  rotate_left
  · rw [decide_eq_false hfa] at f1
    clear p1 p2
    by_cases hna : 2139095040 < a % 2147483648
    · rw [decide_eq_true hna] at n1
      have hf := hfin.out 2143289344 w (by unfold divN; rw [if_pos hfa, if_pos hna]; rfl) (Below.refl _ _)
      clear hfin hsA hsB
      go_enter Try.func54, Try.ntmps54
      go_wp2_with (first | (go_at_call 47; refine f1.mono ?_; rintro _ w1 ⟨rfl, hw1⟩; subst w1) | (go_at_call 39; refine n1.mono ?_; rintro _ w1 ⟨rfl, hw1⟩; subst w1))
      exact hf
    · rw [decide_eq_false hna] at n1
      have hf := hfin.out (wd (pS a != pS b) 2139095040) w (by unfold divN; rw [if_pos hfa, if_neg hna]) (Below.refl _ _)
      have hsg := signed_any (pS a != pS b) 2139095040 (by decide) w
      clear hfin hna hfa h2
      generalize pS a = s1 at *
      generalize pS b = s2 at *
      go_enter Try.func54, Try.ntmps54
      go_wp2_with (first | (go_at_call 47; refine f1.mono ?_; rintro _ w1 ⟨rfl, hw1⟩; subst w1) | (go_at_call 39; refine n1.mono ?_; rintro _ w1 ⟨rfl, hw1⟩; subst w1) | (go_at_call 60; refine hsg.mono ?_; rintro _ w1 ⟨rfl, hw1⟩; subst w1))
      exact hf
  · rw [decide_eq_true hfa] at f1
    have m1 := pM_lt a
    have m2 := pM_lt b
    have hE : Hid ((-149 ≤ pE a ∧ pE a ≤ 105) ∧ -149 ≤ pE b ∧ pE b ≤ 105) := ⟨⟨pE_le a, pE_hi hfa⟩, pE_le b, pE_hi h2⟩
    have hf0 : Hid (pM a = 0 → Q (.returned (.int .u32 (wd (pS a != pS b) 0 : Int))) w) := ⟨fun h => hfin.out _ w (by unfold divN; rw [if_neg (by omega), if_pos h]) (Below.refl _ _)⟩
    have hf1 : Hid (pM a ≠ 0 → ∀ X, Below w.heap.size w X → Q (.returned (.int .u32 (rnd (pS a != pS b) (pM a * 2 ^ padN (pM a) * 2 ^ 38 / (pM b * 2 ^ padN (pM b))) (pE a - padN (pM a) - (pE b - padN (pM b)) - 38) (decide (0 < pM a * 2 ^ padN (pM a) * 2 ^ 38 % (pM b * 2 ^ padN (pM b)))) : Int))) X) := ⟨fun h X hX => hfin.out _ X (by unfold divN; rw [if_neg (by omega), if_neg h]) hX⟩
    clear hfin n1 hfa h2 hsA hsB
    generalize pS a = S1 at *
    generalize pS b = S2 at *
    generalize pM a = M1 at *
    generalize pM b = M2 at *
    generalize pE a = E1 at *
    generalize pE b = E2 at *
    obtain ⟨P, hP⟩ : ∃ p : Int, p = (a : Int) := ⟨_, rfl⟩
    obtain ⟨R, hR⟩ : ∃ p : Int, p = (b : Int) := ⟨_, rfl⟩
    rw [← hP] at p1 f1 ⊢
    rw [← hR] at p2 ⊢
    clear hP hR ha hb
    go_enter Try.func54, Try.ntmps54
    go_wp2_with (first | (go_at_call 47; refine f1.mono ?_; rintro _ w1 ⟨rfl, hw1⟩; subst w1) | (go_at_call 58; fail))
    refine p1.mono ?_
    rintro _ w1 ⟨rfl, hw1⟩
    subst w1
    clear p1 f1
    go_wp2_with (go_at_call 58; fail)
    refine p2.mono ?_
    rintro _ w1 ⟨rfl, hw1⟩
    subst w1
    clear p2
    by_cases hM : M1 = 0
    · have hf := hf0.out hM
      have hsg := signed_any (S1 != S2) 0 (by decide) w
      have hM2 : ((M1 : Int) == 0) = true := beq_iff_eq.2 (by omega)
      clear hf0 hf1 hM
      go_wp2_with (go_at_call 60; refine hsg.mono ?_; rintro _ w1 ⟨rfl, hw1⟩; subst w1)
      exact hf
    · have hM2 : ((M1 : Int) == 0) = false := beq_eq_false_iff_ne.2 (by omega)
      have hf := Hid.mk (hf1.out hM)
      have hpl := pad_lt m1
      have hpl2 := pad_lt m2
      have hpi := Hid.mk (pad_iff hM m1)
      have hpi2 := Hid.mk (pad_iff h0 m2)
      have hpb : Hid (padN M1 ≤ 23 ∧ padN M2 ≤ 23) := ⟨by unfold padN; omega, by unfold padN; omega⟩
      have hpos : Hid (8388608 ≤ M2 * 2 ^ padN M2) := ⟨Nat.le_of_not_lt (fun h => absurd ((pad_iff h0 m2 _).1 h) (by omega))⟩
      replace hpl := Hid.mk hpl
      replace hpl2 := Hid.mk hpl2
      clear hf0 hf1 hM
      go_wp2
      go_loopw [8, 9] (fun v8 v9 wr => ∃ k : Nat, k ≤ padN M1 ∧ v8 = .int .u64 ((M1 * 2 ^ k : Nat) : Int) ∧ v9 = .int .i64 (E1 - (k : Int)) ∧ wr = w) (fun _ v9 _ => (intOf v9 - (E1 - (padN M1 : Int))).toNat)
      case atStart => exact ⟨0, Nat.zero_le _, by rw [Nat.pow_zero, Nat.mul_one], by simp, rfl⟩
      case round =>
        obtain ⟨k, hk, rfl, rfl, hwr⟩ := hrel
        subst wr
        obtain ⟨Z, hZ⟩ : ∃ Z : Nat, Z = M1 * 2 ^ k := ⟨_, rfl⟩
        rw [← hZ]
        by_cases hlt : Z < 8388608
        · have hlt2 : (Z : Int) < 8388608 := by omega
          have hkp : k < padN M1 := (hpi.out k).1 (by rw [← hZ]; exact hlt)
          have hEk : Hid (-200 ≤ E1 - (k : Int) ∧ E1 - (k : Int) ≤ 200) := ⟨by have := hE.out; have := hpb.out; omega⟩
          have hEk2 := hEk.out
          replace hZ := Hid.mk hZ
          go_wp2
          go_roundw
          case rel => exact ⟨k + 1, by omega, by rw [Nat.pow_succ, ← Nat.mul_assoc, ← hZ.out, Int.natCast_mul]; rfl, by rw [show E1 - ((k + 1 : Nat) : Int) = E1 - (k : Int) - 1 by omega], trivial⟩
          case measure => simp [intOf]; omega
        · have hlt2 : ¬ (Z : Int) < 8388608 := by omega
          have hkp : k = padN M1 := by have := mt (hpi.out k).2 (by rw [← hZ]; exact hlt); omega
          subst hkp
          have hZl : Z < 16777216 := by rw [hZ]; exact hpl.out
          rw [← hZ] at hf
          clear hk hZ hpi hpl m1
          obtain ⟨F1, hF1⟩ : ∃ F : Int, F = E1 - (padN M1 : Int) := ⟨_, rfl⟩
          have hF1b : -200 ≤ F1 ∧ F1 ≤ 200 := by have := hE.out; have := hpb.out; omega
          rw [← hF1]
          rw [← hF1] at hf
          clear hF1
          go_wp2
          go_loopw [11, 12] (fun v11 v12 wr => ∃ k : Nat, k ≤ padN M2 ∧ v11 = .int .u64 ((M2 * 2 ^ k : Nat) : Int) ∧ v12 = .int .i64 (E2 - (k : Int)) ∧ wr = w) (fun _ v12 _ => (intOf v12 - (E2 - (padN M2 : Int))).toNat)
          case atStart => exact ⟨0, Nat.zero_le _, by rw [Nat.pow_zero, Nat.mul_one], by simp, rfl⟩
          case round =>
            obtain ⟨k, hk, rfl, rfl, hwr⟩ := hrel
            subst wr
            obtain ⟨Y, hY⟩ : ∃ Y : Nat, Y = M2 * 2 ^ k := ⟨_, rfl⟩
            rw [← hY]
            by_cases hlt : Y < 8388608
            · have hlt2 : (Y : Int) < 8388608 := by omega
              have hkp : k < padN M2 := (hpi2.out k).1 (by rw [← hY]; exact hlt)
              have hEk : Hid (-200 ≤ E2 - (k : Int) ∧ E2 - (k : Int) ≤ 200) := ⟨by have := hE.out; have := hpb.out; omega⟩
              have hEk2 := hEk.out
              replace hY := Hid.mk hY
              go_wp2
              go_roundw
              case rel => exact ⟨k + 1, by omega, by rw [Nat.pow_succ, ← Nat.mul_assoc, ← hY.out, Int.natCast_mul]; rfl, by rw [show E2 - ((k + 1 : Nat) : Int) = E2 - (k : Int) - 1 by omega], trivial⟩
              case measure => simp [intOf]; omega
            · have hlt2 : ¬ (Y : Int) < 8388608 := by omega
              have hkp : k = padN M2 := by have := mt (hpi2.out k).2 (by rw [← hY]; exact hlt); omega
              subst hkp
              have hYl : Y < 16777216 := by rw [hY]; exact hpl2.out
              rw [← hY] at hf
              clear hk hY hpi2 hpl2 hpos m2
              obtain ⟨F2, hF2⟩ : ∃ F : Int, F = E2 - (padN M2 : Int) := ⟨_, rfl⟩
              have hF2b : -200 ≤ F2 ∧ F2 ≤ 200 := by have := hE.out; have := hpb.out; omega
              rw [← hF2]
              rw [← hF2] at hf
              clear hF2 hE hpb
              obtain ⟨X, hX⟩ : ∃ X : Nat, X = Z * 2 ^ 38 := ⟨_, rfl⟩
              have hXI : (Z : Int) * 274877906944 = (X : Int) := by rw [hX]; omega
              have hXl : X < 4611686018427387904 := by rw [hX]; omega
              rw [← hX] at hf
              clear hX
              obtain ⟨q, hq⟩ : ∃ q : Nat, q = X / Y := ⟨_, rfl⟩
              have hql : q ≤ X := by rw [hq]; exact Nat.div_le_self _ _
              have hqI : IntKind.u64.wrap ((X : Int) / (Y : Int)) = (q : Int) := by
                rw [← Int.natCast_ediv, ← hq]
                exact wrap_u64_of (by omega) (by omega)
              obtain ⟨mo, hmo⟩ : ∃ mo : Bool, mo = decide (0 < X % Y) := ⟨_, rfl⟩
              have hmI : decide (0 < (X : Int) % (Y : Int)) = mo := by
                rw [hmo, ← Int.natCast_emod]
                exact decide_eq_decide.2 (by omega)
              rw [← hq, ← hmo] at hf
              have hr := fun W => round_int (S1 != S2) (q : Int) q rfl (F1 - F2 - 38) mo (by omega) (by omega) W
              have hY0 : (Y : Int) ≠ 0 := by omega
              clear hq hmo
              go_upto_region 18 with fail
              go_quiet ((go_at_call 59; exact Calls.quiet_of_same (hr _)))
              go_wp2
              exact hf.out _ (below_drewN (Below.refl _ _) _)
end Go.Proofs.Yteefieidfgpijaa.CF
