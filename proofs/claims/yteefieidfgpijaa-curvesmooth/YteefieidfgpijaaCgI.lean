import Derived.Test.YteefieidfgpijaaCgH
namespace Go.Proofs.Yteefieidfgpijaa.CF
open Go.RowKit
attribute [local go_sem] run_store_float

theorem whole0 : wholeN 0 = 0 := by decide +kernel
theorem whole42 : wholeN 42 = 1109917696 := by decide +kernel
theorem mn0 (Z : Nat → Int) : wholeN (mnZ Z 0) = 0 ∧ wholeN (mxZ Z 0) = 0 := by
  have e1 : mnZ Z 0 = 0 := by unfold mnZ; rfl
  have e2 : mxZ Z 0 = 0 := by unfold mxZ; rfl
  rw [e1, e2, whole0]
  exact ⟨rfl, rfl⟩
set_option maxRecDepth 8000 in
set_option maxHeartbeats 4000000 in
theorem smooth_walk (D : Dots) (hD : Ok D) (hl : D.length ≤ 8796093021952) (n : Int) (hn : -9223372036854775808 ≤ n ∧ n ≤ 9223372036854775807) (a : Option Addr) (c : Nat) (w : World) (h2 : RtAt w a D) : Calls Try.prog 4 #[.slice a D.length c, .int .i64 n] w fun e w' => e = .returned (.bool true) ∧ Below w.heap.size w w' := by
  obtain ⟨i0, hi, hz0, hz1, hz2⟩ := info_parts infoP
  obtain ⟨m, hm⟩ : ∃ m, m = min D.length 64 := ⟨_, rfl⟩
  have hm64 : m ≤ 64 := by omega
  have hS := snd_D D hm64
  have hZb : ∀ k, k < m → (sZ D k).natAbs ≤ 10000 := fun k _ => by unfold sZ; omega
  have hkn := known_any w
  have hso := fun X (hX : RtAt X a D) => sound_any D hD hl a c X hX
  unfold SoP at hso
  rw [← hm] at hso
  generalize (fun k => sX D (k + 1)) = X at *
  generalize sZ D = Z at *
  have hsm0 := fun W a' c' (hcl : m ≤ c') (hW : PtAt W a' (WD X Z m)) => smoothP_any (WD X Z m) (WD_ok hS) (by rw [WD_len]; omega) 1 a' c' (by rw [WD_len]; exact hcl) W hW
  have e0 := smooth_ok hS (r := 0) (by decide)
  rw [show 2 * ((0 : Nat) : Int) + 1 = 1 from rfl] at e0
  rw [e0.1, e0.2, WD_len] at hsm0
  have hsm := small_any n 3 hn (by decide)
  have hsmr : Hid (∀ r : Nat, r ≤ 6 → ∀ W a' c' (hcl : m ≤ c') (hW : PtAt W a' (WD X Z m)), Calls Try.prog 16 #[.slice a' m c', .int .i64 (2 * (r : Int) + 1)] W (OutP W (smoothN (WD X Z m) r m) 0)) := ⟨fun r hr W a' c' hcl hW => by
    have := smoothP_any (WD X Z m) (WD_ok hS) (by rw [WD_len]; omega) (2 * (r : Int) + 1) a' c' (by rw [WD_len]; exact hcl) W hW
    rw [(smooth_ok hS hr).1, (smooth_ok hS hr).2, WD_len] at this
    exact this⟩
  have hS42 : Snd X (fun _ => 42) m := ⟨hS.rise, hS.bdx, fun k _ => by decide⟩
  have hsmf : Hid (∀ r : Nat, r ≤ 6 → ∀ W a' c' (hcl : m ≤ c') (hW : PtAt W a' (WD X (fun _ => 42) m)), Calls Try.prog 16 #[.slice a' m c', .int .i64 (2 * (r : Int) + 1)] W (OutP W (smoothN (WD X (fun _ => 42) m) r m) 0)) := ⟨fun r hr W a' c' hcl hW => by
    have := smoothP_any (WD X (fun _ => 42) m) (WD_ok hS42) (by rw [WD_len]; omega) (2 * (r : Int) + 1) a' c' (by rw [WD_len]; exact hcl) W hW
    rw [(smooth_ok hS42 hr).1, (smooth_ok hS42 hr).2, WD_len] at this
    exact this⟩
  replace hS := Hid.mk hS
  replace hZb := Hid.mk hZb
  clear hS42 e0 hm hn hl hD
  go_enter Try.func4, Try.ntmps4
  go_wp2_with (go_at_call 7; fail)
  refine hkn.mono ?_
  rintro _ w1 ⟨rfl, hB1⟩
  clear hkn
  go_wp2_with (go_at_call 15; fail)
  refine (hso _ (h2.later hB1)).mono ?_
  rintro _ w2 ⟨a2, c2, rfl, ho2, hB2⟩
  have hcl2 := own_capW ho2
  obtain ⟨a2', c2', e2, hp2⟩ := pt_of_own ho2 (WD_len _ _ _).symm
  rw [WD_len] at e2
  injection e2 with e2 e2' e2''
  subst e2
  clear hso e2'' ho2 e2'
  go_wp2_with (go_at_call 16; fail)
  refine (hsm0 _ _ _ hcl2 hp2).mono ?_
  rintro _ w3 ⟨a3, c3, rfl, hp3, hB3⟩
  rw [smoothN_len]
  clear hsm0
  have hne : ((m : Int) != (m : Int)) = false := by simp
  go_wp2_with (go_at_call 8; fail)
  refine (hsm _).mono ?_
  rintro _ w4 ⟨r0, rfl, hr0, hw4⟩
  subst w4
  clear hsm
  obtain ⟨r, hr⟩ : ∃ r : Nat, r0 + 3 = (r : Int) := ⟨(r0 + 3).toNat, by omega⟩
  have hr6 : r ≤ 6 := by omega
  have hrm : (r : Int).tmod 8 = (r : Int) := by rw [Int.tmod_eq_emod_of_nonneg (by omega)]; omega
  have hsmr2 := hsmr.out r hr6 w3 a2 c2 hcl2 (hp2.later hB3)
  have hsmf2 := Hid.mk (hsmf.out r hr6)
  clear hsmr hsmf
  go_wp2_with (go_at_call 16; fail)
  refine hsmr2.mono ?_
  rintro _ w5 ⟨a5, c5, rfl, hp5, hB5⟩
  rw [smoothN_len]
  clear hsmr2
  have q2 := (hp2.later hB3).later hB5
  have q3 := hp3.later hB5
  have hBw5 : Below w.heap.size w w5 := ((hB1.trans (hB2.mono hB1.size)).trans (hB3.mono (Nat.le_trans hB1.size hB2.size))).trans (hB5.mono (Nat.le_trans hB1.size (Nat.le_trans hB2.size hB3.size)))
  clear hp2 hp3 hB1 hB2 hB3 hB5 h2
  go_wp2_with fail
  go_loopw [11, 12, 13, 14] (fun fv lv gv v wr => ∃ k : Nat, k ≤ m ∧ lv = .float .f32 (wholeN (mnZ Z k)) ∧ gv = .float .f32 (wholeN (mxZ Z k)) ∧ v = .int .i64 (k : Int) ∧ wr.ownsRow w5.heap.size 35 2 fv k (ptV (WD X (fun _ => 42) k)) ∧ Below w5.heap.size w5 wr) (fun _ _ _ v _ => m - (intOf v).toNat)
  case atStart => exact ⟨0, by omega, by rw [(mn0 Z).1], by rw [(mn0 Z).2], rfl, World.ownsRow_nil _ _ _ _, Below.refl _ _⟩
  case round =>
    obtain ⟨k, hk, rfl, rfl, rfl, ho, hB⟩ := hrel
    by_cases hlt : k < m
    · have hlt' : (k : Int) < (m : Int) := by omega
      have hk0 : (0 : Int) ≤ (k : Int) := by omega
      obtain ⟨bI, off2, rfl, hc2⟩ := (q2.later hB).cells (k := k) (by rw [WD_len]; exact hlt)
      obtain ⟨b3, off3, rfl, hc3⟩ := (q3.later hB).cells (k := k) (by rw [smoothN_len]; exact hlt)
      obtain ⟨s0, s1⟩ := hc2 k (by rw [WD_len]; exact hlt)
      obtain ⟨t0, t1⟩ := hc3 k (by rw [smoothN_len]; exact hlt)
      obtain ⟨u, hu, u1, u2, -, -, u3, -⟩ := smooth_pt (X := X) (r := 0) hZb.out (by decide) hlt
      have u4 := u3 rfl
      rw [hu] at t0 t1
      rw [WD_get X Z hlt] at s0 s1
      simp only at s0 s1 t0 t1
      have hzk := hZb.out k hlt
      have hmb := mnZ_b hZb.out k hk
      obtain ⟨z1, z2, -, z3⟩ := whole_parts (z := Z k) (by omega)
      obtain ⟨l1, l2, -, l3⟩ := whole_parts (z := mnZ Z k) (by omega)
      obtain ⟨g1, g2, -, g3⟩ := whole_parts (z := mxZ Z k) (by omega)
      have hnq := neq_pt (X k) (feq u1 z1 (by omega) (by omega) u4)
      have c1 := (flt z1 l1 (by omega) (by omega)).1
      have c2 := (flt z1 g1 (by omega) (by omega)).2
      have d1 : decide (ordN (wholeN (Z k)) < ordN (wholeN (mnZ Z k))) = decide (Z k < mnZ Z k) := decide_eq_decide.2 (by have := whole_le (x := mnZ Z k) (y := Z k) (by omega) (by omega); omega)
      have d2 : decide (ordN (wholeN (mxZ Z k)) < ordN (wholeN (Z k))) = decide (mxZ Z k < Z k) := decide_eq_decide.2 (by have := whole_le (x := Z k) (y := mxZ Z k) (by omega) (by omega); omega)
      rw [d1] at c1
      rw [d2] at c2
      have ek : ((k : Int) == 0) = decide (k = 0) := by
        by_cases e : k = 0
        · subst e; rfl
        · rw [decide_eq_false e, beq_eq_false_iff_ne]; omega
      have el : Hid (mnZ Z (k + 1) = if (decide (k = 0) || decide (Z k < mnZ Z k)) = true then Z k else mnZ Z k) := ⟨by
        show (if k = 0 ∨ _ then _ else _) = _
        by_cases e : k = 0 ∨ Z k < mnZ Z k
        · rw [if_pos e, if_pos (by simpa using e)]
        · rw [if_neg e, if_neg (by simpa using e)]⟩
      have eg : Hid (mxZ Z (k + 1) = if (decide (k = 0) || decide (mxZ Z k < Z k)) = true then Z k else mxZ Z k) := ⟨by
        show (if k = 0 ∨ _ then _ else _) = _
        by_cases e : k = 0 ∨ mxZ Z k < Z k
        · rw [if_pos e, if_pos (by simpa using e)]
        · rw [if_neg e, if_neg (by simpa using e)]⟩
      have hW1 : Hid (WD X (fun _ => 42) (k + 1) = WD X (fun _ => 42) k ++ [(X k, 1109917696)]) := ⟨by rw [WD_succ, whole42]⟩
      clear d1 d2 hc2 hc3 hu u1 u2 u3 u4 z1 z2 z3 l1 l2 l3 g1 g2 g3 q2 q3 hp5 hsmf2 hzk hmb hS hZb
      generalize decide (Z k < mnZ Z k) = b1 at *
      generalize decide (mxZ Z k < Z k) = b2 at *
      generalize decide (k = 0) = b0 at *
      obtain ⟨Q, hQ⟩ : ∃ Q : Nat, Q = wholeN (Z k) := ⟨_, rfl⟩
      obtain ⟨lo, hlo⟩ : ∃ z, z = wholeN (mnZ Z k) := ⟨_, rfl⟩
      obtain ⟨hi', hhi⟩ : ∃ z, z = wholeN (mxZ Z k) := ⟨_, rfl⟩
      rw [← hQ] at s1 c1 c2 hnq
      rw [← hlo] at c1 ⊢
      rw [← hhi] at c2 ⊢
      have el2 : Hid (wholeN (mnZ Z (k + 1)) = if (b0 || b1) = true then Q else lo) := ⟨by rw [el.out, hQ, hlo]; split <;> rfl⟩
      have eg2 : Hid (wholeN (mxZ Z (k + 1)) = if (b0 || b2) = true then Q else hi') := ⟨by rw [eg.out, hQ, hhi]; split <;> rfl⟩
      clear el eg hQ hlo hhi
      generalize X k = xk at *
      go_wp2_with fail
      go_quiet (fail)
      obtain ⟨Y, hY⟩ : ∃ Y, wr.drewN nq = Y := ⟨_, rfl⟩
      have hYB : Below wr.heap.size wr Y := by rw [← hY]; exact below_drewN (Below.refl _ _) _
      have s0' : Y.cell? ⟨bI, off2 + k * 2, none⟩ = some (.int .i64 xk) := by rw [← hY]; exact s0
      have s1' : Y.cell? ⟨bI, off2 + k * 2 + 1, none⟩ = some (.float .f32 Q) := by rw [← hY]; exact s1
      have hoY := own_bel ho hYB
      have hBY : Below w5.heap.size w5 Y := hB.trans (hYB.mono hB.size)
      have ho4 := hoY.alloc (.cells #[.int .i64 xk, .float .f32 1109917696] 35)
      have hB4 : Below w5.heap.size w5 (Y.alloc (.cells #[.int .i64 xk, .float .f32 1109917696] 35)) := hBY.alloc hBY.size _
      have hlv := Hid.mk (fun (j : Nat) hj => (hoY.lt j hj).1)
      rw [hY]
      clear hY hYB s0 s1 t0 t1 ho hB hoY hBY hnq
      cases b0 <;> cases b1 <;> cases b2
      all_goals
        go_wp2_with (at_builtin; refine wpList_append_own _ rfl _ _ 27 rfl w5.heap.size 35 i0 _ 2 16 Try.underlying27 hi hz0 hz1 hz2 rfl (by decide) _ k _ rfl ho4 ⟨Y.heap.size, 0, none⟩ 1 1 [.int .i64 xk, .float .f32 1109917696] rfl rfl (lit_at Y _ _) (by simp [Value.oneCell']) (by unfold maxLen; omega) (by omega) hB4.size ?_; intro v5 w6 hown5 hgrow5 _; have hB5 := hB4.grown hgrow5 hB4.size hlv.out)
        go_roundw
        case rel => exact ⟨k + 1, by omega, by rw [el2.out]; rfl, by rw [eg2.out]; rfl, by go_num, by rw [hW1.out, ptV_snoc]; exact hown5, hB5⟩
        case measure => simp [intOf]; omega
    · obtain rfl : k = m := by omega
      have hlt' : ¬ (k : Int) < (k : Int) := by omega
      obtain ⟨aF, cF, rfl⟩ := own_lenW ho
      have hclF := own_capW ho
      obtain ⟨a2', c2', e2, hpF⟩ := pt_of_own ho (WD_len _ _ _).symm
      rw [WD_len] at e2
      injection e2 with e2 e2' e2''
      subst e2
      have hsF := hsmf2.out wr aF cF hclF hpF
      clear hsmf2 e2'' e2' ho
      go_wp2_with (go_at_call 16; fail)
      refine hsF.mono ?_
      rintro _ w7 ⟨a7, c7, rfl, hp7, hB7⟩
      rw [smoothN_len]
      have hBw7 : Below w5.heap.size w5 w7 := hB.trans (hB7.mono hB.size)
      have q2' := q2.later hBw7
      have q5' := hp5.later hBw7
      have qF' := hpF.later hB7
      have hBe : Below w.heap.size w w7 := hBw5.trans (hBw7.mono hBw5.size)
      clear q2 q3 hp5 hpF hsF hB hB7 hBw7 hBw5
      go_wp2_with fail
      go_loopw [17] (fun v wr => ∃ j : Nat, j ≤ k ∧ v = .int .i64 (j : Int) ∧ Below w7.heap.size w7 wr) (fun v _ => k - (intOf v).toNat)
      case atStart => exact ⟨0, by omega, rfl, Below.refl _ _⟩
      case round =>
        rename World => wx
        obtain ⟨j, hj, rfl, hBx⟩ := hrel
        by_cases hjl : j < k
        · have hjl' : (j : Int) < (k : Int) := by omega
          have hj0 : (0 : Int) ≤ (j : Int) := by omega
          obtain ⟨bI, offI, rfl, hcI⟩ := (q2'.later hBx).cells (k := j) (by rw [WD_len]; exact hjl)
          obtain ⟨bB, offB, rfl, hcB⟩ := (q5'.later hBx).cells (k := j) (by rw [smoothN_len]; exact hjl)
          obtain ⟨bF, offF, rfl, hcF⟩ := (qF'.later hBx).cells (k := j) (by rw [WD_len]; exact hjl)
          obtain ⟨bC, offC, rfl, hcC⟩ := (hp7.later hBx).cells (k := j) (by rw [smoothN_len]; exact hjl)
          obtain ⟨i0', -⟩ := hcI j (by rw [WD_len]; exact hjl)
          obtain ⟨b0, b1⟩ := hcB j (by rw [smoothN_len]; exact hjl)
          obtain ⟨f0, f1⟩ := hcF j (by rw [WD_len]; exact hjl)
          obtain ⟨t0, t1⟩ := hcC j (by rw [smoothN_len]; exact hjl)
          obtain ⟨u, hu, u1, u2, u3, u4, -, -⟩ := smooth_pt (X := X) hZb.out hr6 hjl
          obtain ⟨v, hv, v1, v2, -, -, -, v5⟩ := smooth_pt (X := X) (Z := fun _ => 42) (m := k) (k := j) (fun _ _ => by decide) hr6 hjl
          have v6 := v5 42 (by decide) (fun _ _ => rfl)
          rw [hu] at b0 b1
          rw [hv] at t0 t1
          rw [WD_get X _ hjl] at i0' f0 f1
          simp only [whole42] at i0' b0 b1 f0 f1 t0 t1
          rw [whole42] at v6
          have hmb := mnZ_b hZb.out k (Nat.le_refl _)
          obtain ⟨l1, l2, -, l3⟩ := whole_parts (z := mnZ Z k) (by omega)
          obtain ⟨g1, g2, -, g3⟩ := whole_parts (z := mxZ Z k) (by omega)
          have hnq := neq_pt (X j) (feq v1 (q := 1109917696) (by decide) (by omega) (by decide) v6)
          have k1 := (flt u1 l1 (by omega) (by omega)).1
          have k2 := (flt u1 g1 (by omega) (by omega)).2
          rw [decide_eq_false (by omega)] at k1 k2
          have hxx : (X j != X j) = false := by simp
          clear hcI hcB hcF hcC hu hv u1 u2 u3 u4 v1 v2 v5 v6 l1 l2 l3 g1 g2 g3 hmb q2' q5' qF' hp7 hZb hS
          generalize wholeN (mnZ Z k) = lo at *
          generalize wholeN (mxZ Z k) = hi' at *
          generalize X j = xj at *
          go_wp2_with fail
          go_quiet (fail)
          go_wp2
          go_roundw
          case rel => exact ⟨j + 1, by omega, by go_num, below_drewN hBx _⟩
          case measure => simp [intOf]; omega
        · have hjl' : ¬ (j : Int) < (k : Int) := by omega
          have hBf : Below w.heap.size w wx := hBe.trans (hBx.mono hBe.size)
          go_wp2
          go_ret
          exact ⟨rfl, hBf⟩
end Go.Proofs.Yteefieidfgpijaa.CF
