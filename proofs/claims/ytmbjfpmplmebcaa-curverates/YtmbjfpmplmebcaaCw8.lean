import Derived.Test.YtmbjfpmplmebcaaCw7
namespace Go.Proofs.Ytmbjfpmplmebcaa.CF
open Go.RowKit
attribute [local go_sem] run_store_float

theorem below_two {w X : World} (h : Below w.heap.size w X) (o o2 : Obj) : Below w.heap.size w ((X.alloc o).alloc o2) := (h.alloc h.size o).alloc (Nat.le_trans h.size (by simp)) o2

set_option maxRecDepth 8000 in
set_option maxHeartbeats 2000000 in
theorem rat_any (D : Dots) (hD : Ok D) (hl : D.length ≤ 9223372036854775806) (x : Int) (r : Nat) (en : Int) (hR : AtR D x r en) (a : Option Addr) (c : Nat) (w : World) (h : RtAt w a D) : Calls Try.prog 44 #[.slice a D.length c, .int .i64 x] w fun e w' => e = .returned (.tuple #[.int .u32 (r : Int), .int .i64 en]) ∧ Below w.heap.size w w' := by
  have hio := ordered_any D hl a c w h
  rcases hR with ⟨h1, rfl, rfl⟩ | ⟨h1, h2, rfl, rfl⟩ | ⟨h1, h2, h3, rfl, rfl⟩ | ⟨h1, h2, h3, h4, rfl, rfl⟩ | ⟨h1, h2, h3, h4, rfl, i, hi, k2, k3, hr⟩
  · rw [h1] at hio
    go_enter Try.func44, Try.ntmps44
    go_wp2_with (go_at_call 60; refine hio.mono ?_; rintro _ w1 ⟨rfl, hB1⟩)
    exact bodyPost_ret (v := .tuple #[.int .u32 0, .int .i64 172]) (by simp [results, Try.results44, go_sem]) rfl ⟨rfl, hB1⟩
  · rw [h1] at hio
    have h0 : ((D.length : Int) == 0) = true := by rw [h2]; rfl
    clear h2
    go_enter Try.func44, Try.ntmps44
    go_wp2_with (go_at_call 60; refine hio.mono ?_; rintro _ w1 ⟨rfl, hB1⟩)
    exact bodyPost_ret (v := .tuple #[.int .u32 0, .int .i64 175]) (by simp [results, Try.results44, go_sem]) rfl ⟨rfl, hB1⟩
  · rw [h1] at hio
    have h0 : ((D.length : Int) == 0) = false := beq_eq_false_iff_ne.2 (by omega)
    have hlen0 : (0 : Int) < (D.length : Int) := by omega
    go_enter Try.func44, Try.ntmps44
    go_wp2_with (go_at_call 60; fail)
    refine hio.mono ?_
    rintro _ w1 ⟨rfl, hB1⟩
    obtain ⟨b, off, rfl, hc⟩ := (h.later hB1).cells h2
    have p0 := (hc 0 h2).1
    rw [Nat.zero_mul, Nat.add_zero] at p0
    clear hc hio h hD
    generalize (D.getD 0 (0, 0)).1 = d0 at *
    go_wp2
    exact bodyPost_ret (v := .tuple #[.int .u32 0, .int .i64 175]) (by simp [results, Try.results44, go_sem]) rfl ⟨rfl, hB1⟩
  · rw [h1] at hio
    obtain ⟨n, hn⟩ : ∃ n, D.length = n + 1 := ⟨D.length - 1, by omega⟩
    rw [hn, Nat.add_sub_cancel] at h4
    have h0 : (((n + 1 : Nat) : Int) == 0) = false := beq_eq_false_iff_ne.2 (by omega)
    rw [hn] at hio ⊢
    have hn2 : n ≤ 9223372036854775805 := by omega
    have hlen0 : (0 : Int) < ((n + 1 : Nat) : Int) := by omega
    go_enter Try.func44, Try.ntmps44
    go_wp2_with (go_at_call 60; fail)
    refine hio.mono ?_
    rintro _ w1 ⟨rfl, hB1⟩
    obtain ⟨b, off, rfl, hc⟩ := (h.later hB1).cells h2
    have p0 := (hc 0 h2).1
    have pn := (hc n (by omega)).1
    rw [Nat.zero_mul, Nat.add_zero] at p0
    clear hc hio h hD hn hl
    generalize (D.getD 0 (0, 0)).1 = d0 at *
    generalize (D.getD n (0, 0)).1 = dn at *
    go_wp2
    exact bodyPost_ret (v := .tuple #[.int .u32 0, .int .i64 175]) (by simp [results, Try.results44, go_sem]) rfl ⟨rfl, hB1⟩
  · rw [h1] at hio
    obtain ⟨n, hn⟩ : ∃ n, D.length = n + 1 := ⟨D.length - 1, by omega⟩
    rw [hn, Nat.add_sub_cancel] at h4
    have h0 : (((n + 1 : Nat) : Int) == 0) = false := beq_eq_false_iff_ne.2 (by omega)
    have hn2 : n ≤ 9223372036854775805 := by omega
    have hlen0 : (0 : Int) < ((n + 1 : Nat) : Int) := by omega
    have hgB := Hid.mk (inO_true.1 h1)
    rw [hn] at hio hi ⊢
    go_enter Try.func44, Try.ntmps44
    go_wp2_with (go_at_call 60; fail)
    refine hio.mono ?_
    rintro _ w1 ⟨rfl, hB1⟩
    obtain ⟨b, off, rfl, hc⟩ := (h.later hB1).cells h2
    have hbl : b < w1.heap.size := World.block_lt_of_cell? _ _ (hc 0 h2).1
    have p0 := (hc 0 h2).1
    have pn := (hc n (by omega)).1
    rw [Nat.zero_mul, Nat.add_zero] at p0
    clear hio h hl
    obtain ⟨d0, hd0⟩ : ∃ d, d = (D.getD 0 (0, 0)).1 := ⟨_, rfl⟩
    rw [← hd0] at p0 h3
    obtain ⟨dn, hdn⟩ : ∃ d, d = (D.getD n (0, 0)).1 := ⟨_, rfl⟩
    rw [← hdn] at pn h4
    have hcH : Hid (∀ k, k < n + 1 → ∀ X, Below w1.heap.size w1 X → X.cell? ⟨b, off + k * 2, none⟩ = some (.int .i64 (D.getD k (0, 0)).1) ∧ X.cell? ⟨b, off + k * 2 + 1, none⟩ = some (.int .u32 ((D.getD k (0, 0)).2 : Int))) := ⟨fun k hk X hX => ⟨(hX.cell (p := ⟨b, off + k * 2, none⟩) hbl).trans (hc k (by omega)).1, (hX.cell (p := ⟨b, off + k * 2 + 1, none⟩) hbl).trans (hc k (by omega)).2⟩⟩
    replace k2 := Hid.mk k2
    replace hr := Hid.mk hr
    replace k3 := Hid.mk k3
    replace hD := Hid.mk hD
    replace hd0 := Hid.mk hd0
    replace hn := Hid.mk hn
    have h3' : decide (x < d0) = false := decide_eq_false (by omega)
    have h4' : decide (dn < x) = false := decide_eq_false (by omega)
    clear hc hdn
    go_wp2
    go_loopw [7] (fun v wr => ∃ k : Nat, k ≤ i ∧ v = .int .i64 (k : Int) ∧ wr = w1) (fun v _ => i - (intOf v).toNat)
    case atStart => exact ⟨0, by omega, rfl, rfl⟩
    case round =>
      obtain ⟨k, hk, rfl, hwr⟩ := hrel
      subst wr
      have hk0 : (0 : Int) ≤ (k : Int) := by omega
      have hkn : (k : Int) < ((n + 1 : Nat) : Int) := by omega
      obtain ⟨q0, q1⟩ := hcH.out k (by omega) w1 (Below.refl _ _)
      by_cases hki : k < i
      · have hlt := k2.out k hki
        generalize (D.getD k (0, 0)).1 = y at *
        clear q1
        go_wp2
        go_roundw
        case rel => exact ⟨k + 1, by omega, by go_num, trivial⟩
        case measure => simp [intOf]; omega
      · obtain rfl : k = i := by omega
        have hlt := k3.out
        rcases hr.out with ⟨hy, hr2⟩ | ⟨hy, hpos, hr2⟩
        · have he : ((D.getD k (0, 0)).1 == x) = true := beq_iff_eq.2 hy
          generalize (D.getD k (0, 0)).1 = y at *
          generalize (D.getD k (0, 0)).2 = z at *
          subst hr2
          clear hy k2 hr hgB hD hcH
          go_wp2
          exact bodyPost_ret (v := .tuple #[.int .u32 (r : Int), .int .i64 0]) (by simp [results, Try.results44, go_sem]) rfl ⟨rfl, hB1⟩
        · obtain ⟨j, rfl⟩ : ∃ j, k = j + 1 := ⟨k - 1, by omega⟩
          rw [Nat.add_sub_cancel] at hr2
          have hb1 := gB_parts (hgB.out j (by have := hn.out; omega))
          have hb2 := gB_parts (hgB.out (j + 1) (by have := hn.out; omega))
          have hy1 := k2.out j (by omega)
          have y1 := (hD.out.getD j).2
          have y2 := (hD.out.getD (j + 1)).2
          have hu := whole_norm (z := x - (D.getD j (0, 0)).1) (by omega) (by omega)
          have hv := whole_norm (z := (D.getD (j + 1) (0, 0)).1 - (D.getD j (0, 0)).1) (by omega) (by omega)
          have ht := div_norm hu hv
          have hpv := (norm_parts (a := wholeN ((D.getD (j + 1) (0, 0)).1 - (D.getD j (0, 0)).1)) (by omega) (by omega)).2.1
          have hdl := subN_le y1 hb2.1.2 hb1.1.2
          have c1 := fun W => sub_any (D.getD (j + 1) (0, 0)).2 (D.getD j (0, 0)).2 y2 y1 W
          have c2 := fun W => whole_any (x - (D.getD j (0, 0)).1) (by omega) (by omega) W
          have c3 := fun W => whole_any ((D.getD (j + 1) (0, 0)).1 - (D.getD j (0, 0)).1) (by omega) (by omega) W
          have c4 := fun W => div_any (wholeN (x - (D.getD j (0, 0)).1)) (wholeN ((D.getD (j + 1) (0, 0)).1 - (D.getD j (0, 0)).1)) (by omega) (by omega) (by omega) (by omega) W
          have c5 := fun W => finite_any (subN (D.getD (j + 1) (0, 0)).2 (D.getD j (0, 0)).2) W
          have c6 := fun W (hf : subN (D.getD (j + 1) (0, 0)).2 (D.getD j (0, 0)).2 % 2147483648 < 2139095040) => mul_any (subN (D.getD (j + 1) (0, 0)).2 (D.getD j (0, 0)).2) (divN (wholeN (x - (D.getD j (0, 0)).1)) (wholeN ((D.getD (j + 1) (0, 0)).1 - (D.getD j (0, 0)).1))) hdl.2 (by omega) hf (by omega) W
          have hml := mulN_le (subN (D.getD (j + 1) (0, 0)).2 (D.getD j (0, 0)).2) (divN (wholeN (x - (D.getD j (0, 0)).1)) (wholeN ((D.getD (j + 1) (0, 0)).1 - (D.getD j (0, 0)).1)))
          have c7 := fun W => add_any (D.getD j (0, 0)).2 (mulN (subN (D.getD (j + 1) (0, 0)).2 (D.getD j (0, 0)).2) (divN (wholeN (x - (D.getD j (0, 0)).1)) (wholeN ((D.getD (j + 1) (0, 0)).1 - (D.getD j (0, 0)).1)))) y1 hml.2 W
          unfold btwN at hr2
          obtain ⟨s0, s1⟩ := hcH.out j (by omega) w1 (Below.refl _ _)
          have he : ((D.getD (j + 1) (0, 0)).1 == x) = false := beq_eq_false_iff_ne.2 (by omega)
          have hx1 : -9999999999999 ≤ (D.getD j (0, 0)).1 ∧ (D.getD (j + 1) (0, 0)).1 ≤ 9999999999999 := ⟨hb1.1.1.1, hb2.1.1.2⟩
          generalize subN (D.getD (j + 1) (0, 0)).2 (D.getD j (0, 0)).2 = dif at *
          generalize wholeN (x - (D.getD j (0, 0)).1) = U at *
          generalize wholeN ((D.getD (j + 1) (0, 0)).1 - (D.getD j (0, 0)).1) = V at *
          generalize divN U V = part at *
          generalize mulN dif part = prod at *
          generalize (D.getD (j + 1) (0, 0)).1 = v1 at *
          generalize (D.getD (j + 1) (0, 0)).2 = v2 at *
          generalize (D.getD j (0, 0)).1 = u1 at *
          generalize (D.getD j (0, 0)).2 = u2 at *
          clear k2 hr hgB hD hb1 hb2 hpos hcH hki hk hu hv ht hpv hdl hml y1 y2
          have e6 : IntKind.i64.wrap (j : Int) = (j : Int) := by rw [IntKind.wrap_i64]; omega
          have e2 : (0 : Int) ≤ (j : Int) := by omega
          have e3' : (j : Int) < (n : Int) + 1 := by omega
          have e7 : (j : Int) < (n : Int) := by omega
          have e8 : ((j : Int) + 1).toNat = j + 1 := by omega
          have e9 : (0 : Int) ≤ (j : Int) + 1 := by omega
          have e10 : j < n := by omega
          have e11 : j < n + 1 := by omega
          replace hr2 := Hid.mk hr2
          replace hy := Hid.mk hy
          replace hy1 := Hid.mk hy1
          replace hx1 := Hid.mk hx1
          go_upto_region 11 with fail
          go_cut [8, 9] (fun p q wx => ∃ A B : Nat, p = .pointer (some ⟨A, 0, none⟩) ∧ q = .pointer (some ⟨B, 0, none⟩) ∧ wx.cell? ⟨A, 0, none⟩ = some (.int .i64 u1) ∧ wx.cell? ⟨A, 1, none⟩ = some (.int .u32 (u2 : Int)) ∧ wx.cell? ⟨B, 0, none⟩ = some (.int .i64 v1) ∧ wx.cell? ⟨B, 1, none⟩ = some (.int .u32 (v2 : Int)) ∧ Below w.heap.size w wx)
          case first =>
            have hne1 : b ≠ w1.heap.size := by omega
            have hne2 : b ≠ w1.heap.size + 1 := by omega
            go_region
            all_goals
              go_wp2
              go_meet
              refine ⟨_, _, rfl, rfl, ?_, ?_, ?_, ?_, ?_⟩
            all_goals first | exact below_two hB1 _ _ | exact below_drewN (below_two hB1 _ _) _ | (simp; done)
          case rest =>
            obtain ⟨A, B, rfl, rfl, a0, a1, b0, b1, hB2⟩ := hcut
            clear s0 s1 q0 q1 e2 e3' e6 e7 e8 e9 e10 e11
            have hAl : A < wc.heap.size := World.block_lt_of_cell? _ _ a0
            have hBl : B < wc.heap.size := World.block_lt_of_cell? _ _ b0
            have hxr := hy.out
            have hxr1 := hy1.out
            have hxr2 := hx1.out
            go_wp2_with (first | (go_at_call 61; refine (c1 _).mono ?_; rintro _ w3 ⟨rfl, hw3⟩; subst w3) | (go_at_call 12; fail))
            refine (c2 _).mono ?_
            rintro _ w3 ⟨rfl, hw3⟩
            subst w3
            clear c1 c2
            go_wp2_with (go_at_call 12; refine (c3 _).mono ?_; rintro _ w3 ⟨rfl, hw3⟩; subst w3)
            clear c3
            refine (c4 _).mono ?_
            rintro _ w3 ⟨rfl, hB3⟩
            have a1' := (hB3.cell (p := ⟨A, 1, none⟩) hAl).trans a1
            have hBe : Below w.heap.size w w3 := hB2.trans (hB3.mono hB2.size)
            clear c4 a0 a1 b0 b1 hB3 hB2 hxr hxr1 hxr2
            by_cases hf : dif % 2147483648 < 2139095040
            · rw [decide_eq_true hf] at c5
              have c6' := fun W => c6 W hf
              have hr3 : Hid (r = addN u2 prod) := ⟨by rw [hr2.out, if_pos hf]⟩
              rw [← hr3.out] at c7
              clear c6 hr2 hf
              go_wp2_with (first | (go_at_call 63; refine (c5 _).mono ?_; rintro _ w4 ⟨rfl, hw4⟩; subst w4) | (go_at_call 64; refine (c6' _).mono ?_; rintro _ w4 ⟨rfl, hw4⟩; subst w4) | (go_at_call 65; refine (c7 _).mono ?_; rintro _ w4 ⟨rfl, hw4⟩; subst w4))
              exact bodyPost_ret (v := .tuple #[.int .u32 (r : Int), .int .i64 0]) (by simp [results, Try.results44, go_sem]) rfl ⟨rfl, hBe⟩
            · rw [decide_eq_false hf] at c5
              have hr3 : Hid (r = dif) := ⟨by rw [hr2.out, if_neg hf]⟩
              rw [← hr3.out] at c5 ⊢
              clear c6 c7 hr2 hf
              go_wp2_with (go_at_call 63; refine (c5 _).mono ?_; rintro _ w4 ⟨rfl, hw4⟩; subst w4)
              exact bodyPost_ret (v := .tuple #[.int .u32 (r : Int), .int .i64 0]) (by simp [results, Try.results44, go_sem]) rfl ⟨rfl, hBe⟩

end Go.Proofs.Ytmbjfpmplmebcaa.CF
