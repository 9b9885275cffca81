import Derived.Test.YteefieidfgpijaaCwF
import Derived.Test.YteefieidfgpijaaCrM
namespace Go.Proofs.Yteefieidfgpijaa.CF
open Go.RowKit
attribute [local go_sem] run_store_float

theorem grown_below' {W X : World} {r : Option Nat} (hb : Below W.heap.size W X) : W.grownBy X r := ⟨hb.os, hb.tape, hb.output, hb.size, fun k hk _ => hb.block k hk⟩
theorem own_bel {W W' : World} {base n k : Nat} {T : TypeId} {v : Value} {xs : List Value} (ho : W.ownsRow base T k v n xs) (h : Below W.heap.size W W') : W'.ownsRow base T k v n xs := ho.kept (grown_below' (r := none) h) (by cases v.ownBlock <;> simp)
theorem pt_of_own {w : World} {base n : Nat} {e : TypeId} {v : Value} {D : Dots} (h : w.ownsRow base e 2 v n (ptV D)) (hn : n = D.length) : ∃ a c, v = .slice a D.length c ∧ PtAt w a D := by
  subst hn
  have h0 := h
  obtain ⟨_, ⟨rfl, hn⟩ | ⟨g, cap, cur, rfl, hb, hc, _⟩⟩ := h0
  · have : D = [] := List.eq_nil_of_length_eq_zero hn
    subst this
    exact ⟨none, 0, rfl, .inl rfl⟩
  · refine ⟨_, _, rfl, .inr ⟨g, 0, rfl, (h.lt g rfl).2, fun i hi => ?_⟩⟩
    obtain ⟨h1, h2⟩ := ptV_get D i hi
    have hl : (ptV D).length = D.length * 2 := h.1
    rw [Nat.zero_add]
    exact ⟨(h.cellAt (i * 2) (by omega)).trans h1, (h.cellAt (i * 2 + 1) (by omega)).trans h2⟩
set_option maxRecDepth 8000 in
set_option maxHeartbeats 2000000 in
theorem rateP_any (D : Dots) (hD : Ok D) (hl : D.length ≤ 8796093021952) (a : Option Addr) (c : Nat) (w : World) (h : PtAt w a D) : Calls Try.prog 12 #[.slice a D.length c] w fun e w' => ∃ a' c', e = .returned (.slice a' (rateN D D.length).length c') ∧ PtAt w' a' (rateN D D.length) ∧ Below w.heap.size w w' := by
  obtain ⟨i0, hi, hz0, hz1, hz2⟩ := info_parts infoP
  go_enter Try.func12, Try.ntmps12
  go_wp2
  go_loopw [3, 8] (fun v x wr => ∃ k : Nat, k ≤ D.length ∧ x = .int .i64 (k : Int) ∧ wr.ownsRow w.heap.size 35 2 v (rateN D k).length (ptV (rateN D k)) ∧ Below w.heap.size w wr) (fun _ x _ => D.length - (intOf x).toNat)
  case atStart => exact ⟨0, by omega, rfl, World.ownsRow_nil _ _ _ _, Below.refl _ _⟩
  case round =>
    obtain ⟨k, hk, rfl, ho, hB⟩ := hrel
    by_cases hlt : k < D.length
    · have hlt' : (k : Int) < (D.length : Int) := by omega
      have hk0 : (0 : Int) ≤ (k : Int) := by omega
      obtain ⟨b, off, rfl, hc⟩ := (h.later hB).cells hlt
      obtain ⟨p0, p1⟩ := hc k hlt
      obtain ⟨hx, hy⟩ := hD.getD k
      have hln := rateN_len D k
      have hrd : Hid (rateN D (k + 1) = rateN D k ++ if (D.getD k (0, 0)).1 ≠ 0 ∧ (D.getD k (0, 0)).2 % 2147483648 < 2139095040 then [((D.getD k (0, 0)).1, divN (D.getD k (0, 0)).2 (wholeN (D.getD k (0, 0)).1))] else []) := ⟨rfl⟩
      generalize (D.getD k (0, 0)).1 = x at *
      generalize (D.getD k (0, 0)).2 = y at *
      have hfi := fun W => finP_any y hy W
      obtain ⟨X, hX⟩ : ∃ X, wr.alloc (.cells #[.int .i64 x, .float .f32 y] 35) = X := ⟨_, rfl⟩
      have t0 : X.cell? ⟨wr.heap.size, 0, none⟩ = some (.int .i64 x) := by rw [← hX]; simp
      have t1 : X.cell? ⟨wr.heap.size, 1, none⟩ = some (.float .f32 y) := by rw [← hX]; simp
      have hBX : Below w.heap.size w X := by rw [← hX]; exact hB.alloc hB.size _
      have hoX := ho.alloc (.cells #[.int .i64 x, .float .f32 y] 35)
      rw [hX] at hoX
      replace hX := Hid.mk hX
      by_cases hx0 : x = 0
      · have hxe : (x != 0) = false := by rw [hx0]; rfl
        have hre : Hid (rateN D (k + 1) = rateN D k) := ⟨by rw [hrd.out, if_neg (fun h => h.1 hx0), List.append_nil]⟩
        clear hc hD h hrd hx0 hx
        go_upto_region 5 with fail
        rw [hX.out]
        go_wp2
        go_roundw
        case rel => exact ⟨k + 1, by omega, by go_num, by rw [hre.out]; exact hoX, hBX⟩
        case measure => simp [intOf]; omega
      · have hxe : (x != 0) = true := bne_iff_ne.2 hx0
        by_cases hf : y % 2147483648 < 2139095040
        · have hbf : bf y = true := decide_eq_true hf
          have hre : Hid (rateN D (k + 1) = rateN D k ++ [(x, divN y (wholeN x))]) := ⟨by rw [hrd.out, if_pos ⟨hx0, hf⟩]⟩
          obtain ⟨q1, q2, q3⟩ := whole_some hx0 hx.1 hx.2
          have o1 := conv_f32 x
          have o2 := quo_f32 (div_some hy q1 hf q2 q3)
          rw [hbf] at hfi
          generalize wholeN x = U at *
          generalize divN y U = V at *
          have hoA := hoX.alloc (.cells #[.int .i64 x, .float .f32 V] 35)
          have hBA : Below w.heap.size w (X.alloc (.cells #[.int .i64 x, .float .f32 V] 35)) := hBX.alloc hBX.size _
          have hlv := Hid.mk (fun (j : Nat) hj => (hoX.lt j hj).1)
          clear hc hD h hrd hx0 hx hbf hf q1 q2 q3 hy ho hB
          go_upto_region 5 with fail
          rw [hX.out]
          go_wp2_with (first | (go_at_call 27; refine (hfi _).mono ?_; rintro _ w1 ⟨rfl, hw1⟩; subst w1) | (at_builtin; refine wpList_append_own _ rfl _ _ 27 rfl w.heap.size 35 i0 _ 2 16 Try.underlying27 hi hz0 hz1 hz2 rfl (by decide) _ (rateN D k).length (ptV (rateN D k)) rfl hoA ⟨X.heap.size, 0, none⟩ 1 1 [.int .i64 x, .float .f32 V] rfl rfl (lit_at X _ _) (by simp [Value.oneCell']) (by unfold maxLen; omega) (by omega) hBA.size ?_; intro v4 w4 hown4 hgrow4 _; have hB4 := hBA.grown hgrow4 hBA.size hlv.out))
          go_roundw
          case rel => exact ⟨k + 1, by omega, by go_num, by rw [hre.out, List.length_append, ptV_snoc]; exact hown4, hB4⟩
          case measure => simp [intOf]; omega
        · have hbf : bf y = false := decide_eq_false hf
          have hre : Hid (rateN D (k + 1) = rateN D k) := ⟨by rw [hrd.out, if_neg (fun h => hf h.2), List.append_nil]⟩
          rw [hbf] at hfi
          clear hc hD h hrd hx0 hx hbf hf
          go_upto_region 5 with fail
          rw [hX.out]
          go_wp2_with (go_at_call 27; refine (hfi _).mono ?_; rintro _ w1 ⟨rfl, hw1⟩; subst w1)
          go_roundw
          case rel => exact ⟨k + 1, by omega, by go_num, by rw [hre.out]; exact hoX, hBX⟩
          case measure => simp [intOf]; omega
    · obtain rfl : k = D.length := by omega
      obtain ⟨a', c', rfl, hP⟩ := pt_of_own ho rfl
      go_wp2
      go_ret
      exact ⟨a', c', rfl, hP, hB⟩
end Go.Proofs.Yteefieidfgpijaa.CF
