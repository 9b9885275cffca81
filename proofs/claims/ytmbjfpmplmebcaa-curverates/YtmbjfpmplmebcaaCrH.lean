import Derived.Test.YtmbjfpmplmebcaaCrG
namespace Go.Proofs.Ytmbjfpmplmebcaa.CF
open Go.RowKit
attribute [local go_sem] run_store_float

set_option maxHeartbeats 1000000 in
theorem less_any (a b : Nat) (ha : a < 4294967296) (hb : b < 4294967296) (w : World) : Calls Try.prog 66 #[.int .u32 (a : Int), .int .u32 (b : Int)] w fun e w' => e = .returned (.bool (!nanB a && !nanB b && decide (ordN a < ordN b))) ∧ w' = w := by
  have n1 := nan_any a w
  have n2 := nan_any b w
  have o1 := order_any a ha w
  have o2 := order_any b hb w
  change Calls _ _ _ _ (fun e w' => e = .returned (.bool (nanB a)) ∧ w' = w) at n1
  change Calls _ _ _ _ (fun e w' => e = .returned (.bool (nanB b)) ∧ w' = w) at n2
  generalize nanB a = x at *
  generalize nanB b = y at *
  generalize ordN a = u at *
  generalize ordN b = v at *
  obtain ⟨p, hp⟩ : ∃ p : Int, p = (a : Int) := ⟨_, rfl⟩
  obtain ⟨q, hq⟩ : ∃ q : Int, q = (b : Int) := ⟨_, rfl⟩
  rw [← hp] at n1 o1 ⊢
  rw [← hq] at n2 o2 ⊢
  clear hp hq
  go_enter Try.func66, Try.ntmps66
  go_wp2_with (go_at_call 48; fail)
  refine n1.mono ?_
  rintro _ _ ⟨rfl, rfl⟩
  clear n1
  go_wp2_with (go_at_call 48; fail)
  refine n2.mono ?_
  rintro _ _ ⟨rfl, rfl⟩
  clear n2
  cases x <;> cases y
  · go_wp2_with (go_at_call 67; fail)
    refine o1.mono ?_
    rintro _ _ ⟨rfl, rfl⟩
    clear o1
    go_wp2_with (go_at_call 67; fail)
    refine o2.mono ?_
    rintro _ _ ⟨rfl, rfl⟩
    clear o2
    go_wp2
    go_ret
    exact ⟨by simp, rfl⟩
  all_goals
    go_wp2
    go_ret
    exact ⟨rfl, rfl⟩
theorem nanB_any (a : Nat) (w : World) : Calls Try.prog 48 #[.int .u32 (a : Int)] w fun e w' => e = .returned (.bool (nanB a)) ∧ w' = w := nan_any a w
theorem jmp_ref {d z : Nat} (h1 : nanB d = false) (h2 : nanB z = false) : jmp d z = !(!nanB (d % 2147483648) && !nanB z && decide (ordN (d % 2147483648) < ordN z)) := by
  have h3 : nanB (d % 2147483648) = false := by unfold nanB at *; rw [Nat.mod_mod]; exact h1
  rw [h3, h2]
  have h4 : ordN (d % 2147483648) = ((d % 2147483648 : Nat) : Int) := by unfold ordN; rw [if_neg (by omega)]
  rw [h4]
  have n1 := of_decide_eq_false h1
  have n2 := of_decide_eq_false h2
  unfold jmp
  by_cases h : ((d % 2147483648 : Nat) : Int) < ordN z
  · rw [decide_eq_true h, decide_eq_false (by omega)]; rfl
  · rw [decide_eq_false h, decide_eq_true ⟨by omega, by omega, by omega⟩]; rfl
theorem jmp_no {d z : Nat} (h : (nanB d || nanB z) = true) : jmp d z = false := by
  unfold jmp
  refine decide_eq_false fun hc => ?_
  rcases Bool.or_eq_true_iff.1 h with h1 | h1
  · have := of_decide_eq_true h1; omega
  · have := of_decide_eq_true h1; omega
set_option maxRecDepth 8000 in
set_option maxHeartbeats 2000000 in
theorem jumpsR_any (D : Dots) (hD : Ok D) (hl : D.length ≤ 8796093021952) (z : Nat) (hz : z < 4294967296) (a : Option Addr) (c : Nat) (w : World) (h : RtAt w a D) : Calls Try.prog 52 #[.slice a D.length c, .int .u32 (z : Int)] w (OutJ w (jumpsN D z (D.length - 1))) := by
  obtain ⟨i0, hi, hz0, hz1, hz2⟩ := info_parts infoN
  go_enter Try.func52, Try.ntmps52
  go_wp2
  go_loopw [5, 6] (fun v x wr => ∃ k : Nat, k ≤ D.length - 1 ∧ x = .int .i64 ((k + 1 : Nat) : Int) ∧ wr.ownsRow w.heap.size 3 1 v (jumpsN D z k).length ((jumpsN D z k).map (Value.int .i64)) ∧ Below w.heap.size w wr) (fun _ x _ => D.length - (intOf x).toNat)
  case atStart => exact ⟨0, by omega, rfl, World.ownsRow_nil _ _ _ _, Below.refl _ _⟩
  case round =>
    obtain ⟨k, hk, rfl, ho, hB⟩ := hrel
    by_cases hlt : k + 1 < D.length
    · have hlt' : ((k + 1 : Nat) : Int) < (D.length : Int) := by omega
      obtain ⟨b, off, rfl, hc⟩ := (h.later hB).cells hlt
      obtain ⟨-, s1⟩ := hc k (by omega)
      obtain ⟨-, q1⟩ := hc (k + 1) hlt
      have hu := (hD.getD k).2
      have hv := (hD.getD (k + 1)).2
      have hjl := jumpsN_len D z k
      have hjd : Hid (jumpsN D z (k + 1) = jumpsN D z k ++ if jmp (subN (D.getD (k + 1) (0, 0)).2 (D.getD k (0, 0)).2) z = true then [((k + 1 : Nat) : Int)] else []) := ⟨rfl⟩
      generalize (D.getD (k + 1) (0, 0)).2 = v2 at *
      generalize (D.getD k (0, 0)).2 = u2 at *
      have hsu := fun W => sub_any v2 u2 hv hu W
      have hd2 : subN v2 u2 < 4294967296 := by
        rcases sub_cases hv hu with ⟨-, hse⟩ | ⟨-, -, h2⟩
        · rw [hse]; decide
        · exact h2
      generalize subN v2 u2 = S at *
      have hnS := fun W => nanB_any S W
      have hnz := fun W => nanB_any z W
      have hle := fun W => less_any (S % 2147483648) z (by omega) hz W
      have hj0 : Hid ((nanB S || nanB z) = true → jmp S z = false) := ⟨jmp_no⟩
      have hj1 : Hid (nanB S = false → nanB z = false → jmp S z = !(!nanB (S % 2147483648) && !nanB z && decide (ordN (S % 2147483648) < ordN z))) := ⟨jmp_ref⟩
      obtain ⟨T, hT⟩ : ∃ T, T = S % 2147483648 := ⟨_, rfl⟩
      rw [← hT] at hle hj1
      replace hT := Hid.mk hT
      generalize (!nanB T && !nanB z && decide (ordN T < ordN z)) = L at *
      generalize nanB S = x at *
      generalize nanB z = y at *
      have e1 : IntKind.i64.wrap (((k + 1 : Nat) : Int) - 1) = (k : Int) := by rw [IntKind.wrap_i64]; omega
      have e1' : IntKind.i64.wrap ((k : Int) + 1 - 1) = (k : Int) := by rw [IntKind.wrap_i64]; omega
      have e2 : (0 : Int) ≤ (k : Int) := by omega
      have e3 : (k : Int) < (D.length : Int) := by omega
      have e4 : (0 : Int) ≤ ((k + 1 : Nat) : Int) := by omega
      have e5' : (k : Int) + 1 < (D.length : Int) := by omega
      have e6 : IntKind.i64.wrap (k : Int) = (k : Int) := by rw [IntKind.wrap_i64]; omega
      have e8 : ((k : Int) + 1).toNat = k + 1 := by omega
      have e9 : (0 : Int) ≤ (k : Int) + 1 := by omega
      clear hc hD h hu hv
      go_upto_region 5 with fail
      go_quiet ((go_at_call 61; exact Calls.quiet_of_same (hsu _)))
      obtain ⟨Y, hY⟩ : ∃ Y, World.drewN wr nq = Y := ⟨_, rfl⟩
      have hBY0 : Below wr.heap.size wr Y := by rw [← hY]; exact below_drewN (Below.refl _ _) _
      have hBY : Below w.heap.size w Y := hB.trans (hBY0.mono hB.size)
      have hoY := own_bel ho hBY0
      rw [hY]
      clear hY hBY0 hB ho s1 q1 hsu
      cases x with
      | true =>
        have hje : Hid (jumpsN D z (k + 1) = jumpsN D z k) := ⟨by rw [hjd.out, hj0.out rfl, if_neg (by decide), List.append_nil]⟩
        clear hjd hj0 hj1 hle
        go_wp2_with (first | (go_at_call 48; refine (hnS _).mono ?_; rintro _ w9 ⟨rfl, hw9⟩; subst w9) | (go_at_call 48; refine (hnz _).mono ?_; rintro _ w9 ⟨rfl, hw9⟩; subst w9))
        go_roundw
        case rel => exact ⟨k + 1, by omega, by go_num, by rw [hje.out]; exact hoY, hBY⟩
        case measure => simp [intOf]; omega
      | false =>
        cases y with
        | true =>
          have hje : Hid (jumpsN D z (k + 1) = jumpsN D z k) := ⟨by rw [hjd.out, hj0.out rfl, if_neg (by decide), List.append_nil]⟩
          clear hjd hj0 hj1 hle
          go_wp2_with (first | (go_at_call 48; refine (hnS _).mono ?_; rintro _ w9 ⟨rfl, hw9⟩; subst w9) | (go_at_call 48; refine (hnz _).mono ?_; rintro _ w9 ⟨rfl, hw9⟩; subst w9))
          go_roundw
          case rel => exact ⟨k + 1, by omega, by go_num, by rw [hje.out]; exact hoY, hBY⟩
          case measure => simp [intOf]; omega
        | false =>
          by_cases hs : 2147483648 ≤ S
          · have hs' : (2147483648 : Int) ≤ (S : Int) := by omega
            have hs2 : (S : Int) - 2147483648 = (T : Int) := by have := hT.out; omega
            have hs3 : IntKind.u32.wrap ((S : Int) - 2147483648) = (T : Int) := by rw [hs2, IntKind.wrap_u32]; have := hT.out; omega
            have hs4 : IntKind.u32.wrap (T : Int) = (T : Int) := by rw [IntKind.wrap_u32]; have := hT.out; omega
            clear hs hT
            cases L with
            | true =>
              have hje : Hid (jumpsN D z (k + 1) = jumpsN D z k) := ⟨by rw [hjd.out, hj1.out rfl rfl, if_neg (by decide), List.append_nil]⟩
              clear hjd hj0 hj1
              go_wp2_with (first | (go_at_call 48; refine (hnS _).mono ?_; rintro _ w9 ⟨rfl, hw9⟩; subst w9) | (go_at_call 48; refine (hnz _).mono ?_; rintro _ w9 ⟨rfl, hw9⟩; subst w9) | (go_at_call 66; refine (hle _).mono ?_; rintro _ w9 ⟨rfl, hw9⟩; subst w9))
              go_roundw
              case rel => exact ⟨k + 1, by omega, by go_num, by rw [hje.out]; exact hoY, hBY⟩
              case measure => simp [intOf]; omega
            | false =>
              have hje : Hid (jumpsN D z (k + 1) = jumpsN D z k ++ [((k + 1 : Nat) : Int)]) := ⟨by rw [hjd.out, hj1.out rfl rfl, if_pos (by decide)]⟩
              have hoA := hoY.alloc (.cells #[.int .i64 ((k + 1 : Nat) : Int)] 3)
              have hBA : Below w.heap.size w (Y.alloc (.cells #[.int .i64 ((k + 1 : Nat) : Int)] 3)) := hBY.alloc hBY.size _
              have hlv := Hid.mk (fun (j : Nat) hj => (hoY.lt j hj).1)
              clear hjd hj0 hj1
              go_wp2_with (first | (go_at_call 48; refine (hnS _).mono ?_; rintro _ w9 ⟨rfl, hw9⟩; subst w9) | (go_at_call 48; refine (hnz _).mono ?_; rintro _ w9 ⟨rfl, hw9⟩; subst w9) | (go_at_call 66; refine (hle _).mono ?_; rintro _ w9 ⟨rfl, hw9⟩; subst w9) | (at_builtin; refine wpList_append_own _ rfl _ _ 49 rfl w.heap.size 3 i0 _ 1 8 Try.underlying49 hi hz0 hz1 hz2 rfl (by decide) _ (jumpsN D z k).length ((jumpsN D z k).map (Value.int .i64)) rfl hoA ⟨Y.heap.size, 0, none⟩ 1 1 [.int .i64 ((k + 1 : Nat) : Int)] rfl rfl (lit_at Y _ _) (by simp [Value.oneCell']) (by unfold maxLen; omega) (by omega) hBA.size ?_; intro v4 w4 hown4 hgrow4 _; have hB4 := hBA.grown hgrow4 hBA.size hlv.out))
              go_roundw
              case rel => exact ⟨k + 1, by omega, by go_num, by rw [hje.out, List.length_append, List.map_append]; exact hown4, hB4⟩
              case measure => simp [intOf]; omega
          · obtain rfl : T = S := by have := hT.out; omega
            have hs' : decide ((2147483648 : Int) ≤ (T : Int)) = false := decide_eq_false (by omega)
            clear hs hT hd2 hz
            cases L with
            | true =>
              have hje : Hid (jumpsN D z (k + 1) = jumpsN D z k) := ⟨by rw [hjd.out, hj1.out rfl rfl, if_neg (by decide), List.append_nil]⟩
              clear hjd hj0 hj1
              go_wp2_with (first | (go_at_call 48; refine (hnS _).mono ?_; rintro _ w9 ⟨rfl, hw9⟩; subst w9) | (go_at_call 48; refine (hnz _).mono ?_; rintro _ w9 ⟨rfl, hw9⟩; subst w9) | (go_at_call 66; refine (hle _).mono ?_; rintro _ w9 ⟨rfl, hw9⟩; subst w9))
              go_roundw
              case rel => exact ⟨k + 1, by omega, by go_num, by rw [hje.out]; exact hoY, hBY⟩
              case measure => simp [intOf]; omega
            | false =>
              have hje : Hid (jumpsN D z (k + 1) = jumpsN D z k ++ [((k + 1 : Nat) : Int)]) := ⟨by rw [hjd.out, hj1.out rfl rfl, if_pos (by decide)]⟩
              have hoA := hoY.alloc (.cells #[.int .i64 ((k + 1 : Nat) : Int)] 3)
              have hBA : Below w.heap.size w (Y.alloc (.cells #[.int .i64 ((k + 1 : Nat) : Int)] 3)) := hBY.alloc hBY.size _
              have hlv := Hid.mk (fun (j : Nat) hj => (hoY.lt j hj).1)
              clear hjd hj0 hj1
              go_wp2_with (first | (go_at_call 48; refine (hnS _).mono ?_; rintro _ w9 ⟨rfl, hw9⟩; subst w9) | (go_at_call 48; refine (hnz _).mono ?_; rintro _ w9 ⟨rfl, hw9⟩; subst w9) | (go_at_call 66; refine (hle _).mono ?_; rintro _ w9 ⟨rfl, hw9⟩; subst w9) | (at_builtin; refine wpList_append_own _ rfl _ _ 49 rfl w.heap.size 3 i0 _ 1 8 Try.underlying49 hi hz0 hz1 hz2 rfl (by decide) _ (jumpsN D z k).length ((jumpsN D z k).map (Value.int .i64)) rfl hoA ⟨Y.heap.size, 0, none⟩ 1 1 [.int .i64 ((k + 1 : Nat) : Int)] rfl rfl (lit_at Y _ _) (by simp [Value.oneCell']) (by unfold maxLen; omega) (by omega) hBA.size ?_; intro v4 w4 hown4 hgrow4 _; have hB4 := hBA.grown hgrow4 hBA.size hlv.out))
              go_roundw
              case rel => exact ⟨k + 1, by omega, by go_num, by rw [hje.out, List.length_append, List.map_append]; exact hown4, hB4⟩
              case measure => simp [intOf]; omega
    · obtain rfl : k = D.length - 1 := by omega
      have hlt' : ¬ ((D.length - 1 + 1 : Nat) : Int) < (D.length : Int) := by omega
      obtain ⟨a', c', rfl, hP⟩ := xs_of_own ho
      go_wp2
      exact bodyPost_ret (v := .slice a' (jumpsN D z (D.length - 1)).length c') (by simp [results, Try.results52, go_sem]) rfl ⟨a', c', rfl, hP, hB⟩
end Go.Proofs.Ytmbjfpmplmebcaa.CF
