import Derived.Test.YtaecodgmfmijlaaDoorDCopy
import Derived.Test.YtaecodgmfmijlaaDoorDKnown
import Derived.Test.YtaecodgmfmijlaaDoorDHeldF
namespace Go.Proofs.YtaecodgmfmijlaaDoor
open Go.RowKit Go.Maps

/-- What is asked of Held a year later, and a day after that. -/
theorem held_year {n v : Int} (hn : 0 ≤ n ∧ n ≤ 109572) (h : D.AddIs n 12 v 0) : (0 ≤ v ∧ v ≤ 109572) ∧ HeldIs n v false 0 ∧ (v < 109572 → HeldIs n (v + 1) true 0) := by
  have h' := h
  generalize he : (0 : Int) = f at h'
  cases h' with
  | no h => omega
  | out => omega
  | yes k d hk h0 h1 =>
    have hA := D.addv_at hk h0 h1
    have hb := hA.nn
    have l1 := hA.lo
    have l2 := hk.hi
    have l3 := D.bg_mono (show k + 1 ≤ k + 12 by omega)
    have a1 := HeldIs.yes ⟨hn, hb⟩ (by omega) _ _ h
    refine ⟨hb, by simpa using a1, fun hv => ?_⟩
    have a2 := HeldIs.yes (a := n) (b := D.addv k d 12 + 1) ⟨hn, by omega⟩ (by omega) _ _ h
    have e2 : decide (D.addv k d 12 < D.addv k d 12 + 1) = true := decide_eq_true (by omega)
    rw [e2] at a2
    exact a2

theorem free_step {fb : Bool} {k x : Int} {zs : List Int} {j : Nat} (hj : j < zs.length) (hx : zs.getD j 0 = x) (h : fb = true ↔ (5 ≤ k % 7 ∨ k ∈ zs.take j)) : (fb || x == k) = true ↔ (5 ≤ k % 7 ∨ k ∈ zs.take (j + 1)) := by
  have htk : zs.take (j + 1) = zs.take j ++ [x] := by rw [List.take_add_one, ← hx]; simp [List.getD, hj]
  rw [htk]
  simp only [Bool.or_eq_true, List.mem_append, List.mem_singleton, h, beq_iff_eq]
  constructor
  · rintro ((h | h) | h)
    · exact .inl h
    · exact .inr (.inl h)
    · exact .inr (.inr h.symm)
  · rintro (h | h | h)
    · exact .inl (.inl h)
    · exact .inl (.inr h)
    · exact .inr h.symm

set_option maxHeartbeats 4000000 in
set_option maxRecDepth 100000 in
theorem work_some_yes (n0 : Int) (b off cap : Nat) (hcap : (some (⟨b, off, none⟩ : Addr)) = none → cap = 0) (zs : List Int) (w : World) (hM : Mon w) (hN : Nums w (some ⟨b, off, none⟩) zs) (hb : b < w.heap.size) (hc : ∀ i, i < zs.length → w.cell? ⟨b, off + i, none⟩ = some (.int .i64 (zs.getD i 0)))
    (n r : Int) (hA : ∀ W, Calls Tryd.prog 10 #[.int .i64 n0] W fun e w' => e = .returned (.int .i64 n) ∧ w' = W) (hd : 0 ≤ n ∧ n ≤ 109572) (hDu : Hid (DueIs n zs r 0)) (h1 : n ≤ r) (h2 : r ≤ 109572) (hbz : ∀ k, n ≤ k → k ≤ r → k ≤ 109572 → (Busy zs k ↔ k ≠ r)) (v f : Int) (hAdd : Hid (D.AddIs n 12 v f)) (hf : f = 21 ∨ f = 0) :
    Calls Tryd.prog 5 #[.int .i64 n0, .slice (some ⟨b, off, none⟩) zs.length cap] w fun e w' => e = .returned (.bool true) ∧ Below w.heap.size w w' := by
  go_enter Tryd.func5, Tryd.ntmps5
  go_wp2_with (first | (go_at_call 9; refine (known_true _ hM).mono ?_; rintro _ w1 ⟨rfl, hb1⟩; have hM1 := hM.later hb1; have hN1 := hN.later hb1) | (go_at_call 10; refine (hA _).mono ?_; clear hA; rintro _ w1 ⟨rfl, rfl⟩) | (at_builtin; refine wpList_copy _ rfl _ _ rfl rfl (some ⟨b, off, none⟩) cap zs rfl hcap hN1 ?_; intro a2 cap2 w2 hcap2 hN2 hb2; have hM2 := hM1.later hb2; have hN3 := hN1.later hb2; have hB2 := below_step hb1 hb2) | (go_at_call 15; refine (due_any n a2 cap2 zs _ _ hDu _ hN2).mono ?_; rintro _ w3 ⟨rfl, hb3⟩; have hM3 := hM2.later hb3; have hN4 := hN3.later hb3; have hB3 := below_step hB2 hb3))
  have hl8 := hN.1.1
  clear hb1 hM1 hN1 hb2 hcap2 hN2 hM2 hN3 hB2 hb3 hM hN hDu
  have hcell : ∀ i, i < zs.length → w3.cell? ⟨b, off + i, none⟩ = some (.int .i64 (zs.getD i 0)) := fun i hi => (hB3.cell (p := ⟨b, off + i, none⟩) hb).trans (hc i hi)
  clear hN4
  go_loopw [9] (fun v wr => ∃ k : Int, v = .int .i64 k ∧ n ≤ k ∧ k ≤ r + 1 ∧ k ≤ 109573 ∧ wr = w3)
    (fun v _ => (109574 - intOf v).toNat)
  case atStart => exact ⟨n, rfl, by omega, by omega, by omega, rfl⟩
  case round =>
    obtain ⟨k, rfl, k0, k1, k2, rfl⟩ := hrel
    by_cases c : k ≤ r ∧ k ≤ 109572
    · obtain ⟨c1, c2⟩ := c
      have hwd := weekday_any k wr (k % 7 + 1) 0 (by unfold Hid D.wk; rw [if_pos (by omega)])
      go_wp2_with (go_at_call 16; refine hwd.mono ?_; clear hwd; rintro _ w4 ⟨rfl, rfl⟩)
      go_loopw [12, 13] (fun u v wr' => ∃ (j : Nat) (fb : Bool), j ≤ zs.length ∧ u = .bool fb ∧ v = .int .i64 j ∧ (fb = true ↔ (5 ≤ k % 7 ∨ k ∈ zs.take j)) ∧ wr' = w4)
        (fun _ v _ => zs.length - (intOf v).toNat)
      case atStart => exact ⟨0, _, Nat.zero_le _, rfl, rfl, by simp; omega, rfl⟩
      case round =>
        obtain ⟨j, fb, hj, rfl, rfl, hfb, rfl⟩ := hrel
        by_cases hlt : j < zs.length
        · obtain ⟨x, hx⟩ : ∃ x, zs.getD j 0 = x := ⟨_, rfl⟩
          have hcx := hcell j hlt
          rw [hx] at hcx
          have hst : Hid _ := free_step hlt hx hfb
          have hx2 : Hid (zs[j] = x) := by unfold Hid; rw [← hx]; simp [List.getD, hlt]
          clear hx hfb
          cases fb with
          | true =>
            go_wp2
            go_roundw
            case rel => exact ⟨j + 1, true, hlt, rfl, by go_num, by simpa using hst.out, by trivial⟩
            case measure => simp [intOf]; omega
          | false =>
            go_wp2
            go_roundw
            case rel => exact ⟨j + 1, x == k, hlt, by rw [hx2.out], by go_num, by simpa using hst.out, by trivial⟩
            case measure => simp [intOf]; omega
        · obtain rfl : j = zs.length := by omega
          rw [List.take_length] at hfb
          have hbk := hbz k k0 c1 c2
          clear hbz
          by_cases hk : k = r
          · subst hk
            obtain rfl : fb = false := by
              cases fb
              · rfl
              · exact absurd rfl (hbk.1 ((hfb.1 rfl).symm))
            go_wp2
            go_roundw
            case rel => exact ⟨k + 1, by go_num, by omega, by omega, by omega, by trivial⟩
            case measure => simp [intOf]; omega
          · have hkb : (k == r) = false := by simpa using hk
            obtain rfl : fb = true := hfb.2 (hbk.2 hk).symm
            go_wp2
            go_roundw
            case rel => exact ⟨k + 1, by go_num, by omega, by omega, by omega, by trivial⟩
            case measure => simp [intOf]; omega
    · rcases hf with rfl | rfl
      · go_wp2_with (go_at_call 17; refine (add_any n 12 v 21 _ hM3 hAdd).mono ?_; rintro _ w4 ⟨rfl, hb4⟩; have hB4 := below_step hB3 hb4)
        all_goals (go_ret; exact ⟨rfl, hB4⟩)
      · obtain ⟨hv, hH1, hH2⟩ := held_year hd hAdd.out
        by_cases hv2 : v = 109572
        · subst hv2
          go_wp2_with (go_at_call 17; refine (add_any n 12 109572 0 _ hM3 hAdd).mono ?_; rintro _ w4 ⟨rfl, hb4⟩; have hB4 := below_step hB3 hb4)
          all_goals (go_ret; exact ⟨rfl, hB4⟩)
        · have hv3 : (v == 109572) = false := by simpa using hv2
          have hH3 : Hid (HeldIs n (v + 1) true 0) := hH2 (by omega)
          have hH4 : Hid (HeldIs n v false 0) := hH1
          clear hH1 hH2
          go_wp2_with (first | (go_at_call 17; refine (add_any n 12 v 0 _ hM3 hAdd).mono ?_; rintro _ w4 ⟨rfl, hb4⟩; have hM4 := hM3.later hb4; have hB4 := below_step hB3 hb4) | (go_at_call 18; refine (held_any n v false 0 hH4 _ hM4).mono ?_; clear hH4; rintro _ w5 ⟨rfl, hb5⟩; have hM5 := hM4.later hb5; have hB5 := below_step hB4 hb5) | (go_at_call 18; refine (held_any n (v + 1) true 0 hH3 _ hM5).mono ?_; rintro _ w6 ⟨rfl, hb6⟩; have hB6 := below_step hB5 hb6))
          all_goals (go_ret; exact ⟨rfl, hB6⟩)

set_option maxHeartbeats 4000000 in
set_option maxRecDepth 100000 in
theorem work_some_none (n0 : Int) (b off cap : Nat) (hcap : (some (⟨b, off, none⟩ : Addr)) = none → cap = 0) (zs : List Int) (w : World) (hM : Mon w) (hN : Nums w (some ⟨b, off, none⟩) zs) (hb : b < w.heap.size) (hc : ∀ i, i < zs.length → w.cell? ⟨b, off + i, none⟩ = some (.int .i64 (zs.getD i 0)))
    (n : Int) (hA : ∀ W, Calls Tryd.prog 10 #[.int .i64 n0] W fun e w' => e = .returned (.int .i64 n) ∧ w' = W) (hd : 0 ≤ n ∧ n ≤ 109572) (hDu : Hid (DueIs n zs 0 21)) (hbz : ∀ k, n ≤ k → k ≤ 109573 → k ≤ 109572 → (Busy zs k ↔ k ≠ 109573)) (v f : Int) (hAdd : Hid (D.AddIs n 12 v f)) (hf : f = 21 ∨ f = 0) :
    Calls Tryd.prog 5 #[.int .i64 n0, .slice (some ⟨b, off, none⟩) zs.length cap] w fun e w' => e = .returned (.bool true) ∧ Below w.heap.size w w' := by
  go_enter Tryd.func5, Tryd.ntmps5
  go_wp2_with (first | (go_at_call 9; refine (known_true _ hM).mono ?_; rintro _ w1 ⟨rfl, hb1⟩; have hM1 := hM.later hb1; have hN1 := hN.later hb1) | (go_at_call 10; refine (hA _).mono ?_; clear hA; rintro _ w1 ⟨rfl, rfl⟩) | (at_builtin; refine wpList_copy _ rfl _ _ rfl rfl (some ⟨b, off, none⟩) cap zs rfl hcap hN1 ?_; intro a2 cap2 w2 hcap2 hN2 hb2; have hM2 := hM1.later hb2; have hN3 := hN1.later hb2; have hB2 := below_step hb1 hb2) | (go_at_call 15; refine (due_any n a2 cap2 zs _ _ hDu _ hN2).mono ?_; rintro _ w3 ⟨rfl, hb3⟩; have hM3 := hM2.later hb3; have hN4 := hN3.later hb3; have hB3 := below_step hB2 hb3))
  have hl8 := hN.1.1
  clear hb1 hM1 hN1 hb2 hcap2 hN2 hM2 hN3 hB2 hb3 hM hN hDu
  have hcell : ∀ i, i < zs.length → w3.cell? ⟨b, off + i, none⟩ = some (.int .i64 (zs.getD i 0)) := fun i hi => (hB3.cell (p := ⟨b, off + i, none⟩) hb).trans (hc i hi)
  clear hN4
  go_loopw [9] (fun v wr => ∃ k : Int, v = .int .i64 k ∧ n ≤ k ∧ k ≤ 109573 + 1 ∧ k ≤ 109573 ∧ wr = w3)
    (fun v _ => (109574 - intOf v).toNat)
  case atStart => exact ⟨n, rfl, by omega, by omega, by omega, rfl⟩
  case round =>
    obtain ⟨k, rfl, k0, k1, k2, rfl⟩ := hrel
    by_cases c : k ≤ 109573 ∧ k ≤ 109572
    · obtain ⟨c1, c2⟩ := c
      have hwd := weekday_any k wr (k % 7 + 1) 0 (by unfold Hid D.wk; rw [if_pos (by omega)])
      go_wp2_with (go_at_call 16; refine hwd.mono ?_; clear hwd; rintro _ w4 ⟨rfl, rfl⟩)
      go_loopw [12, 13] (fun u v wr' => ∃ (j : Nat) (fb : Bool), j ≤ zs.length ∧ u = .bool fb ∧ v = .int .i64 j ∧ (fb = true ↔ (5 ≤ k % 7 ∨ k ∈ zs.take j)) ∧ wr' = w4)
        (fun _ v _ => zs.length - (intOf v).toNat)
      case atStart => exact ⟨0, _, Nat.zero_le _, rfl, rfl, by simp; omega, rfl⟩
      case round =>
        obtain ⟨j, fb, hj, rfl, rfl, hfb, rfl⟩ := hrel
        by_cases hlt : j < zs.length
        · obtain ⟨x, hx⟩ : ∃ x, zs.getD j 0 = x := ⟨_, rfl⟩
          have hcx := hcell j hlt
          rw [hx] at hcx
          have hst : Hid _ := free_step hlt hx hfb
          have hx2 : Hid (zs[j] = x) := by unfold Hid; rw [← hx]; simp [List.getD, hlt]
          clear hx hfb
          cases fb with
          | true =>
            go_wp2
            go_roundw
            case rel => exact ⟨j + 1, true, hlt, rfl, by go_num, by simpa using hst.out, by trivial⟩
            case measure => simp [intOf]; omega
          | false =>
            go_wp2
            go_roundw
            case rel => exact ⟨j + 1, x == k, hlt, by rw [hx2.out], by go_num, by simpa using hst.out, by trivial⟩
            case measure => simp [intOf]; omega
        · obtain rfl : j = zs.length := by omega
          rw [List.take_length] at hfb
          have hbk := hbz k k0 c1 c2
          clear hbz
          have hk : ¬ k = 109573 := by omega
          have hkb : (k == 109573) = false := by simpa using hk
          obtain rfl : fb = true := hfb.2 (hbk.2 hk).symm
          go_wp2
          go_roundw
          case rel => exact ⟨k + 1, by go_num, by omega, by omega, by omega, by trivial⟩
          case measure => simp [intOf]; omega
    · rcases hf with rfl | rfl
      · go_wp2_with (go_at_call 17; refine (add_any n 12 v 21 _ hM3 hAdd).mono ?_; rintro _ w4 ⟨rfl, hb4⟩; have hB4 := below_step hB3 hb4)
        all_goals (go_ret; exact ⟨rfl, hB4⟩)
      · obtain ⟨hv, hH1, hH2⟩ := held_year hd hAdd.out
        by_cases hv2 : v = 109572
        · subst hv2
          go_wp2_with (go_at_call 17; refine (add_any n 12 109572 0 _ hM3 hAdd).mono ?_; rintro _ w4 ⟨rfl, hb4⟩; have hB4 := below_step hB3 hb4)
          all_goals (go_ret; exact ⟨rfl, hB4⟩)
        · have hv3 : (v == 109572) = false := by simpa using hv2
          have hH3 : Hid (HeldIs n (v + 1) true 0) := hH2 (by omega)
          have hH4 : Hid (HeldIs n v false 0) := hH1
          clear hH1 hH2
          go_wp2_with (first | (go_at_call 17; refine (add_any n 12 v 0 _ hM3 hAdd).mono ?_; rintro _ w4 ⟨rfl, hb4⟩; have hM4 := hM3.later hb4; have hB4 := below_step hB3 hb4) | (go_at_call 18; refine (held_any n v false 0 hH4 _ hM4).mono ?_; clear hH4; rintro _ w5 ⟨rfl, hb5⟩; have hM5 := hM4.later hb5; have hB5 := below_step hB4 hb5) | (go_at_call 18; refine (held_any n (v + 1) true 0 hH3 _ hM5).mono ?_; rintro _ w6 ⟨rfl, hb6⟩; have hB6 := below_step hB5 hb6))
          all_goals (go_ret; exact ⟨rfl, hB6⟩)

set_option maxHeartbeats 4000000 in
set_option maxRecDepth 100000 in
theorem work_nil_yes (n0 : Int) (a : Option Addr) (cap : Nat) (hcap : a = none → cap = 0) (w : World) (hM : Mon w) (hN : Nums w a [])
    (n r : Int) (hA : ∀ W, Calls Tryd.prog 10 #[.int .i64 n0] W fun e w' => e = .returned (.int .i64 n) ∧ w' = W) (hd : 0 ≤ n ∧ n ≤ 109572) (hDu : Hid (DueIs n [] r 0)) (h1 : n ≤ r) (h2 : r ≤ 109572) (hbz : ∀ k, n ≤ k → k ≤ r → k ≤ 109572 → (Busy [] k ↔ k ≠ r)) (v f : Int) (hAdd : Hid (D.AddIs n 12 v f)) (hf : f = 21 ∨ f = 0) :
    Calls Tryd.prog 5 #[.int .i64 n0, .slice a 0 cap] w fun e w' => e = .returned (.bool true) ∧ Below w.heap.size w w' := by
  go_enter Tryd.func5, Tryd.ntmps5
  go_wp2_with (first | (go_at_call 9; refine (known_true _ hM).mono ?_; rintro _ w1 ⟨rfl, hb1⟩; have hM1 := hM.later hb1; have hN1 := hN.later hb1) | (go_at_call 10; refine (hA _).mono ?_; clear hA; rintro _ w1 ⟨rfl, rfl⟩) | (at_builtin; refine wpList_copy _ rfl _ _ rfl rfl a cap [] rfl hcap hN1 ?_; intro a2 cap2 w2 hcap2 hN2 hb2; have hM2 := hM1.later hb2; have hN3 := hN1.later hb2; have hB2 := below_step hb1 hb2) | (go_at_call 15; refine (due_any n a2 cap2 [] _ _ hDu _ hN2).mono ?_; rintro _ w3 ⟨rfl, hb3⟩; have hM3 := hM2.later hb3; have hN4 := hN3.later hb3; have hB3 := below_step hB2 hb3))
  clear hb1 hM1 hN1 hb2 hcap2 hN2 hM2 hN3 hB2 hb3 hM hN hDu
  clear hN4
  go_loopw [9] (fun v wr => ∃ k : Int, v = .int .i64 k ∧ n ≤ k ∧ k ≤ r + 1 ∧ k ≤ 109573 ∧ wr = w3)
    (fun v _ => (109574 - intOf v).toNat)
  case atStart => exact ⟨n, rfl, by omega, by omega, by omega, rfl⟩
  case round =>
    obtain ⟨k, rfl, k0, k1, k2, rfl⟩ := hrel
    by_cases c : k ≤ r ∧ k ≤ 109572
    · obtain ⟨c1, c2⟩ := c
      have hwd := weekday_any k wr (k % 7 + 1) 0 (by unfold Hid D.wk; rw [if_pos (by omega)])
      go_wp2_with (go_at_call 16; refine hwd.mono ?_; clear hwd; rintro _ w4 ⟨rfl, rfl⟩)
      have hbk := hbz k k0 c1 c2
      simp only [Busy, List.not_mem_nil, false_or] at hbk
      clear hbz
      by_cases hk : k = r
      · subst hk
        have hw : ¬ 6 ≤ k % 7 + 1 := by omega
        refine wp_loop_rounds 1 ?_
        rw [rounds_succ]
        go_wp2
        go_roundw
        case rel => exact ⟨k + 1, by go_num, by omega, by omega, by omega, by trivial⟩
        case measure => simp [intOf]; omega
      · have hkb : (k == r) = false := by simpa using hk
        have hw : 6 ≤ k % 7 + 1 := by have := hbk.2 hk; omega
        refine wp_loop_rounds 1 ?_
        rw [rounds_succ]
        go_wp2
        go_roundw
        case rel => exact ⟨k + 1, by go_num, by omega, by omega, by omega, by trivial⟩
        case measure => simp [intOf]; omega
    · rcases hf with rfl | rfl
      · go_wp2_with (go_at_call 17; refine (add_any n 12 v 21 _ hM3 hAdd).mono ?_; rintro _ w4 ⟨rfl, hb4⟩; have hB4 := below_step hB3 hb4)
        all_goals (go_ret; exact ⟨rfl, hB4⟩)
      · obtain ⟨hv, hH1, hH2⟩ := held_year hd hAdd.out
        by_cases hv2 : v = 109572
        · subst hv2
          go_wp2_with (go_at_call 17; refine (add_any n 12 109572 0 _ hM3 hAdd).mono ?_; rintro _ w4 ⟨rfl, hb4⟩; have hB4 := below_step hB3 hb4)
          all_goals (go_ret; exact ⟨rfl, hB4⟩)
        · have hv3 : (v == 109572) = false := by simpa using hv2
          have hH3 : Hid (HeldIs n (v + 1) true 0) := hH2 (by omega)
          have hH4 : Hid (HeldIs n v false 0) := hH1
          clear hH1 hH2
          go_wp2_with (first | (go_at_call 17; refine (add_any n 12 v 0 _ hM3 hAdd).mono ?_; rintro _ w4 ⟨rfl, hb4⟩; have hM4 := hM3.later hb4; have hB4 := below_step hB3 hb4) | (go_at_call 18; refine (held_any n v false 0 hH4 _ hM4).mono ?_; clear hH4; rintro _ w5 ⟨rfl, hb5⟩; have hM5 := hM4.later hb5; have hB5 := below_step hB4 hb5) | (go_at_call 18; refine (held_any n (v + 1) true 0 hH3 _ hM5).mono ?_; rintro _ w6 ⟨rfl, hb6⟩; have hB6 := below_step hB5 hb6))
          all_goals (go_ret; exact ⟨rfl, hB6⟩)

set_option maxHeartbeats 4000000 in
set_option maxRecDepth 100000 in
theorem work_nil_none (n0 : Int) (a : Option Addr) (cap : Nat) (hcap : a = none → cap = 0) (w : World) (hM : Mon w) (hN : Nums w a [])
    (n : Int) (hA : ∀ W, Calls Tryd.prog 10 #[.int .i64 n0] W fun e w' => e = .returned (.int .i64 n) ∧ w' = W) (hd : 0 ≤ n ∧ n ≤ 109572) (hDu : Hid (DueIs n [] 0 21)) (hbz : ∀ k, n ≤ k → k ≤ 109573 → k ≤ 109572 → (Busy [] k ↔ k ≠ 109573)) (v f : Int) (hAdd : Hid (D.AddIs n 12 v f)) (hf : f = 21 ∨ f = 0) :
    Calls Tryd.prog 5 #[.int .i64 n0, .slice a 0 cap] w fun e w' => e = .returned (.bool true) ∧ Below w.heap.size w w' := by
  go_enter Tryd.func5, Tryd.ntmps5
  go_wp2_with (first | (go_at_call 9; refine (known_true _ hM).mono ?_; rintro _ w1 ⟨rfl, hb1⟩; have hM1 := hM.later hb1; have hN1 := hN.later hb1) | (go_at_call 10; refine (hA _).mono ?_; clear hA; rintro _ w1 ⟨rfl, rfl⟩) | (at_builtin; refine wpList_copy _ rfl _ _ rfl rfl a cap [] rfl hcap hN1 ?_; intro a2 cap2 w2 hcap2 hN2 hb2; have hM2 := hM1.later hb2; have hN3 := hN1.later hb2; have hB2 := below_step hb1 hb2) | (go_at_call 15; refine (due_any n a2 cap2 [] _ _ hDu _ hN2).mono ?_; rintro _ w3 ⟨rfl, hb3⟩; have hM3 := hM2.later hb3; have hN4 := hN3.later hb3; have hB3 := below_step hB2 hb3))
  clear hb1 hM1 hN1 hb2 hcap2 hN2 hM2 hN3 hB2 hb3 hM hN hDu
  clear hN4
  go_loopw [9] (fun v wr => ∃ k : Int, v = .int .i64 k ∧ n ≤ k ∧ k ≤ 109573 + 1 ∧ k ≤ 109573 ∧ wr = w3)
    (fun v _ => (109574 - intOf v).toNat)
  case atStart => exact ⟨n, rfl, by omega, by omega, by omega, rfl⟩
  case round =>
    obtain ⟨k, rfl, k0, k1, k2, rfl⟩ := hrel
    by_cases c : k ≤ 109573 ∧ k ≤ 109572
    · obtain ⟨c1, c2⟩ := c
      have hwd := weekday_any k wr (k % 7 + 1) 0 (by unfold Hid D.wk; rw [if_pos (by omega)])
      go_wp2_with (go_at_call 16; refine hwd.mono ?_; clear hwd; rintro _ w4 ⟨rfl, rfl⟩)
      have hbk := hbz k k0 c1 c2
      simp only [Busy, List.not_mem_nil, false_or] at hbk
      clear hbz
      have hk : ¬ k = 109573 := by omega
      have hkb : (k == 109573) = false := by simpa using hk
      have hw : 6 ≤ k % 7 + 1 := by have := hbk.2 hk; omega
      refine wp_loop_rounds 1 ?_
      rw [rounds_succ]
      go_wp2
      go_roundw
      case rel => exact ⟨k + 1, by go_num, by omega, by omega, by omega, by trivial⟩
      case measure => simp [intOf]; omega
    · rcases hf with rfl | rfl
      · go_wp2_with (go_at_call 17; refine (add_any n 12 v 21 _ hM3 hAdd).mono ?_; rintro _ w4 ⟨rfl, hb4⟩; have hB4 := below_step hB3 hb4)
        all_goals (go_ret; exact ⟨rfl, hB4⟩)
      · obtain ⟨hv, hH1, hH2⟩ := held_year hd hAdd.out
        by_cases hv2 : v = 109572
        · subst hv2
          go_wp2_with (go_at_call 17; refine (add_any n 12 109572 0 _ hM3 hAdd).mono ?_; rintro _ w4 ⟨rfl, hb4⟩; have hB4 := below_step hB3 hb4)
          all_goals (go_ret; exact ⟨rfl, hB4⟩)
        · have hv3 : (v == 109572) = false := by simpa using hv2
          have hH3 : Hid (HeldIs n (v + 1) true 0) := hH2 (by omega)
          have hH4 : Hid (HeldIs n v false 0) := hH1
          clear hH1 hH2
          go_wp2_with (first | (go_at_call 17; refine (add_any n 12 v 0 _ hM3 hAdd).mono ?_; rintro _ w4 ⟨rfl, hb4⟩; have hM4 := hM3.later hb4; have hB4 := below_step hB3 hb4) | (go_at_call 18; refine (held_any n v false 0 hH4 _ hM4).mono ?_; clear hH4; rintro _ w5 ⟨rfl, hb5⟩; have hM5 := hM4.later hb5; have hB5 := below_step hB4 hb5) | (go_at_call 18; refine (held_any n (v + 1) true 0 hH3 _ hM5).mono ?_; rintro _ w6 ⟨rfl, hb6⟩; have hB6 := below_step hB5 hb6))
          all_goals (go_ret; exact ⟨rfl, hB6⟩)

theorem work_walk (n0 : Int) (a : Option Addr) (cap : Nat) (hcap : a = none → cap = 0) (zs : List Int) (w : World) (hM : Mon w) (hn : -9223372036854775808 ≤ n0 ∧ n0 ≤ 9223372036854775807) (hN : Nums w a zs) :
    Calls Tryd.prog 5 #[.int .i64 n0, .slice a zs.length cap] w fun e w' => e = .returned (.bool true) ∧ Below w.heap.size w w' := by
  have hA := fun W => day_any n0 hn.1 hn.2 W
  have hd := D.dn_bd n0
  obtain ⟨v, f, hAdd⟩ := D.add_ex (D.dn n0) 12
  have hf : f = 21 ∨ f = 0 := by cases hAdd <;> simp
  obtain ⟨r, e, hDue⟩ := due_ex (D.dn n0) zs
  have hcases : (∃ r, DueIs (D.dn n0) zs r 0 ∧ D.dn n0 ≤ r ∧ r ≤ 109572 ∧ ∀ k, D.dn n0 ≤ k → k ≤ r → k ≤ 109572 → (Busy zs k ↔ k ≠ r)) ∨ (DueIs (D.dn n0) zs 0 21 ∧ ∀ k, D.dn n0 ≤ k → k ≤ 109573 → k ≤ 109572 → (Busy zs k ↔ k ≠ 109573)) := by
    have hD2 := hDue
    cases hDue with
    | no h => exact absurd hd h
    | yes h _ h1 h2 h3 h4 =>
      refine .inl ⟨r, hD2, h1, h2, fun k g1 g2 _ => ⟨fun hB e => h3 (e ▸ hB), fun hne => h4 k g1 (by omega)⟩⟩
    | none h h4 => exact .inr ⟨hD2, fun k g1 _ g3 => ⟨fun _ => by omega, fun _ => h4 k g1 g3⟩⟩
  have hN0 := hN
  obtain ⟨h0, hz | ⟨b, off, rfl, hlt, hc⟩⟩ := hN
  · subst hz
    rcases hcases with ⟨r, q1, q2, q3, q4⟩ | ⟨q1, q4⟩
    · exact work_nil_yes n0 a cap hcap w hM hN0 _ r hA hd q1 q2 q3 q4 v f hAdd hf
    · exact work_nil_none n0 a cap hcap w hM hN0 _ hA hd q1 q4 v f hAdd hf
  · rcases hcases with ⟨r, q1, q2, q3, q4⟩ | ⟨q1, q4⟩
    · exact work_some_yes n0 b off cap hcap zs w hM hN0 hlt hc _ r hA hd q1 q2 q3 q4 v f hAdd hf
    · exact work_some_none n0 b off cap hcap zs w hM hN0 hlt hc _ hA hd q1 q4 v f hAdd hf

end Go.Proofs.YtaecodgmfmijlaaDoor
