import Derived.Test.YtaecodgmfmijlaaDoorDFace
import Derived.Test.YtaecodgmfmijlaaDoorDHeld
namespace Go.Proofs.YtaecodgmfmijlaaDoor
open Go.RowKit

theorem monthOf_any (k d : Int) (k0 : 0 ≤ k) (k1 : k < 3600) (w : World) :
    Calls Tryd.prog 32 #[.agg #[.int .i64 (1900 + k / 12), .int .i64 (k % 12 + 1), .int .i64 d]] w fun e w' => e = .returned (.int .i64 k) ∧ Below w.heap.size w w' := by
  have hB := Box3.new w (.int .i64 (1900 + k / 12)) (.int .i64 (k % 12 + 1)) (.int .i64 d) 33
  obtain ⟨b0, b1, b2, -, -, -⟩ := id hB
  have e0 : 1900 + k / 12 - 1900 = k / 12 := by omega
  have e1 : wrap64 (k / 12) = k / 12 := wrap64_id (by omega) (by omega)
  have e2 : wrap64 (k / 12 * 12) = k / 12 * 12 := wrap64_id (by omega) (by omega)
  have e3 : wrap64 (k / 12 * 12 + (k % 12 + 1)) = k + 1 := by rw [wrap64_id (by omega) (by omega)]; omega
  have e4 : wrap64 (k + 1 - 1) = k := by rw [wrap64_id (by omega) (by omega)]; omega
  go_enter Tryd.func32, Tryd.ntmps32
  go_wp2
  go_ret
  exact ⟨ret_int (by omega), (Below.refl _ _).alloc (Nat.le_refl _) _⟩

set_option maxHeartbeats 2000000 in
theorem add_any (n by' v e : Int) (w : World) (hM : Mon w) (h : Hid (D.AddIs n by' v e)) :
    Calls Tryd.prog 17 #[.int .i64 n, .int .i64 by'] w fun en w' => en = .returned (.tuple #[.int .i64 v, .int .i64 e]) ∧ Below w.heap.size w w' := by
  cases h.out with
  | no hn =>
    have hI := isDay_no n hn w
    clear h hn hM
    go_enter Tryd.func17, Tryd.ntmps17
    go_wp2_with (go_at_call 29; refine hI.mono ?_; clear hI; rintro _ w ⟨rfl, rfl⟩)
    exact bodyPost_ret (v := .tuple #[.int .i64 0, .int .i64 21]) (by simp [results, Tryd.results17, go_sem]) rfl ⟨rfl, Below.refl _ _⟩
  | out k d hk ho =>
    have n0 := hk.nn
    have k0 := hk.k0
    have k1 := hk.k1
    have hI := isDay_yes n n0.1 n0.2 w
    have hD := dateOf_any n k d hk w hM
    have hO := monthOf_any k (d + 1) k0 k1
    have e1 : wrap64 (-k) = -k := wrap64_id (by omega) (by omega)
    have e2 : wrap64 (3600 - k) = 3600 - k := wrap64_id (by omega) (by omega)
    generalize 1900 + k / 12 = Y at *
    generalize k % 12 + 1 = M at *
    generalize d + 1 = K at *
    clear h hk n0
    by_cases h1 : by' < -k
    · clear ho
      go_enter Tryd.func17, Tryd.ntmps17
      go_wp2_with (first | (go_at_call 29; refine hI.mono ?_; clear hI; rintro _ w ⟨rfl, rfl⟩) | (go_at_call 22; refine hD.mono ?_; clear hD; rintro _ w1 ⟨rfl, hb1⟩; obtain ⟨q0, q1, q2, -⟩ := Box3.new w1 (.int .i64 Y) (.int .i64 M) (.int .i64 K) 33) | (go_at_call 32; refine (hO _).mono ?_; clear hO; rintro _ w2 ⟨rfl, hb2⟩; have hB := below_step (hb1.alloc hb1.size _) hb2))
      exact bodyPost_ret (v := .tuple #[.int .i64 0, .int .i64 21]) (by simp [results, Tryd.results17, go_sem]) rfl ⟨rfl, hB⟩
    · have h2 : 3600 - k ≤ by' := by omega
      clear ho
      go_enter Tryd.func17, Tryd.ntmps17
      go_wp2_with (first | (go_at_call 29; refine hI.mono ?_; clear hI; rintro _ w ⟨rfl, rfl⟩) | (go_at_call 22; refine hD.mono ?_; clear hD; rintro _ w1 ⟨rfl, hb1⟩; obtain ⟨q0, q1, q2, -⟩ := Box3.new w1 (.int .i64 Y) (.int .i64 M) (.int .i64 K) 33) | (go_at_call 32; refine (hO _).mono ?_; clear hO; rintro _ w2 ⟨rfl, hb2⟩; have hB := below_step (hb1.alloc hb1.size _) hb2))
      exact bodyPost_ret (v := .tuple #[.int .i64 0, .int .i64 21]) (by simp [results, Tryd.results17, go_sem]) rfl ⟨rfl, hB⟩
  | yes k d hk h0 h1 =>
    have n0 := hk.nn
    have k0 := hk.k0
    have k1 := hk.k1
    have d0 := hk.d0
    have d1 := hk.d1
    have hI := isDay_yes n n0.1 n0.2 w
    have hD := dateOf_any n k d hk w hM
    have hO := monthOf_any k (d + 1) k0 k1
    have e1 : wrap64 (-k) = -k := wrap64_id (by omega) (by omega)
    have e2 : wrap64 (3600 - k) = 3600 - k := wrap64_id (by omega) (by omega)
    have t1 : ¬ by' < -k := by omega
    have t2 : ¬ 3600 - k ≤ by' := by omega
    have e3 : wrap64 (k + by') = k + by' := wrap64_id (by omega) (by omega)
    have e4 : (k + by').tdiv 12 = (k + by') / 12 := Int.tdiv_eq_ediv_of_nonneg h0
    have e5 : (k + by').tmod 12 = (k + by') % 12 := Int.tmod_eq_emod_of_nonneg h0
    have e6 : wrap64 (1900 + (k + by') / 12) = 1900 + (k + by') / 12 := wrap64_id (by omega) (by omega)
    have e7 : wrap64 ((k + by') % 12 + 1) = (k + by') % 12 + 1 := wrap64_id (by omega) (by omega)
    have hL := fun W hM => same_below (last_any (1900 + (k + by') / 12) ((k + by') % 12 + 1) W hM (D.ln (k + by')) rfl)
    have hN := fun x W h1 h2 hM => numberOf_any (1900 + (k + by') / 12) ((k + by') % 12 + 1) x (by omega) (by omega) (by omega) (by omega) h1 h2 W hM
    have hlj := D.ln_bd (k + by')
    have hln := D.ln_bd k
    have hv : Hid (D.addv k d by' = D.ys (1900 + (k + by') / 12) + D.ms (1900 + (k + by') / 12) ((k + by') % 12 + 1) + (if D.ln (k + by') < d + 1 then D.ln (k + by') else d + 1) - 1) := by
      unfold Hid D.addv
      unfold D.bg
      split <;> split <;> omega
    obtain ⟨K, hK⟩ : ∃ K, K = d + 1 := ⟨_, rfl⟩
    have K0 : 1 ≤ K ∧ K ≤ 31 := by omega
    rw [← hK] at hv hD hO
    clear hK d0 d1 hln
    generalize D.addv k d by' = V at *
    generalize D.ys (1900 + (k + by') / 12) + D.ms (1900 + (k + by') / 12) ((k + by') % 12 + 1) = B at *
    generalize D.ln (k + by') = L at *
    generalize 1900 + k / 12 = Y at *
    generalize k % 12 + 1 = M at *
    clear h hk n0
    have hst := fun b : Nat => stb_cell.and (stb_mon.and (stb_below (w0 := w))) (P := fun X => X.cell? ⟨b, 2, none⟩ = some (.int .i64 K))
    by_cases c : L < K
    · have hN2 := fun W hM => hN L W (by omega) (by omega) hM
      have hv2 : V = B + L - 1 := by have := hv.out; rw [if_pos c] at this; exact this
      rw [← hv2] at hN2
      clear hN hv hv2
      go_enter Tryd.func17, Tryd.ntmps17
      go_wp2_with (first | (go_at_call 29; refine hI.mono ?_; clear hI; rintro _ w ⟨rfl, rfl⟩) | (go_at_call 22; refine hD.mono ?_; clear hD; rintro _ w1 ⟨rfl, hb1⟩; have hX := Box3.new w1 (.int .i64 Y) (.int .i64 M) (.int .i64 K) 33; obtain ⟨q0, q1, q2, -⟩ := id hX) | (go_at_call 32; refine (hO _).mono ?_; clear hO; rintro _ w2 ⟨rfl, hb2⟩; have hB := below_step (hb1.alloc hb1.size _) hb2; have hX2 := hX.later hb2; have hM2 := hM.later hB))
      generalize 1900 + (k + by') / 12 = Y2 at *
      generalize (k + by') % 12 + 1 = M2 at *
      have hS := hst w1.heap.size w2 _ ⟨hX2.2.2.1, hM2, hB⟩ (Below.refl _ _).drew
      dsimp only at hS
      clear hX hX2 hM2 hB hb1 hb2 q0 q1 q2
      go_region_held3 (fun X => X.cell? ⟨w1.heap.size, 2, none⟩ = some (.int .i64 K) ∧ Mon X ∧ Below w.heap.size w X) (with_reducible assumption)
        (first | (go_at_call 12; refine (heldP (hst w1.heap.size) ?_ (fun h => hL _ h.2.1)).mono ?_; with_reducible assumption; rintro _ w3 ⟨rfl, hS⟩) | (go_at_call 26; refine (heldP (hst w1.heap.size) ?_ (fun h => hN2 _ h.2.1)).mono ?_; with_reducible assumption; rintro _ w3 ⟨rfl, hS⟩))
      go_wp2
      exact bodyPost_ret (v := .tuple #[.int .i64 V, .int .i64 0]) (by simp [results, Tryd.results17, go_sem]) rfl ⟨rfl, hS.2.2⟩
    · have hN2 := fun W hM => hN K W (by omega) (by omega) hM
      have c2 : (if L < K then L else K) = K := if_neg c
      have c3 : decide (L < K) = false := decide_eq_false c
      have hv2 : V = B + K - 1 := by have := hv.out; rw [if_neg c] at this; exact this
      rw [← hv2] at hN2
      clear hN hv hv2
      go_enter Tryd.func17, Tryd.ntmps17
      go_wp2_with (first | (go_at_call 29; refine hI.mono ?_; clear hI; rintro _ w ⟨rfl, rfl⟩) | (go_at_call 22; refine hD.mono ?_; clear hD; rintro _ w1 ⟨rfl, hb1⟩; have hX := Box3.new w1 (.int .i64 Y) (.int .i64 M) (.int .i64 K) 33; obtain ⟨q0, q1, q2, -⟩ := id hX) | (go_at_call 32; refine (hO _).mono ?_; clear hO; rintro _ w2 ⟨rfl, hb2⟩; have hB := below_step (hb1.alloc hb1.size _) hb2; have hX2 := hX.later hb2; have hM2 := hM.later hB))
      generalize 1900 + (k + by') / 12 = Y2 at *
      generalize (k + by') % 12 + 1 = M2 at *
      have hS := hst w1.heap.size w2 _ ⟨hX2.2.2.1, hM2, hB⟩ (Below.refl _ _).drew
      dsimp only at hS
      clear hX hX2 hM2 hB hb1 hb2 q0 q1 q2
      go_region_held3 (fun X => X.cell? ⟨w1.heap.size, 2, none⟩ = some (.int .i64 K) ∧ Mon X ∧ Below w.heap.size w X) (with_reducible assumption)
        (first | (go_at_call 12; refine (heldP (hst w1.heap.size) ?_ (fun h => hL _ h.2.1)).mono ?_; with_reducible assumption; rintro _ w3 ⟨rfl, hS⟩) | (go_at_call 26; refine (heldP (hst w1.heap.size) ?_ (fun h => hN2 _ h.2.1)).mono ?_; with_reducible assumption; rintro _ w3 ⟨rfl, hS⟩))
      go_wp2
      exact bodyPost_ret (v := .tuple #[.int .i64 V, .int .i64 0]) (by simp [results, Tryd.results17, go_sem]) rfl ⟨rfl, hS.2.2⟩

end Go.Proofs.YtaecodgmfmijlaaDoor
