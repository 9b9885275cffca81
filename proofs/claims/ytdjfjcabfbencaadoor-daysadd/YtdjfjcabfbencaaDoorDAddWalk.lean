import Derived.Test.YtdjfjcabfbencaaDoorDSpan
import Derived.Test.YtdjfjcabfbencaaDoorDHeld
import Derived.Test.YtdjfjcabfbencaaDoorDKnown
import Derived.Test.YtdjfjcabfbencaaDoorDPlain2
namespace Go.Proofs.YtdjfjcabfbencaaDoor
open Go.RowKit

theorem wrapI {z : Int} (h1 : -9000000000000000000 ≤ z) (h2 : z ≤ 9000000000000000000) : IntKind.i64.wrap z = z := by rw [IntKind.wrap_i64]; omega

set_option maxHeartbeats 4000000 in
set_option maxRecDepth 4000 in
theorem dadd_walk (n0 m0 b0 : Int) (w : World) (hM : Mon w) (hn : -9223372036854775808 ≤ n0 ∧ n0 ≤ 9223372036854775807) (hm : -9223372036854775808 ≤ m0 ∧ m0 ≤ 9223372036854775807) :
    Calls Tryd.prog 4 #[.int .i64 n0, .int .i64 m0, .int .i64 b0] w fun e w' => e = .returned (.bool true) ∧ Below w.heap.size w w' := by
  have hA := fun W => day_any n0 hn.1 hn.2 W
  have hB := fun W => day_any m0 hm.1 hm.2 W
  obtain ⟨k, d, hk⟩ := D.at_ex _ (D.dn_bd n0).1 (D.dn_bd n0).2
  obtain ⟨k2, d2, hk2⟩ := D.at_ex _ (D.dn_bd m0).1 (D.dn_bd m0).2
  have bb := D.tmod_bd b0 7200 (by omega)
  generalize D.dn n0 = n at *
  generalize D.dn m0 = m at *
  go_enter Tryd.func4, Tryd.ntmps4
  go_wp2_with (first | (go_at_call 12; refine (known_true _ hM).mono ?_; rintro _ w1 ⟨rfl, hb1⟩; have hM1 := hM.later hb1) | (go_at_call 13; refine (hA _).mono ?_; clear hA; rintro _ w1 ⟨rfl, rfl⟩) | (go_at_call 13; refine (hB _).mono ?_; clear hB; rintro _ w1 ⟨rfl, rfl⟩))
  generalize b0.tmod 7200 = by' at *
  have dk : Hid (D.Dat n (1900 + k / 12) (k % 12 + 1) (d + 1) 0) := .yes k d hk
  have nn := hk.nn
  have k0 := hk.k0
  have k1 := hk.k1
  obtain ⟨Y, hY⟩ : ∃ Y, Y = 1900 + k / 12 := ⟨_, rfl⟩
  obtain ⟨M, hMM⟩ : ∃ M, M = k % 12 + 1 := ⟨_, rfl⟩
  obtain ⟨K, hK⟩ : ∃ K, K = d + 1 := ⟨_, rfl⟩
  have Y0 : 1900 ≤ Y ∧ Y ≤ 2199 := by omega
  have M0 : 1 ≤ M ∧ M ≤ 12 := by omega
  have hE : Hid (12 * (Y - 1900) + M - 1 + by' = k + by') := by unfold Hid; omega
  rw [← hY, ← hMM, ← hK] at dk
  have e1 : wrap64 (Y - 1900) = Y - 1900 := wrap64_id (by omega) (by omega)
  have e2 : wrap64 (12 * (Y - 1900)) = 12 * (Y - 1900) := wrap64_id (by omega) (by omega)
  have e3 : wrap64 (12 * (Y - 1900) + M) = 12 * (Y - 1900) + M := wrap64_id (by omega) (by omega)
  have e4 : wrap64 (12 * (Y - 1900) + M - 1) = 12 * (Y - 1900) + M - 1 := wrap64_id (by omega) (by omega)
  have e5 : wrap64 (12 * (Y - 1900) + M - 1 + by') = 12 * (Y - 1900) + M - 1 + by' := wrap64_id (by omega) (by omega)
  by_cases ho : k + by' < 0 ∨ 3600 ≤ k + by'
  · have hAd : Hid (D.AddIs n by' 0 21) := D.AddIs.out k d hk ho
    clear hY hMM hK
    by_cases c1 : 12 * (Y - 1900) + M - 1 + by' < 0
    · go_wp2_with (first | (go_at_call 14; refine (add_any n by' 0 21 _ hM1 hAd).mono ?_; rintro _ w2 ⟨rfl, hb2⟩; have hM2 := hM1.later hb2) | (go_at_call 15; refine (date_any n Y M K 0 _ hM2 dk).mono ?_; rintro _ w3 ⟨rfl, hb3⟩; have hB3 := below_step (below_step hb1 hb2) hb3; obtain ⟨q0, q1, q2, -⟩ := Box3.new w3 (.int .i64 Y) (.int .i64 M) (.int .i64 K) 33))
      go_ret
      exact ⟨rfl, hB3.alloc hB3.size _⟩
    · have c2 : 3600 ≤ 12 * (Y - 1900) + M - 1 + by' := by have := hE.out; omega
      go_wp2_with (first | (go_at_call 14; refine (add_any n by' 0 21 _ hM1 hAd).mono ?_; rintro _ w2 ⟨rfl, hb2⟩; have hM2 := hM1.later hb2) | (go_at_call 15; refine (date_any n Y M K 0 _ hM2 dk).mono ?_; rintro _ w3 ⟨rfl, hb3⟩; have hB3 := below_step (below_step hb1 hb2) hb3; obtain ⟨q0, q1, q2, -⟩ := Box3.new w3 (.int .i64 Y) (.int .i64 M) (.int .i64 K) 33))
      go_ret
      exact ⟨rfl, hB3.alloc hB3.size _⟩
  · have ho0 : 0 ≤ k + by' := by omega
    have ho1 : k + by' < 3600 := by omega
    have hAd : Hid (D.AddIs n by' (D.addv k d by') 0) := .yes k d hk ho0 ho1
    have hAt := D.addv_at hk ho0 ho1
    obtain ⟨Y2, hY2⟩ : ∃ Y2, Y2 = 1900 + (k + by') / 12 := ⟨_, rfl⟩
    obtain ⟨M2, hM2⟩ : ∃ M2, M2 = (k + by') % 12 + 1 := ⟨_, rfl⟩
    have dk2 : Hid (D.Dat (D.addv k d by') Y2 M2 ((if d ≤ D.ln (k + by') - 1 then d else D.ln (k + by') - 1) + 1) 0) := by rw [hY2, hM2]; exact .yes _ _ hAt
    have hL := fun W hM => last_any Y2 M2 W hM (D.ln (k + by')) (by rw [hY2, hM2]; rfl)
    have hmin : Hid ((if D.ln (k + by') < K then D.ln (k + by') else K) = (if d ≤ D.ln (k + by') - 1 then d else D.ln (k + by') - 1) + 1) := by
      unfold Hid; split <;> split <;> omega
    obtain ⟨v2, f2, hA2⟩ : ∃ v e, Hid (D.AddIs m by' v e) := D.add_ex m by'
    obtain ⟨v3, f3, hA3⟩ : ∃ v e, Hid (D.AddIs n (by' + 1) v e) := D.add_ex n (by' + 1)
    have t2 : Hid (f2 = 0 → (n ≤ m → D.addv k d by' ≤ v2) ∧ (m ≤ n → v2 ≤ D.addv k d by')) := by
      intro hf
      cases hA2.out with
      | no hx => omega
      | out _ _ _ _ => omega
      | yes kk dd hx h0 h1 => exact ⟨fun hl => D.addv_mono hk hx hl, fun hl => D.addv_mono hx hk hl⟩
    have t3 : Hid (f3 = 0 → D.addv k d by' < v3) := by
      intro hf
      cases hA3.out with
      | no hx => omega
      | out _ _ _ _ => omega
      | yes kk dd hx h0 h1 =>
        obtain ⟨rfl, rfl⟩ := hk.uniq hx
        exact D.addv_next hk by'
    have c1 : ¬ 12 * (Y - 1900) + M - 1 + by' < 0 := by have := hE.out; omega
    have c2 : ¬ 3600 ≤ 12 * (Y - 1900) + M - 1 + by' := by have := hE.out; omega
    have e6 : wrap64 (1900 + (12 * (Y - 1900) + M - 1 + by').tdiv 12) = Y2 := by
      rw [hE.out, Int.tdiv_eq_ediv_of_nonneg ho0, ← hY2]
      exact wrap64_id (by omega) (by omega)
    have e7 : wrap64 ((12 * (Y - 1900) + M - 1 + by').tmod 12 + 1) = M2 := by
      rw [hE.out, Int.tmod_eq_emod_of_nonneg ho0, ← hM2]
      exact wrap64_id (by omega) (by omega)
    have e6' : IntKind.i64.wrap (1900 + (12 * (Y - 1900) + M - 1 + by').tdiv 12) = Y2 := by
      rw [hE.out, Int.tdiv_eq_ediv_of_nonneg ho0, ← hY2]
      exact wrapI (by omega) (by omega)
    have e7' : IntKind.i64.wrap ((12 * (Y - 1900) + M - 1 + by').tmod 12 + 1) = M2 := by
      rw [hE.out, Int.tmod_eq_emod_of_nonneg ho0, ← hM2]
      exact wrapI (by omega) (by omega)
    have e6a : IntKind.i64.wrap ((12 * (Y - 1900) + M - 1 + by').tdiv 12) = (12 * (Y - 1900) + M - 1 + by').tdiv 12 := by
      rw [hE.out, Int.tdiv_eq_ediv_of_nonneg ho0]
      exact wrapI (by omega) (by omega)
    have e7a : IntKind.i64.wrap ((12 * (Y - 1900) + M - 1 + by').tmod 12) = (12 * (Y - 1900) + M - 1 + by').tmod 12 := by
      rw [hE.out, Int.tmod_eq_emod_of_nonneg ho0]
      exact wrapI (by omega) (by omega)
    have hbv : Hid (∃ v, (0 ≤ by' → v = by' ∧ D.BetIs n (D.addv k d by') by' 0) ∧ (by' < 0 → D.BetIs n (D.addv k d by') (-v) 0 ∧ D.BetIs (D.addv k d by') n v 0 ∧ 0 ≤ v ∧ v ≤ 3600)) := by
      by_cases hb : 0 ≤ by'
      · exact ⟨by', fun _ => ⟨rfl, D.bet_up hk hb ho1⟩, fun hl => by omega⟩
      · obtain ⟨v, hv⟩ := D.bet_down hk (by omega) ho0
        exact ⟨v, fun hl => absurd hl hb, fun _ => hv⟩
    have e8 : wrap64 (by' + 1) = by' + 1 := wrap64_id (by omega) (by omega)
    generalize D.addv k d by' = V at *
    generalize D.ln (k + by') = L at *
    generalize (if d ≤ L - 1 then d else L - 1) + 1 = K2 at *
    clear hY hMM hK hY2 hM2 hAt ho ho0 ho1
    go_wp2_with (first | (go_at_call 14; refine (add_any n by' V 0 _ hM1 hAd).mono ?_; clear hAd; rintro _ w2 ⟨rfl, hb2⟩; have hM2 := hM1.later hb2) | (go_at_call 15; refine (date_any n Y M K 0 _ hM2 dk).mono ?_; clear dk; rintro _ w3 ⟨rfl, hb3⟩; have hB3 := below_step (below_step hb1 hb2) hb3; have hX := Box3.new w3 (.int .i64 Y) (.int .i64 M) (.int .i64 K) 33; obtain ⟨q0, q1, q2, -⟩ := id hX; have hM3 := (hM2.later hb3).alloc (.cells #[.int .i64 Y, .int .i64 M, .int .i64 K] 33)) | (go_at_call 15; refine (date_any V Y2 M2 K2 0 _ hM3 dk2).mono ?_; clear dk2; rintro _ w4 ⟨rfl, hb4⟩; have hB4 := below_step (hB3.alloc hB3.size _) hb4; have hX4 := (hX.later hb4).alloc (.cells #[.int .i64 Y2, .int .i64 M2, .int .i64 K2] 33); obtain ⟨p0, p1, p2, -⟩ := id hX4; have hX5 := Box3.new w4 (.int .i64 Y2) (.int .i64 M2) (.int .i64 K2) 33; obtain ⟨r0, r1, r2, -⟩ := id hX5; have hM4 := (hM3.later hb4).alloc (.cells #[.int .i64 Y2, .int .i64 M2, .int .i64 K2] 33)))
    have hmin2 := hmin.out
    clear hX hX4 hX5 q0 q1 q2 p0 p1 hM3 hB3 hb1 hb2 hb3 hb4 hM1 hM2 hM hmin e1 e2 e3 e4 e5
    go_quiet ((go_at_call 16; exact Calls.quiet_of_same (hL _ (hM4.drewN _))))
    have hB5 := below_drewN (hB4.alloc hB4.size (.cells #[.int .i64 Y2, .int .i64 M2, .int .i64 K2] 33)) nq
    have hM5 := hM4.drewN nq
    generalize (w4.alloc (.cells #[.int .i64 Y2, .int .i64 M2, .int .i64 K2] 33)).drewN nq = W5 at *
    clear hM4 hB4 p2 r0 r1 r2 hmin2 hL c1 c2 e6 e7 e6' e7' e6a e7a hE
    have t2c : f2 = 21 ∨ (f2 = 0 ∧ n ≤ m ∧ ¬ m ≤ n ∧ ¬ v2 < V) ∨ (f2 = 0 ∧ n ≤ m ∧ m ≤ n ∧ ¬ v2 < V ∧ ¬ V < v2) ∨ (f2 = 0 ∧ ¬ n ≤ m ∧ m ≤ n ∧ ¬ V < v2) := by
      have h := t2.out
      have hf : f2 = 21 ∨ f2 = 0 := by cases hA2.out <;> simp
      omega
    have t3c : f3 = 21 ∨ (f3 = 0 ∧ ¬ v3 ≤ V) := by
      have h := t3.out
      have hf : f3 = 21 ∨ f3 = 0 := by cases hA3.out <;> simp
      omega
    obtain ⟨r, v, e9, hB1, hB2, hcc⟩ : ∃ r v e9, Hid (D.BetIs n V r 0) ∧ Hid (D.BetIs V n v e9) ∧ ((0 ≤ by' ∧ by' = r) ∨ (¬ 0 ≤ by' ∧ r = -v ∧ wrap64 (-v) = -v)) := by
      obtain ⟨v, h1, h2⟩ := hbv.out
      by_cases hb : 0 ≤ by'
      · obtain ⟨v', e', h'⟩ := D.bet_ex V n
        exact ⟨by', v', e', (h1 hb).2, h', .inl ⟨hb, rfl⟩⟩
      · have h3 := h2 (by omega)
        exact ⟨-v, v, 0, h3.1, h3.2.1, .inr ⟨hb, rfl, wrap64_id (by omega) (by omega)⟩⟩
    clear t2 t3 hbv
    rcases t2c with rfl | ⟨rfl, y1, y2, y3⟩ | ⟨rfl, y1, y2, y3, y4⟩ | ⟨rfl, y1, y2, y3⟩
    all_goals rcases t3c with rfl | ⟨rfl, z1⟩
    all_goals rcases hcc with ⟨x1, rfl⟩ | ⟨x1, rfl, x2⟩
    all_goals
      go_wp2_with (first | (go_at_call 14; refine (add_any m by' v2 _ _ hM5 hA2).mono ?_; clear hA2; rintro _ w6 ⟨rfl, hb6⟩; have hM6 := hM5.later hb6) | (go_at_call 14; refine (add_any n (by' + 1) v3 _ _ hM6 hA3).mono ?_; clear hA3; rintro _ w7 ⟨rfl, hb7⟩; have hM7 := hM6.later hb7) | (go_at_call 17; refine (between_any n V _ 0 _ hM7 hB1).mono ?_; clear hB1; rintro _ w8 ⟨rfl, hb8⟩; have hM8 := hM7.later hb8; have hB8 := below_step (below_step (below_step hB5 hb6) hb7) hb8) | (go_at_call 17; refine (between_any V n v e9 _ hM8 hB2).mono ?_; clear hB2; rintro _ w9 ⟨rfl, hb9⟩; have hB9 := below_step hB8 hb9))
      go_ret
      first | exact ⟨rfl, hB9⟩ | exact ⟨rfl, hB8⟩

end Go.Proofs.YtdjfjcabfbencaaDoor
