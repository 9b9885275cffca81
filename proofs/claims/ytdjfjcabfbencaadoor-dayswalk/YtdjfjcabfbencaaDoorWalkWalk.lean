import Derived.Test.YtdjfjcabfbencaaDoorDBack
import Derived.Test.YtdjfjcabfbencaaDoorDKnown
namespace Go.Proofs.YtdjfjcabfbencaaDoor
open Go.RowKit

/-- A variable of three cells, written anew. -/
theorem Box3.set3 {w : World} {b : Nat} {x y z : Value} (h : Box3 w b x y z) (x' y' z' : Value) : Box3 (((w.setCell ⟨b, 0, none⟩ x').setCell ⟨b, 1, none⟩ y').setCell ⟨b, 2, none⟩ z') b x' y' z' := by
  obtain ⟨h0, h1, h2, f0, f1, f2⟩ := h
  have a1 : (w.setCell ⟨b, 0, none⟩ x').cell? ⟨b, 1, none⟩ = some y := by rw [World.cell?_setCell_other _ _ _ _ (by simp)]; exact h1
  have a2 : ((w.setCell ⟨b, 0, none⟩ x').setCell ⟨b, 1, none⟩ y').cell? ⟨b, 2, none⟩ = some z := by rw [World.cell?_setCell_other _ _ _ _ (by simp), World.cell?_setCell_other _ _ _ _ (by simp)]; exact h2
  refine ⟨?_, ?_, ?_, by simp only [World.frozen?_setCell]; exact f0, by simp only [World.frozen?_setCell]; exact f1, by simp only [World.frozen?_setCell]; exact f2⟩
  · rw [World.cell?_setCell_other _ _ _ _ (by simp), World.cell?_setCell_other _ _ _ _ (by simp)]
    exact World.cell?_setCell_same' _ _ _ (by rw [h0]; rfl)
  · rw [World.cell?_setCell_other _ _ _ _ (by simp)]
    exact World.cell?_setCell_same' _ _ _ (by rw [a1]; rfl)
  · exact World.cell?_setCell_same' _ _ _ (by rw [a2]; rfl)
theorem Box3.other {w : World} {b c : Nat} {x y z : Value} (h : Box3 w c x y z) (hc : c ≠ b) (o : Nat) (v : Value) : Box3 (w.setCell ⟨b, o, none⟩ v) c x y z := by
  obtain ⟨h0, h1, h2, f0, f1, f2⟩ := h
  refine ⟨?_, ?_, ?_, by simp only [World.frozen?_setCell]; exact f0, by simp only [World.frozen?_setCell]; exact f1, by simp only [World.frozen?_setCell]; exact f2⟩
  all_goals
    rw [World.cell?_setCell_other _ _ _ _ (by simp)]
    assumption

set_option maxRecDepth 4000 in
set_option maxHeartbeats 4000000 in
theorem walk_walk (n0 : Int) (w : World) (hM : Mon w) (hn : -9223372036854775808 ≤ n0 ∧ n0 ≤ 9223372036854775807) :
    Calls Tryd.prog 5 #[.int .i64 n0] w fun e w' => e = .returned (.bool true) ∧ Below w.heap.size w w' := by
  have hA := fun W => day_any n0 hn.1 hn.2 W
  obtain ⟨k, d, hk⟩ := D.at_ex _ (D.dn_bd n0).1 (D.dn_bd n0).2
  generalize D.dn n0 = n at *
  have nn := hk.nn
  have k0 := hk.k0
  have k1 := hk.k1
  have d0 := hk.d0
  have d1 := hk.d1
  have l1 := D.ln_bd k
  have hpr := fun W hM => print_yes n k d hk (1900 + k / 12).toNat (k % 12 + 1).toNat (d + 1).toNat (by omega) (by omega) (by omega) W hM
  have hpa := fun W hM => parse_print n k d hk (1900 + k / 12).toNat (k % 12 + 1).toNat (d + 1).toNat (by omega) (by omega) (by omega) W hM
  have hsz := sizeB (txt (1900 + k / 12).toNat (k % 12 + 1).toNat (d + 1).toNat)
  generalize ByteArray.mk (bytesOf (txt (1900 + k / 12).toNat (k % 12 + 1).toNat (d + 1).toNat)).toArray = S at *
  have dk : Hid (D.Dat n (1900 + k / 12) (k % 12 + 1) (d + 1) 0) := .yes k d hk
  have hnu : Hid ((n, 0) = D.num (1900 + k / 12) (k % 12 + 1) (d + 1)) := (D.at_num hk).symm
  have hwk : Hid ((n % 7 + 1, 0) = D.wk n) := by unfold Hid D.wk; rw [if_pos nn]
  have e1 : wrap64 (n + 1) = n + 1 := wrap64_id (by omega) (by omega)
  have hLa := fun W hM => last_any (1900 + k / 12) (k % 12 + 1) W hM (D.ln k) rfl
  by_cases hmax : n = 109572
  · have dn : Hid (D.Dat (n + 1) 0 0 0 21) := .no (by omega)
    have hu := D.at_max.uniq (hmax ▸ hk)
    obtain ⟨rfl, rfl⟩ := hu
    subst hmax
    simp at dk hnu dn
    clear hLa hwk e1 l1 d1 k0 k1 d0 nn hk
    go_enter Tryd.func5, Tryd.ntmps5
    go_wp2_with (first | (go_at_call 12; refine (known_true _ hM).mono ?_; rintro _ w1 ⟨rfl, hb1⟩; have hM1 := hM.later hb1) | (go_at_call 13; refine (hA _).mono ?_; clear hA; rintro _ w1 ⟨rfl, rfl⟩) | (go_at_call 15; refine (date_any 109572 2199 12 31 0 _ hM1 dk).mono ?_; clear dk; rintro _ w2 ⟨rfl, hb2⟩; have hM2 := (hM1.later hb2).alloc (.cells #[.int .i64 2199, .int .i64 12, .int .i64 31] 33); have hB2 := (below_step hb1 hb2).alloc (below_step hb1 hb2).size (.cells #[.int .i64 2199, .int .i64 12, .int .i64 31] 33); have hX2 := Box3.new w2 (.int .i64 2199) (.int .i64 12) (.int .i64 31) 33; obtain ⟨q0, q1, q2, -⟩ := id hX2) | (go_at_call 18; refine (number_any 2199 12 31 _ hM2 109572 0 hnu).mono ?_; clear hnu; rintro _ w3 ⟨rfl, hb3⟩; have hM3 := hM2.later hb3; have hB3 := below_step hB2 hb3; have hX3 := hX2.later hb3) | (go_at_call 19; refine (hpr _ hM3).mono ?_; clear hpr; rintro _ w4 ⟨rfl, hb4⟩; have hM4 := hM3.later hb4; have hB4 := below_step hB3 hb4; have hX4 := hX3.later hb4) | (go_at_call 20; refine (hpa _ hM4).mono ?_; clear hpa; rintro _ w5 ⟨rfl, hb5⟩; have hM5 := hM4.later hb5; have hB5 := below_step hB4 hb5; have hX5 := hX4.later hb5; obtain ⟨p0, p1, p2, -⟩ := id hX5) | (go_at_call 15; refine (date_any (109573) 0 0 0 21 _ hM5 dn).mono ?_; clear dn; rintro _ w6 ⟨rfl, hb6⟩; have hM6 := hM5.later hb6; have hB6 := below_step hB5 hb6; have hX6 := (hX5.later hb6).alloc (.cells #[.int .i64 0, .int .i64 0, .int .i64 0] 33); obtain ⟨r0, r1, r2, -⟩ := id hX6; have hM7 := hM6.alloc (.cells #[.int .i64 0, .int .i64 0, .int .i64 0] 33); have hB7 := hB6.alloc hB6.size (.cells #[.int .i64 0, .int .i64 0, .int .i64 0] 33); have hN7 := Box3.new w6 (.int .i64 0) (.int .i64 0) (.int .i64 0) 33; obtain ⟨s0, s1, s2, -⟩ := id hN7))
    go_ret
    exact ⟨rfl, hB7⟩
  · have hlt : n < 109572 := by omega
    have hne : ¬ n = 109572 := hmax
    have hwk2 : Hid (((n + 1) % 7 + 1, 0) = D.wk (n + 1)) := by unfold Hid D.wk; rw [if_pos (by omega)]
    obtain ⟨A, hAA⟩ : ∃ A, A = n % 7 + 1 := ⟨_, rfl⟩
    obtain ⟨B, hBB⟩ : ∃ B, B = (n + 1) % 7 + 1 := ⟨_, rfl⟩
    have e2 : wrap64 (A.tmod 7 + 1) = B := by
      rw [Int.tmod_eq_emod_of_nonneg (by omega), wrap64_id (by omega) (by omega)]
      omega
    have e2b : A % 7 + 1 = B := by omega
    have a1 : 1 ≤ A := by omega
    have a7 : A ≤ 7 := by omega
    rw [← hAA] at hwk
    rw [← hBB] at hwk2
    clear hAA hBB
    have hnx := hk.next hlt
    obtain ⟨Y, hY⟩ : ∃ Y, Y = 1900 + k / 12 := ⟨_, rfl⟩
    obtain ⟨M, hMM⟩ : ∃ M, M = k % 12 + 1 := ⟨_, rfl⟩
    obtain ⟨K, hK⟩ : ∃ K, K = d + 1 := ⟨_, rfl⟩
    rw [← hY, ← hMM, ← hK] at dk hnu
    rw [← hY, ← hMM] at hLa
    have y0 : 1900 ≤ Y ∧ Y ≤ 2199 := by omega
    have m0 : 1 ≤ M ∧ M ≤ 12 := by omega
    have kk0 : 1 ≤ K ∧ K ≤ 31 := by omega
    have e3 : wrap64 (K + 1) = K + 1 := wrap64_id (by omega) (by omega)
    have e4 : wrap64 (M + 1) = M + 1 := wrap64_id (by omega) (by omega)
    have e5 : wrap64 (Y + 1) = Y + 1 := wrap64_id (by omega) (by omega)
    obtain ⟨Y2, M2, K2, dn, hc⟩ : ∃ Y2 M2 K2, Hid (D.Dat (n + 1) Y2 M2 K2 0) ∧ ((¬ K = D.ln k ∧ Y2 = Y ∧ M2 = M ∧ K2 = K + 1 ∧ ¬ M = 13) ∨ (K = D.ln k ∧ Y2 = Y ∧ M2 = M + 1 ∧ K2 = 1 ∧ ¬ M + 1 = 13) ∨ (K = D.ln k ∧ Y2 = Y + 1 ∧ M2 = 1 ∧ K2 = 1 ∧ M = 12)) := by
      rcases hnx with ⟨c, hx⟩ | ⟨c, hx⟩
      · exact ⟨_, _, _, .yes _ _ hx, .inl ⟨by omega, by omega, by omega, by omega, by omega⟩⟩
      · by_cases c2 : k % 12 = 11
        · exact ⟨_, _, _, .yes _ _ hx, .inr (.inr ⟨by omega, by omega, by omega, by omega, by omega⟩)⟩
        · exact ⟨_, _, _, .yes _ _ hx, .inr (.inl ⟨by omega, by omega, by omega, by omega, by omega⟩)⟩
    generalize D.ln k = L at *
    clear hnx hY hMM hK hk k0 k1 d0 d1
    go_enter Tryd.func5, Tryd.ntmps5
    go_wp2_with (first | (go_at_call 12; refine (known_true _ hM).mono ?_; rintro _ w1 ⟨rfl, hb1⟩; have hM1 := hM.later hb1) | (go_at_call 13; refine (hA _).mono ?_; clear hA; rintro _ w1 ⟨rfl, rfl⟩) | (go_at_call 15; refine (date_any n Y M K 0 _ hM1 dk).mono ?_; clear dk; rintro _ w2 ⟨rfl, hb2⟩; have hM2 := (hM1.later hb2).alloc (.cells #[.int .i64 Y, .int .i64 M, .int .i64 K] 33); have hB2 := (below_step hb1 hb2).alloc (below_step hb1 hb2).size (.cells #[.int .i64 Y, .int .i64 M, .int .i64 K] 33); have hX2 := Box3.new w2 (.int .i64 Y) (.int .i64 M) (.int .i64 K) 33; obtain ⟨q0, q1, q2, -⟩ := id hX2) | (go_at_call 18; refine (number_any Y M K _ hM2 n 0 hnu).mono ?_; clear hnu; rintro _ w3 ⟨rfl, hb3⟩; have hM3 := hM2.later hb3; have hB3 := below_step hB2 hb3; have hX3 := hX2.later hb3) | (go_at_call 19; refine (hpr _ hM3).mono ?_; clear hpr; rintro _ w4 ⟨rfl, hb4⟩; have hM4 := hM3.later hb4; have hB4 := below_step hB3 hb4; have hX4 := hX3.later hb4) | (go_at_call 20; refine (hpa _ hM4).mono ?_; clear hpa; rintro _ w5 ⟨rfl, hb5⟩; have hM5 := hM4.later hb5; have hB5 := below_step hB4 hb5; have hX5 := hX4.later hb5; obtain ⟨p0, p1, p2, -⟩ := id hX5) | (go_at_call 15; refine (date_any (n + 1) Y2 M2 K2 0 _ hM5 dn).mono ?_; clear dn; rintro _ w6 ⟨rfl, hb6⟩; have hM6 := hM5.later hb6; have hB6 := below_step hB5 hb6; have hX6 := (hX5.later hb6).alloc (.cells #[.int .i64 Y2, .int .i64 M2, .int .i64 K2] 33); obtain ⟨r0, r1, r2, -⟩ := id hX6; have hM7 := hM6.alloc (.cells #[.int .i64 Y2, .int .i64 M2, .int .i64 K2] 33); have hB7 := hB6.alloc hB6.size (.cells #[.int .i64 Y2, .int .i64 M2, .int .i64 K2] 33); have hN7 := Box3.new w6 (.int .i64 Y2) (.int .i64 M2) (.int .i64 K2) 33; obtain ⟨s0, s1, s2, -⟩ := id hN7))
    have hX8 := hX6.alloc (.cells #[.int .i64 Y, .int .i64 M, .int .i64 (K + 1)] 33)
    have hN8 := hN7.alloc (.cells #[.int .i64 Y, .int .i64 M, .int .i64 (K + 1)] 33)
    have hM8 := hM7.alloc (.cells #[.int .i64 Y, .int .i64 M, .int .i64 (K + 1)] 33)
    have hB8 := hB7.alloc hB7.size (.cells #[.int .i64 Y, .int .i64 M, .int .i64 (K + 1)] 33)
    have hV8 := (Box3.new (w6.alloc (.cells #[.int .i64 Y2, .int .i64 M2, .int .i64 K2] 33)) (.int .i64 Y) (.int .i64 M) (.int .i64 (K + 1)) 33).of (c := w6.heap.size + 1) (by simp)
    have hle := hB6.size
    have hle2 : w2.heap.size < w6.heap.size := by
      have h1 := (Box3.new w2 (.int .i64 Y) (.int .i64 M) (.int .i64 K) 33).lt
      have h2 := hb3.size
      have h3 := hb4.size
      have h4 := hb5.size
      have h5 := hb6.size
      omega
    clear hX6 hN7 hM7 hB7 hX5 hX4 hX3 hX2 hM6 hM5 hM4 hM3 hM2 hM1 hB6 hB5 hB4 hB3 hB2 hb1 hb2 hb3 hb4 hb5 hb6 q0 q1 q2 p0 p1 p2 r0 r1 r2 s0 s1 s2 hM
    generalize (w6.alloc (.cells #[.int .i64 Y2, .int .i64 M2, .int .i64 K2] 33)).alloc (.cells #[.int .i64 Y, .int .i64 M, .int .i64 (K + 1)] 33) = W8 at *
    obtain ⟨q0, q1, q2, -⟩ := id hX8
    go_quiet ((go_at_call 16; exact Calls.quiet_of_same (hLa _ (hM8.drewN _))))
    have hX9 := hX8.drewN nq
    have hN9 := hN8.drewN nq
    have hV9 := hV8.drewN nq
    have hB9 := below_drewN hB8 nq
    clear hX8 hN8 hV8 hB8 hM8 q0 q1 q2 hLa
    generalize W8.drewN nq = W9 at *
    obtain ⟨q0, q1, q2, -⟩ := id hX9
    obtain ⟨p0, p1, p2, f0, f1, f2⟩ := id hV9
    obtain ⟨r0, r1, r2, -⟩ := id hN9
    have g1 : ¬ (w2.heap.size = w6.heap.size + 1) := by omega
    have g2 : ¬ (w6.heap.size + 1 = w2.heap.size) := by omega
    rcases hc with ⟨c1, rfl, rfl, rfl, c2⟩ | ⟨rfl, rfl, rfl, rfl, c2⟩ | ⟨rfl, rfl, rfl, rfl, rfl⟩
    · go_wp2_with (go_at_call_of 21 (Value.int .i64 n); refine (weekday_any n _ A 0 hwk).mono ?_; clear hwk; rintro _ w9 ⟨rfl, rfl⟩)
      refine (weekday_any (n + 1) _ B 0 hwk2).mono ?_
      rintro _ w9 ⟨rfl, rfl⟩
      go_wp2
      go_ret
      exact ⟨rfl, hB9⟩
    · go_wp2_with (go_at_call 21; fail)
      have hVa := hV9.set3 (.int .i64 Y2) (.int .i64 (M + 1)) (.int .i64 1)
      have hNa := ((hN9.other (b := w6.heap.size + 1) (by omega) 0 (.int .i64 Y2)).other (b := w6.heap.size + 1) (by omega) 1 (.int .i64 (M + 1))).other (b := w6.heap.size + 1) (by omega) 2 (.int .i64 1)
      have hBa := ((hB9.setCell (p := ⟨w6.heap.size + 1, 0, none⟩) (by simp; omega) (.int .i64 Y2)).setCell (p := ⟨w6.heap.size + 1, 1, none⟩) (by simp; omega) (.int .i64 (M + 1))).setCell (p := ⟨w6.heap.size + 1, 2, none⟩) (by simp; omega) (.int .i64 1)
      generalize ((W9.setCell ⟨w6.heap.size + 1, 0, none⟩ (.int .i64 Y2)).setCell ⟨w6.heap.size + 1, 1, none⟩ (.int .i64 (M + 1))).setCell ⟨w6.heap.size + 1, 2, none⟩ (.int .i64 1) = Wa at *
      clear hX9 hV9 hN9 hB9 q0 q1 q2 p0 p1 p2 f0 f1 f2 r0 r1 r2
      obtain ⟨p0, p1, p2, -⟩ := id hVa
      obtain ⟨r0, r1, r2, -⟩ := id hNa
      refine (weekday_any n _ A 0 hwk).mono ?_
      rintro _ w9 ⟨rfl, rfl⟩
      go_wp2_with (go_at_call 21; fail)
      refine (weekday_any (n + 1) _ B 0 hwk2).mono ?_
      rintro _ w9 ⟨rfl, rfl⟩
      go_wp2
      go_ret
      exact ⟨rfl, hBa⟩
    · go_wp2_with (go_at_call 21; fail)
      have hVa := (hV9.set3 (.int .i64 Y) (.int .i64 13) (.int .i64 1)).set3 (.int .i64 (Y + 1)) (.int .i64 1) (.int .i64 1)
      have hNa := (((((hN9.other (b := w6.heap.size + 1) (by omega) 0 (.int .i64 Y)).other (b := w6.heap.size + 1) (by omega) 1 (.int .i64 13)).other (b := w6.heap.size + 1) (by omega) 2 (.int .i64 1)).other (b := w6.heap.size + 1) (by omega) 0 (.int .i64 (Y + 1))).other (b := w6.heap.size + 1) (by omega) 1 (.int .i64 1)).other (b := w6.heap.size + 1) (by omega) 2 (.int .i64 1)
      have hBa := (((((hB9.setCell (p := ⟨w6.heap.size + 1, 0, none⟩) (by simp; omega) (.int .i64 Y)).setCell (p := ⟨w6.heap.size + 1, 1, none⟩) (by simp; omega) (.int .i64 13)).setCell (p := ⟨w6.heap.size + 1, 2, none⟩) (by simp; omega) (.int .i64 1)).setCell (p := ⟨w6.heap.size + 1, 0, none⟩) (by simp; omega) (.int .i64 (Y + 1))).setCell (p := ⟨w6.heap.size + 1, 1, none⟩) (by simp; omega) (.int .i64 1)).setCell (p := ⟨w6.heap.size + 1, 2, none⟩) (by simp; omega) (.int .i64 1)
      generalize (((((W9.setCell ⟨w6.heap.size + 1, 0, none⟩ (.int .i64 Y)).setCell ⟨w6.heap.size + 1, 1, none⟩ (.int .i64 13)).setCell ⟨w6.heap.size + 1, 2, none⟩ (.int .i64 1)).setCell ⟨w6.heap.size + 1, 0, none⟩ (.int .i64 (Y + 1))).setCell ⟨w6.heap.size + 1, 1, none⟩ (.int .i64 1)).setCell ⟨w6.heap.size + 1, 2, none⟩ (.int .i64 1) = Wa at *
      clear hX9 hV9 hN9 hB9 q0 q1 q2 p0 p1 p2 f0 f1 f2 r0 r1 r2
      obtain ⟨p0, p1, p2, -⟩ := id hVa
      obtain ⟨r0, r1, r2, -⟩ := id hNa
      refine (weekday_any n _ A 0 hwk).mono ?_
      rintro _ w9 ⟨rfl, rfl⟩
      go_wp2_with (go_at_call 21; fail)
      refine (weekday_any (n + 1) _ B 0 hwk2).mono ?_
      rintro _ w9 ⟨rfl, rfl⟩
      go_wp2
      go_ret
      exact ⟨rfl, hBa⟩

end Go.Proofs.YtdjfjcabfbencaaDoor
