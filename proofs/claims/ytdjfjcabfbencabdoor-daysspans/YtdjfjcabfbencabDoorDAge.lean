import Derived.Test.YtdjfjcabfbencabDoorDHeld
import Derived.Test.YtdjfjcabfbencabDoorDFace
import Derived.Test.YtdjfjcabfbencabDoorDPlain3
namespace Go.Proofs.YtdjfjcabfbencabDoor
open Go.RowKit

theorem inOrder_any (a b e : Int) (h : Hid (e = if 0 ≤ a ∧ a ≤ 109572 ∧ 0 ≤ b ∧ b ≤ 109572 then (if b < a then 23 else 0) else 21)) (w : World) :
    Calls Tryd.prog 44 #[.int .i64 a, .int .i64 b] w fun en w' => en = .returned (.int .i64 e) ∧ w' = w := by
  have he := h.out
  clear h
  by_cases ha : 0 ≤ a ∧ a ≤ 109572
  · have hI := isDay_yes a ha.1 ha.2 w
    by_cases hb : 0 ≤ b ∧ b ≤ 109572
    · have hJ := isDay_yes b hb.1 hb.2 w
      rw [if_pos ⟨ha.1, ha.2, hb.1, hb.2⟩] at he
      by_cases c : b < a
      · rw [if_pos c] at he
        subst he
        clear ha hb
        go_enter Tryd.func44, Tryd.ntmps44
        go_wp2_with (first | (go_at_call 33; refine hI.mono ?_; clear hI; rintro _ w ⟨rfl, rfl⟩) | (go_at_call 33; refine hJ.mono ?_; clear hJ; rintro _ w ⟨rfl, rfl⟩))
        go_ret
        exact ⟨rfl, rfl⟩
      · rw [if_neg c] at he
        subst he
        clear ha hb
        go_enter Tryd.func44, Tryd.ntmps44
        go_wp2_with (first | (go_at_call 33; refine hI.mono ?_; clear hI; rintro _ w ⟨rfl, rfl⟩) | (go_at_call 33; refine hJ.mono ?_; clear hJ; rintro _ w ⟨rfl, rfl⟩))
        go_ret
        exact ⟨rfl, rfl⟩
    · have hJ := isDay_no b hb w
      rw [if_neg (by omega)] at he
      subst he
      clear ha hb
      go_enter Tryd.func44, Tryd.ntmps44
      go_wp2_with (first | (go_at_call 33; refine hI.mono ?_; clear hI; rintro _ w ⟨rfl, rfl⟩) | (go_at_call 33; refine hJ.mono ?_; clear hJ; rintro _ w ⟨rfl, rfl⟩))
      go_ret
      exact ⟨rfl, rfl⟩
  · have hI := isDay_no a ha w
    rw [if_neg (by omega)] at he
    subst he
    clear ha
    go_enter Tryd.func44, Tryd.ntmps44
    go_wp2_with (go_at_call 33; refine hI.mono ?_; clear hI; rintro _ w ⟨rfl, rfl⟩)
    go_ret
    exact ⟨rfl, rfl⟩

set_option maxHeartbeats 1000000 in
theorem birthday_any (k1 d1 k2 : Int) (h0 : 0 ≤ k2) (h1 : k2 < 3600) (h2 : 0 ≤ d1) (h3 : d1 < D.ln k1) (w : World) (hM : Mon w) :
    Calls Tryd.prog 45 #[.agg #[.int .i64 (1900 + k1 / 12), .int .i64 (k1 % 12 + 1), .int .i64 (d1 + 1)], .int .i64 (1900 + k2 / 12)] w fun e w' => e = .returned (.int .i64 (D.bday k1 d1 k2)) ∧ Below w.heap.size w w' := by
  have ej1 : D.jm k1 k2 / 12 = k2 / 12 := by unfold D.jm; omega
  have ej2 : D.jm k1 k2 % 12 = k1 % 12 := by unfold D.jm; omega
  have l1 := D.ln_bd k1
  have lj := D.ln_bd (D.jm k1 k2)
  have hln : D.ln (D.jm k1 k2) = D.last (1900 + k2 / 12) (k1 % 12 + 1) := by unfold D.ln; rw [ej1, ej2]
  have hbg : D.bg (D.jm k1 k2) = D.ys (1900 + k2 / 12) + D.ms (1900 + k2 / 12) (k1 % 12 + 1) := by unfold D.bg; rw [ej1, ej2]
  have hms := D.ms_succ (1900 + k2 / 12) (k1 % 12 + 1) (by omega) (by omega)
  have hd12 : k1 % 12 = 11 → D.last (1900 + k2 / 12) (k1 % 12 + 1) = D.ln k1 := by
    intro h
    unfold D.ln
    rw [h]
    simp [D.last]
  obtain ⟨Y, hY⟩ : ∃ Y, Y = 1900 + k2 / 12 := ⟨_, rfl⟩
  obtain ⟨m, hm⟩ : ∃ m, m = k1 % 12 + 1 := ⟨_, rfl⟩
  obtain ⟨d, hd⟩ : ∃ d, d = d1 + 1 := ⟨_, rfl⟩
  rw [← hY, ← hm] at hln hbg hms hd12
  rw [← hY, ← hm, ← hd]
  have y0 : 1900 ≤ Y := by omega
  have y1 : Y ≤ 2199 := by omega
  have m0 : 1 ≤ m := by omega
  have m1 : m ≤ 12 := by omega
  generalize 1900 + k1 / 12 = Y1 at *
  have hX := Box3.new w (.int .i64 Y1) (.int .i64 m) (.int .i64 d) 30
  obtain ⟨b0, b1, b2, -, -, -⟩ := id hX
  have hM1 := hM.alloc (.cells #[.int .i64 Y1, .int .i64 m, .int .i64 d] 30)
  have hB1 := (Below.refl w.heap.size w).alloc (Nat.le_refl _) (.cells #[.int .i64 Y1, .int .i64 m, .int .i64 d] 30)
  have hL := fun W hM => last_any Y m W hM (D.ln (D.jm k1 k2)) hln
  have hv : Hid (D.bday k1 d1 k2 = D.bg (D.jm k1 k2) + (if d1 < D.ln (D.jm k1 k2) then d1 else D.ln (D.jm k1 k2))) := rfl
  by_cases c : D.ln (D.jm k1 k2) < d
  · have m2 : m + 1 ≤ 12 := by
      apply Classical.byContradiction
      intro hn
      have := hd12 (by omega)
      omega
    have e1 : wrap64 (m + 1) = m + 1 := wrap64_id (by omega) (by omega)
    have hN := fun W hM => numberOf_any Y (m + 1) 1 y0 y1 (by omega) m2 (by omega) (by omega) W hM
    have hr : D.bday k1 d1 k2 = D.ys Y + D.ms Y (m + 1) + 1 - 1 := by
      have := hv.out
      rw [if_neg (by omega)] at this
      omega
    rw [← hr] at hN
    clear hv hr hd12 hms hbg hln hd hm hY ej1 ej2
    generalize D.ln (D.jm k1 k2) = L at *
    generalize D.bday k1 d1 k2 = V at *
    go_enter Tryd.func45, Tryd.ntmps45
    go_wp2
    go_quiet ((go_at_call 8; exact Calls.quiet_of_same (hL _ (hM1.drewN _))))
    go_wp2_with (go_at_call 31; refine (hN _ (hM1.drewN _)).mono ?_; clear hN; rintro _ w2 ⟨rfl, hb2⟩)
    go_ret
    exact ⟨rfl, below_step (below_drewN hB1 _) hb2⟩
  · have hN := fun W hM => numberOf_any Y m d y0 y1 m0 m1 (by omega) (by omega) W hM
    have hr : D.bday k1 d1 k2 = D.ys Y + D.ms Y m + d - 1 := by
      have := hv.out
      rw [if_pos (by omega)] at this
      omega
    rw [← hr] at hN
    clear hv hr hd12 hms hbg hln hd hm hY ej1 ej2
    generalize D.ln (D.jm k1 k2) = L at *
    generalize D.bday k1 d1 k2 = V at *
    go_enter Tryd.func45, Tryd.ntmps45
    go_wp2
    go_quiet ((go_at_call 8; exact Calls.quiet_of_same (hL _ (hM1.drewN _))))
    go_wp2_with (go_at_call 31; refine (hN _ (hM1.drewN _)).mono ?_; clear hN; rintro _ w2 ⟨rfl, hb2⟩)
    go_ret
    exact ⟨rfl, below_step (below_drewN hB1 _) hb2⟩

set_option maxHeartbeats 1000000 in
theorem age_yes (a b k1 d1 k2 d2 : Int) (h1 : D.At a k1 d1) (h2 : D.At b k2 d2) (h : a ≤ b) (w : World) (hM : Mon w) :
    Calls Tryd.prog 24 #[.int .i64 a, .int .i64 b] w fun e w' => e = .returned (.tuple #[.int .i64 (D.age k1 d1 k2 b), .int .i64 0]) ∧ Below w.heap.size w w' := by
  have a0 := h1.nn
  have b0 := h2.nn
  have a1 := h1.k0
  have a2 := h1.k1
  have b1 := h2.k0
  have b2 := h2.k1
  have hO := inOrder_any a b 0 (by unfold Hid; rw [if_pos ⟨a0.1, a0.2, b0.1, b0.2⟩, if_neg (by omega)]) w
  have hD := fun W hM => dateOf_any a k1 d1 h1 W hM
  have hE := fun W hM => dateOf_any b k2 d2 h2 W hM
  have hF := fun W hM => birthday_any k1 d1 k2 h2.k0 h2.k1 h1.d0 h1.d1 W hM
  have hv : Hid (D.age k1 d1 k2 b = if b < D.bday k1 d1 k2 then k2 / 12 - k1 / 12 - 1 else k2 / 12 - k1 / 12) := rfl
  obtain ⟨Y1, hY1⟩ : ∃ Y, Y = 1900 + k1 / 12 := ⟨_, rfl⟩
  obtain ⟨Y2, hY2⟩ : ∃ Y, Y = 1900 + k2 / 12 := ⟨_, rfl⟩
  have y1 : 1900 ≤ Y1 ∧ Y1 ≤ 2199 := by omega
  have y2 : 1900 ≤ Y2 ∧ Y2 ≤ 2199 := by omega
  have e1 : wrap64 (Y2 - Y1) = Y2 - Y1 := wrap64_id (by omega) (by omega)
  have e2 : wrap64 (Y2 - Y1 - 1) = Y2 - Y1 - 1 := wrap64_id (by omega) (by omega)
  have hv2 : Hid (D.age k1 d1 k2 b = if b < D.bday k1 d1 k2 then Y2 - Y1 - 1 else Y2 - Y1) := by
    unfold Hid
    rw [hv.out]
    split <;> omega
  rw [← hY1] at hD hF
  rw [← hY2] at hE hF
  generalize k1 % 12 + 1 = M1 at *
  generalize k2 % 12 + 1 = M2 at *
  generalize d1 + 1 = K1 at *
  generalize d2 + 1 = K2 at *
  generalize D.bday k1 d1 k2 = V at *
  generalize D.age k1 d1 k2 b = R at *
  clear h1 h2 hv hY1 hY2 a0 b0 a1 a2 b1 b2
  have hfd : ∀ W : World, (Instr.field 30 (.agg #[.int .i64 Y2, .int .i64 M2, .int .i64 K2]) 0).run Tryd.prog W = .ok (.int .i64 Y2) W := fun _ => by kernel_rfl
  by_cases c : b < V
  · have hR := hv2.out
    rw [if_pos c] at hR
    subst hR
    clear hv2
    go_enter Tryd.func24, Tryd.ntmps24
    go_wp2_with (first | (go_at_call 44; refine hO.mono ?_; clear hO; rintro _ w ⟨rfl, rfl⟩) | (go_at_call 34; refine (hD _ hM).mono ?_; clear hD; rintro _ w1 ⟨rfl, hb1⟩; have hM1 := hM.later hb1) | (go_at_call 34; refine (hE _ hM1).mono ?_; clear hE; rintro _ w2 ⟨rfl, hb2⟩; have hB2 := below_step hb1 hb2; have hM2 := (hM1.later hb2).alloc (.cells #[.int .i64 Y1, .int .i64 M1, .int .i64 K1] 30); have hX := Box3.new w2 (.int .i64 Y1) (.int .i64 M1) (.int .i64 K1) 30; obtain ⟨q0, q1, q2, -⟩ := id hX) | (go_at_call 45; refine (hF _ hM2).mono ?_; clear hF; rintro _ w3 ⟨rfl, hb3⟩; have hB3 := below_step (hB2.alloc hB2.size _) hb3; obtain ⟨r0, r1, r2, -⟩ := hX.later hb3))
    exact bodyPost_ret (v := .tuple #[.int .i64 (Y2 - Y1 - 1), .int .i64 0]) (by simp [results, Tryd.results24, go_sem]) rfl ⟨rfl, hB3⟩
  · have hR := hv2.out
    rw [if_neg c] at hR
    subst hR
    clear hv2
    go_enter Tryd.func24, Tryd.ntmps24
    go_wp2_with (first | (go_at_call 44; refine hO.mono ?_; clear hO; rintro _ w ⟨rfl, rfl⟩) | (go_at_call 34; refine (hD _ hM).mono ?_; clear hD; rintro _ w1 ⟨rfl, hb1⟩; have hM1 := hM.later hb1) | (go_at_call 34; refine (hE _ hM1).mono ?_; clear hE; rintro _ w2 ⟨rfl, hb2⟩; have hB2 := below_step hb1 hb2; have hM2 := (hM1.later hb2).alloc (.cells #[.int .i64 Y1, .int .i64 M1, .int .i64 K1] 30); have hX := Box3.new w2 (.int .i64 Y1) (.int .i64 M1) (.int .i64 K1) 30; obtain ⟨q0, q1, q2, -⟩ := id hX) | (go_at_call 45; refine (hF _ hM2).mono ?_; clear hF; rintro _ w3 ⟨rfl, hb3⟩; have hB3 := below_step (hB2.alloc hB2.size _) hb3; obtain ⟨r0, r1, r2, -⟩ := hX.later hb3))
    exact bodyPost_ret (v := .tuple #[.int .i64 (Y2 - Y1), .int .i64 0]) (by simp [results, Tryd.results24, go_sem]) rfl ⟨rfl, hB3⟩

end Go.Proofs.YtdjfjcabfbencabDoor
