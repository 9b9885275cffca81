import Derived.Test.YtdjfjcabfbencabDoorDRSpan
import Derived.Test.YtdjfjcabfbencabDoorDPlain5
namespace Go.Proofs.YtdjfjcabfbencabDoor
open Go.RowKit

set_option maxHeartbeats 4000000 in
theorem rage_yes (a b k1 d1 k2 d2 : Int) (h1 : D.At a k1 d1) (h2 : D.At b k2 d2) (h : a ≤ b) (w : World) :
    Calls Tryd.prog 25 #[.int .i64 a, .int .i64 b] w fun e w' => e = .returned (.tuple #[.int .i64 (D.age k1 d1 k2 b), .int .i64 0]) ∧ w' = w := by
  have hI := is_yes a h1.nn.1 h1.nn.2 w
  have hJ := is_yes b h2.nn.1 h2.nn.2 w
  have hD : Hid (D.Dat a (1900 + k1 / 12) (k1 % 12 + 1) (d1 + 1) 0) := .yes k1 d1 h1
  have hk := h1.le h2 h
  have a0 := h1.k0
  have b1 := h2.k1
  have hnum := fun y y0 y1 => D.num_bdy h1 y y0 y1
  have hbd := fun y => D.age_bdy h1 h2 y
  have hown := D.bdy_own h1
  have hage : Hid (D.age k1 d1 k2 b = if b < D.bday k1 d1 k2 then k2 / 12 - k1 / 12 - 1 else k2 / 12 - k1 / 12) := rfl
  have c0 : ¬ b < a := by omega
  have dbd : 1 ≤ d1 + 1 ∧ d1 + 1 ≤ 31 := by have := h1.d0; have := h1.d1; have := D.ln_bd k1; omega
  obtain ⟨Y1, hY1⟩ : ∃ Y, Y = 1900 + k1 / 12 := ⟨_, rfl⟩
  obtain ⟨Y2, hY2⟩ : ∃ Y, Y = 1900 + k2 / 12 := ⟨_, rfl⟩
  rw [← hY1] at hD hown
  have y0 : 1900 ≤ Y1 := by omega
  have y1 : Y1 ≤ Y2 := by omega
  have y2 : Y2 ≤ 2199 := by omega
  have hg : Hid (D.age k1 d1 k2 b = if b < D.bday k1 d1 k2 then Y2 - Y1 - 1 else Y2 - Y1) := by
    unfold Hid
    rw [hage.out]
    split <;> omega
  have hfirst : Hid (Y1 = Y2 → D.bday k1 d1 k2 ≤ b) := by
    intro e
    rw [← D.bdy_bday k1 d1 k2, ← hY2, ← e, hown]
    omega
  have hbd2 : Hid (∀ y, (y < Y2 → D.bdy k1 d1 y ≤ b) ∧ (Y2 < y → b < D.bdy k1 d1 y) ∧ (y = Y2 → D.bdy k1 d1 y = D.bday k1 d1 k2)) := by
    unfold Hid
    intro y
    have := hbd y
    rw [← hY2] at this
    exact this
  have hnum2 : Hid (∀ y, 1900 ≤ y → y ≤ 2199 → (D.num y (k1 % 12 + 1) (d1 + 1) = (D.bdy k1 d1 y, 0) ∨ (D.num y (k1 % 12 + 1) (d1 + 1) = (0, 20) ∧ D.num y 3 1 = (D.bdy k1 d1 y, 0)))) := hnum
  generalize D.age k1 d1 k2 b = R at *
  generalize D.bday k1 d1 k2 = V at *
  generalize k1 % 12 + 1 = M1 at *
  generalize d1 + 1 = K1 at *
  have e1 : wrap64 (Y1 + 1) = Y1 + 1 := wrap64_id (by omega) (by omega)
  clear hnum hbd hown hage hY1 hY2 h1 h2
  obtain ⟨W, hW⟩ : ∃ W, W = w := ⟨_, rfl⟩
  rw [← hW] at hI hJ ⊢
  clear hW
  go_enter Tryd.func25, Tryd.ntmps25
  go_wp2_with (first | (go_at_call 35; refine hI.mono ?_; clear hI; rintro _ W ⟨rfl, rfl⟩) | (go_at_call 35; refine hJ.mono ?_; clear hJ; rintro _ W ⟨rfl, rfl⟩) | (go_at_call 13; refine (rdate_any a Y1 M1 K1 0 _ hD).mono ?_; clear hD; rintro _ W ⟨rfl, rfl⟩))
  go_loopw [12, 13] (fun x t wr => ∃ y : Int, t = .int .i64 y ∧ x = .int .i64 (y - Y1 - 1) ∧ Y1 + 1 ≤ y ∧ y ≤ Y2 + 1 ∧ Hid (y = Y2 + 1 → V ≤ b) ∧ wr = W) (fun _ t _ => (2200 - intOf t).toNat)
  case atStart => exact ⟨Y1 + 1, rfl, congrArg (Value.int .i64) (by omega), by omega, by omega, (fun e => hfirst.out (by omega)), rfl⟩
  case round =>
    obtain ⟨y, rfl, rfl, c1, c2, c3, rfl⟩ := hrel
    by_cases hend : y = 2200
    · have hR : R = y - Y1 - 1 := by
        have g := hg.out
        rw [if_neg (by have := c3.out (by omega); omega)] at g
        omega
      subst hend
      subst hR
      clear hg hfirst hbd2 hnum2 c3
      go_wp2
      exact bodyPost_ret (v := .tuple #[.int .i64 (2200 - Y1 - 1), .int .i64 0]) (by simp [results, Tryd.results25, go_sem]) rfl ⟨rfl, rfl⟩
    · have y9 : y ≤ 2199 := by omega
      have hb3 := hbd2.out y
      have hnn := hnum2.out y (by omega) y9
      generalize D.bdy k1 d1 y = B at *
      have e2 : wrap64 (y + 1) = y + 1 := wrap64_id (by omega) (by omega)
      have e3 : wrap64 (y - Y1 - 1 + 1) = y - Y1 - 1 + 1 := wrap64_id (by omega) (by omega)
      by_cases hB : b < B
      · have hR : R = y - Y1 - 1 := by
          have g := hg.out
          by_cases hy : y = Y2
          · rw [if_pos (by have := hb3.2.2 hy; omega)] at g
            omega
          · rw [if_neg (by have := c3.out (by omega); omega)] at g
            omega
        subst hR
        clear hg hfirst hbd2 hnum2 c3 hb3
        rcases hnn with h5 | ⟨h5, h6⟩
        · have hN1 := rnumber_any y M1 K1 wr B 0 h5.symm
          clear h5
          go_wp2_with (go_at_call 11; refine hN1.mono ?_; clear hN1; rintro _ wr ⟨rfl, rfl⟩)
          exact bodyPost_ret (v := .tuple #[.int .i64 (y - Y1 - 1), .int .i64 0]) (by simp [results, Tryd.results25, go_sem]) rfl ⟨rfl, rfl⟩
        · have hN1 := rnumber_any y M1 K1 wr 0 20 h5.symm
          have hN2 := rnumber_any y 3 1 wr B 0 h6.symm
          clear h5 h6
          go_wp2_with (first | (go_at_call 11; refine hN1.mono ?_; clear hN1; rintro _ wr ⟨rfl, rfl⟩) | (go_at_call 11; refine hN2.mono ?_; clear hN2; rintro _ wr ⟨rfl, rfl⟩))
          exact bodyPost_ret (v := .tuple #[.int .i64 (y - Y1 - 1), .int .i64 0]) (by simp [results, Tryd.results25, go_sem]) rfl ⟨rfl, rfl⟩
      · have hgo : y ≤ Y2 ∧ Hid (y + 1 = Y2 + 1 → V ≤ b) := by
          refine ⟨?_, fun e => ?_⟩
          · apply Classical.byContradiction
            intro hn
            exact hB (hb3.2.1 (by omega))
          · have := hb3.2.2 (by omega)
            omega
        obtain ⟨g1, g2⟩ := hgo
        clear hg hfirst hbd2 hnum2 c3 hb3
        rcases hnn with h5 | ⟨h5, h6⟩
        · have hN1 := rnumber_any y M1 K1 wr B 0 h5.symm
          clear h5
          go_wp2_with (go_at_call 11; refine hN1.mono ?_; clear hN1; rintro _ wr ⟨rfl, rfl⟩)
          exact ⟨⟨y + 1, rfl, congrArg (Value.int .i64) (by omega), by omega, by omega, g2, trivial⟩, by simp [intOf]; omega⟩
        · have hN1 := rnumber_any y M1 K1 wr 0 20 h5.symm
          have hN2 := rnumber_any y 3 1 wr B 0 h6.symm
          clear h5 h6
          go_wp2_with (first | (go_at_call 11; refine hN1.mono ?_; clear hN1; rintro _ wr ⟨rfl, rfl⟩) | (go_at_call 11; refine hN2.mono ?_; clear hN2; rintro _ wr ⟨rfl, rfl⟩))
          exact ⟨⟨y + 1, rfl, congrArg (Value.int .i64) (by omega), by omega, by omega, g2, trivial⟩, by simp [intOf]; omega⟩

end Go.Proofs.YtdjfjcabfbencabDoor
