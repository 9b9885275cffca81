import Derived.Test.YtdjfjcabfbencabDoorDShareF
import Derived.Test.YtdjfjcabfbencabDoorDRHeld
import Derived.Test.YtdjfjcabfbencabDoorDSpan
namespace Go.Proofs.YtdjfjcabfbencabDoor
open Go.RowKit

set_option maxHeartbeats 1000000 in
theorem age_no (a b e : Int) (he : e = 21 ∨ e = 23) (hO : ∀ W, Calls Tryd.prog 44 #[.int .i64 a, .int .i64 b] W fun en w' => en = .returned (.int .i64 e) ∧ w' = W) (w : World) :
    Calls Tryd.prog 24 #[.int .i64 a, .int .i64 b] w fun en w' => en = .returned (.tuple #[.int .i64 0, .int .i64 e]) ∧ Below w.heap.size w w' := by
  rcases he with rfl | rfl
  · go_enter Tryd.func24, Tryd.ntmps24
    go_wp2_with (go_at_call 44; refine (hO _).mono ?_; clear hO; rintro _ w ⟨rfl, rfl⟩)
    exact bodyPost_ret (v := .tuple #[.int .i64 0, .int .i64 21]) (by simp [results, Tryd.results24, go_sem]) rfl ⟨rfl, Below.refl _ _⟩
  · go_enter Tryd.func24, Tryd.ntmps24
    go_wp2_with (go_at_call 44; refine (hO _).mono ?_; clear hO; rintro _ w ⟨rfl, rfl⟩)
    exact bodyPost_ret (v := .tuple #[.int .i64 0, .int .i64 23]) (by simp [results, Tryd.results24, go_sem]) rfl ⟨rfl, Below.refl _ _⟩

set_option maxHeartbeats 1000000 in
theorem rage_no (a b e : Int) (h : ((¬ (dayP a ∧ dayP b)) ∧ e = 21) ∨ ((dayP a ∧ dayP b) ∧ b < a ∧ e = 23)) (w : World) :
    Calls Tryd.prog 25 #[.int .i64 a, .int .i64 b] w fun en w' => en = .returned (.tuple #[.int .i64 0, .int .i64 e]) ∧ w' = w := by
  have hI := is_any a w
  have hJ := is_any b w
  rcases h with ⟨hn, rfl⟩ | ⟨hd, hl, rfl⟩
  · by_cases ha : 0 ≤ a ∧ a ≤ 109572
    · have hb : ¬ (0 ≤ b ∧ b ≤ 109572) := fun hb => hn ⟨ha, hb⟩
      rw [decide_eq_true ha] at hI
      rw [decide_eq_false hb] at hJ
      clear hn ha hb
      go_enter Tryd.func25, Tryd.ntmps25
      go_wp2_with (first | (go_at_call 35; refine hI.mono ?_; clear hI; rintro _ w ⟨rfl, rfl⟩) | (go_at_call 35; refine hJ.mono ?_; clear hJ; rintro _ w ⟨rfl, rfl⟩))
      exact bodyPost_ret (v := .tuple #[.int .i64 0, .int .i64 21]) (by simp [results, Tryd.results25, go_sem]) rfl ⟨rfl, rfl⟩
    · rw [decide_eq_false ha] at hI
      generalize decide (0 ≤ b ∧ b ≤ 109572) = q at *
      clear hn ha
      go_enter Tryd.func25, Tryd.ntmps25
      go_wp2_with (first | (go_at_call 35; refine hI.mono ?_; clear hI; rintro _ w ⟨rfl, rfl⟩) | (go_at_call 35; refine hJ.mono ?_; clear hJ; rintro _ w ⟨rfl, rfl⟩))
      exact bodyPost_ret (v := .tuple #[.int .i64 0, .int .i64 21]) (by simp [results, Tryd.results25, go_sem]) rfl ⟨rfl, rfl⟩
  · rw [decide_eq_true hd.1] at hI
    rw [decide_eq_true hd.2] at hJ
    clear hd
    go_enter Tryd.func25, Tryd.ntmps25
    go_wp2_with (first | (go_at_call 35; refine hI.mono ?_; clear hI; rintro _ w ⟨rfl, rfl⟩) | (go_at_call 35; refine hJ.mono ?_; clear hJ; rintro _ w ⟨rfl, rfl⟩))
    exact bodyPost_ret (v := .tuple #[.int .i64 0, .int .i64 23]) (by simp [results, Tryd.results25, go_sem]) rfl ⟨rfl, rfl⟩

/-- P2.6 -/
theorem ages_ex (a b : Int) : ∃ v e, (∀ w, Mon w → Calls Tryd.prog 24 #[.int .i64 a, .int .i64 b] w fun en w' => en = .returned (.tuple #[.int .i64 v, .int .i64 e]) ∧ Below w.heap.size w w') ∧
    ∀ w, Calls Tryd.prog 25 #[.int .i64 a, .int .i64 b] w fun en w' => en = .returned (.tuple #[.int .i64 v, .int .i64 e]) ∧ w' = w := by
  by_cases hd : dayP a ∧ dayP b
  · by_cases hl : b < a
    · exact ⟨0, 23, fun w _ => age_no a b 23 (.inr rfl) (fun W => inOrder_any a b 23 (by unfold Hid; rw [if_pos ⟨hd.1.1, hd.1.2, hd.2.1, hd.2.2⟩, if_pos hl]) W) w, fun w => rage_no a b 23 (.inr ⟨hd, hl, rfl⟩) w⟩
    · obtain ⟨k1, d1, h1⟩ := D.at_ex a hd.1.1 hd.1.2
      obtain ⟨k2, d2, h2⟩ := D.at_ex b hd.2.1 hd.2.2
      exact ⟨_, 0, fun w hM => age_yes a b k1 d1 k2 d2 h1 h2 (by omega) w hM, fun w => rage_yes a b k1 d1 k2 d2 h1 h2 (by omega) w⟩
  · exact ⟨0, 21, fun w _ => age_no a b 21 (.inl rfl) (fun W => inOrder_any a b 21 (by unfold Hid; rw [if_neg (by omega)]) W) w, fun w => rage_no a b 21 (.inl ⟨hd, rfl⟩) w⟩

set_option maxRecDepth 4000 in
set_option maxHeartbeats 4000000 in
theorem spans_walk (a b n : Int) (w : World) (hM : Mon w) :
    Calls Tryd.prog 5 #[.int .i64 a, .int .i64 b, .int .i64 n] w fun e w' => e = .returned (.bool true) ∧ Below w.heap.size w w' := by
  obtain ⟨v1, e1, h1⟩ : ∃ v e, Hid (D.AddIs a n v e) := D.add_ex a n
  obtain ⟨v2, e2, h2⟩ : ∃ v e, Hid (D.BetIs a b v e) := D.bet_ex a b
  obtain ⟨v3, e3, h3, g3⟩ := ages_ex a b
  obtain ⟨q4, e4, h4⟩ : ∃ q e, Hid (HeldIs a b q e) := held_ex a b
  obtain ⟨p5, q5, e5, h5⟩ : ∃ p q e, Hid (ShareIs a b n p q e) := shareIs_ex a b n
  go_enter Tryd.func5, Tryd.ntmps5
  go_wp2_with (first | (go_at_call 20; refine (add_any a n v1 e1 _ hM h1).mono ?_; rintro _ w1 ⟨rfl, hb1⟩; have hM1 := hM.later hb1) | (go_at_call 21; refine (radd_any a n v1 e1 _ h1).mono ?_; rintro _ w1 ⟨rfl, rfl⟩) | (go_at_call 22; refine (between_any a b v2 e2 _ hM1 h2).mono ?_; rintro _ w2 ⟨rfl, hb2⟩; have hM2 := hM1.later hb2; have hB2 := below_step hb1 hb2) | (go_at_call 23; refine (rbetween_any a b v2 e2 _ h2).mono ?_; rintro _ w2 ⟨rfl, rfl⟩) | (go_at_call 24; refine (h3 _ hM2).mono ?_; rintro _ w3 ⟨rfl, hb3⟩; have hM3 := hM2.later hb3; have hB3 := below_step hB2 hb3) | (go_at_call 25; refine (g3 _).mono ?_; rintro _ w3 ⟨rfl, rfl⟩) | (go_at_call 26; refine (held_any a b q4 e4 h4 _ hM3).mono ?_; rintro _ w4 ⟨rfl, hb4⟩; have hM4 := hM3.later hb4; have hB4 := below_step hB3 hb4) | (go_at_call 27; refine (rheld_any a b q4 e4 h4 _).mono ?_; rintro _ w4 ⟨rfl, rfl⟩) | (go_at_call 28; refine (share_any a b n p5 q5 e5 h5 _ hM4).mono ?_; rintro _ w5 ⟨rfl, hb5⟩; have hB5 := below_step hB4 hb5) | (go_at_call 29; refine (rshare_any a b n p5 q5 e5 h5 _).mono ?_; rintro _ w5 ⟨rfl, rfl⟩))
  go_ret
  exact ⟨rfl, hB5⟩

end Go.Proofs.YtdjfjcabfbencabDoor
