import Derived.Test.YtdjfjcabfbencaaDoorDSpan
import Derived.Test.YtdjfjcabfbencaaDoorDKnown
import Derived.Test.YtdjfjcabfbencaaDoorDAge
namespace Go.Proofs.YtdjfjcabfbencaaDoor
open Go.RowKit

/-- What the law asks behind the exchange. -/
structure BetAll (a b k1 d1 k2 d2 : Int) : Prop where
  h1 : D.At a k1 d1
  h2 : D.At b k2 d2
  h : a ≤ b

set_option maxRecDepth 4000 in
set_option maxHeartbeats 4000000 in
theorem between_walk (a0 b0 : Int) (w : World) (hM : Mon w) (hn : -9223372036854775808 ≤ a0 ∧ a0 ≤ 9223372036854775807) (hm : -9223372036854775808 ≤ b0 ∧ b0 ≤ 9223372036854775807) :
    Calls Tryd.prog 6 #[.int .i64 a0, .int .i64 b0] w fun e w' => e = .returned (.bool true) ∧ Below w.heap.size w w' := by
  have hA := fun W => day_any a0 hn.1 hn.2 W
  have hB := fun W => day_any b0 hm.1 hm.2 W
  have ba := D.dn_bd a0
  have bb := D.dn_bd b0
  obtain ⟨a, b, hab, hc⟩ : ∃ a b, a ≤ b ∧ ((a = D.dn a0 ∧ b = D.dn b0 ∧ ¬ D.dn b0 < D.dn a0) ∨ (b = D.dn a0 ∧ a = D.dn b0 ∧ D.dn b0 < D.dn a0)) := by
    by_cases c : D.dn b0 < D.dn a0
    · exact ⟨_, _, by omega, .inr ⟨rfl, rfl, c⟩⟩
    · exact ⟨_, _, by omega, .inl ⟨rfl, rfl, c⟩⟩
  obtain ⟨k1, d1, h1⟩ := D.at_ex a (by omega) (by omega)
  obtain ⟨k2, d2, h2⟩ := D.at_ex b (by omega) (by omega)
  have hBet : Hid (D.BetIs a b (D.whole k1 d1 k2 b) 0) := .le k1 d1 k2 d2 h1 h2 hab
  have hBet2 : Hid (D.BetIs b a (-(D.whole k1 d1 k2 b)) 0) := by
    by_cases c : a < b
    · exact .gt k2 d2 k1 d1 h2 h1 c
    · have e : a = b := by omega
      subst e
      obtain ⟨rfl, rfl⟩ := h1.uniq h2
      have hz : D.whole k1 d1 k1 a = 0 := by
        unfold D.whole
        rw [show k1 - k1 = 0 by omega, D.addv_zero h1, if_neg (by omega)]
      have h3 := D.BetIs.le k1 d1 k1 d1 h1 h1 (Int.le_refl a)
      rw [hz] at h3 ⊢
      exact h3
  have hbd := D.whole_bd h1 h2 hab
  obtain ⟨x, y, g, hx0, hxb, hy0, hg⟩ := D.whole_add h1 h2 hab
  have hx : Hid (D.AddIs a (D.whole k1 d1 k2 b) x 0) := hx0
  have hy : Hid (D.AddIs a (D.whole k1 d1 k2 b + 1) y g) := hy0
  clear hx0 hy0
  have hAge := fun W hM => age_yes a b k1 d1 k2 d2 h1 h2 hab W hM
  have haw := D.age_whole h1 h2 hab
  have da : Hid (D.Dat a (1900 + k1 / 12) (k1 % 12 + 1) (d1 + 1) 0) := .yes k1 d1 h1
  have db : Hid (D.Dat b (1900 + k2 / 12) (k2 % 12 + 1) (d2 + 1) 0) := .yes k2 d2 h2
  have hl := D.lv_leap (1900 + k2 / 12)
  generalize D.whole k1 d1 k2 b = m at *
  generalize D.age k1 d1 k2 b = R at *
  have e1 : wrap64 (m + 1) = m + 1 := wrap64_id (by omega) (by omega)
  have e2 : wrap64 (-m) = -m := wrap64_id (by omega) (by omega)
  have e3 : m.tdiv 12 = m / 12 := Int.tdiv_eq_ediv_of_nonneg hbd.1
  obtain ⟨Y1, hY1⟩ : ∃ Y, Y = 1900 + k1 / 12 := ⟨_, rfl⟩
  obtain ⟨Y2, hY2⟩ : ∃ Y, Y = 1900 + k2 / 12 := ⟨_, rfl⟩
  obtain ⟨M1, hM1⟩ : ∃ Y, Y = k1 % 12 + 1 := ⟨_, rfl⟩
  obtain ⟨M2, hM2⟩ : ∃ Y, Y = k2 % 12 + 1 := ⟨_, rfl⟩
  obtain ⟨K1, hK1⟩ : ∃ Y, Y = d1 + 1 := ⟨_, rfl⟩
  obtain ⟨K2, hK2⟩ : ∃ Y, Y = d2 + 1 := ⟨_, rfl⟩
  rw [← hY2] at hl
  have haw2 : Hid (R = m / 12 - (if M1 = 2 ∧ K1 = 29 ∧ M2 = 2 ∧ K2 = 28 ∧ D.leap Y2 = false then 1 else 0)) := by
    have h5 : D.lv Y2 = 0 ↔ D.leap Y2 = false := by rw [hl]; cases D.leap Y2 <;> simp
    have hiff : (k1 % 12 = 1 ∧ d1 = 28 ∧ k2 % 12 = 1 ∧ d2 = 27 ∧ D.lv Y2 = 0) ↔ (M1 = 2 ∧ K1 = 29 ∧ M2 = 2 ∧ K2 = 28 ∧ D.leap Y2 = false) := by
      rw [h5]
      constructor
      · rintro ⟨c1, c2, c3, c4, c5⟩
        exact ⟨by omega, by omega, by omega, by omega, c5⟩
      · rintro ⟨c1, c2, c3, c4, c5⟩
        exact ⟨by omega, by omega, by omega, by omega, c5⟩
    unfold Hid
    rw [haw, ← hY2]
    simp only [hiff]
  rw [← hY1, ← hM1, ← hK1] at da
  rw [← hY2, ← hM2, ← hK2] at db
  have hLp := fun W => leap_any Y2 W
  generalize D.leap Y2 = l at *
  clear haw hl hY1 hY2 hM1 hM2 hK1 hK2 h1 h2
  have x1 : ¬ m < 0 := by omega
  have x2 : ¬ b < x := by omega
  have e4 : wrap64 (m / 12 - 1) = m / 12 - 1 := wrap64_id (by omega) (by omega)
  rcases hg with rfl | ⟨rfl, hg2⟩
  all_goals rcases hc with ⟨ea, eb, hc2⟩ | ⟨eb, ea, hc2⟩
  all_goals
    rw [← ea, ← eb] at hc2
    first | rw [← ea] at hA | rw [← eb] at hA
    first | rw [← ea] at hB | rw [← eb] at hB
    clear ea eb ba bb
    go_enter Tryd.func6, Tryd.ntmps6
    go_wp2_with (first | (go_at_call 12; refine (known_true _ hM).mono ?_; rintro _ w1 ⟨rfl, hb1⟩; have hM1 := hM.later hb1) | (go_at_call 13; refine (hA _).mono ?_; clear hA; rintro _ w1 ⟨rfl, rfl⟩) | (go_at_call 13; refine (hB _).mono ?_; clear hB; rintro _ w1 ⟨rfl, rfl⟩) | (go_at_call 17; refine (between_any a b m 0 _ hM1 hBet).mono ?_; clear hBet; rintro _ w2 ⟨rfl, hb2⟩; have hM2 := hM1.later hb2; have hB2 := below_step hb1 hb2) | (go_at_call 14; refine (add_any a m x 0 _ hM2 hx).mono ?_; clear hx; rintro _ w3 ⟨rfl, hb3⟩; have hM3 := hM2.later hb3; have hB3 := below_step hB2 hb3) | (go_at_call 14; refine (add_any a (m + 1) y _ _ hM3 hy).mono ?_; clear hy; rintro _ w4 ⟨rfl, hb4⟩; have hM4 := hM3.later hb4; have hB4 := below_step hB3 hb4) | (go_at_call 17; refine (between_any b a (-m) 0 _ hM4 hBet2).mono ?_; clear hBet2; rintro _ w5 ⟨rfl, hb5⟩; have hM5 := hM4.later hb5; have hB5 := below_step hB4 hb5) | (go_at_call 22; refine (hAge _ hM5).mono ?_; clear hAge; rintro _ w6 ⟨rfl, hb6⟩; have hM6 := hM5.later hb6; have hB6 := below_step hB5 hb6) | (go_at_call 15; refine (date_any a Y1 M1 K1 0 _ hM6 da).mono ?_; clear da; rintro _ w7 ⟨rfl, hb7⟩; have hM7 := (hM6.later hb7).alloc (.cells #[.int .i64 Y1, .int .i64 M1, .int .i64 K1] 33); have hB7 := (below_step hB6 hb7).alloc (below_step hB6 hb7).size (.cells #[.int .i64 Y1, .int .i64 M1, .int .i64 K1] 33); have hX7 := Box3.new w7 (.int .i64 Y1) (.int .i64 M1) (.int .i64 K1) 33) | (go_at_call 15; refine (date_any b Y2 M2 K2 0 _ hM7 db).mono ?_; clear db; rintro _ w8 ⟨rfl, hb8⟩; have hB8 := (below_step hB7 hb8).alloc (below_step hB7 hb8).size (.cells #[.int .i64 Y2, .int .i64 M2, .int .i64 K2] 33); have hX8 := Box3.new w8 (.int .i64 Y2) (.int .i64 M2) (.int .i64 K2) 33; have hX9 := (hX7.later hb8).alloc (.cells #[.int .i64 Y2, .int .i64 M2, .int .i64 K2] 33); obtain ⟨q0, q1, q2, -⟩ := id hX8; obtain ⟨p0, p1, p2, -⟩ := id hX9) | (go_at_call 23; refine (hLp _).mono ?_; clear hLp; rintro _ w9 ⟨rfl, rfl⟩))
    all_goals
      go_ret
      refine ⟨ret_bool ?_, (below_step hB7 hb8).alloc (below_step hB7 hb8).size _⟩
      have hr := haw2.out
      clear haw2
      rw [beq_iff_eq]
      split at hr <;> first | omega | (simp_all; done) | (simp_all; omega)

end Go.Proofs.YtdjfjcabfbencaaDoor
