import Derived.Test.YteefieidfgpijaaCgD
namespace Go.Proofs.Yteefieidfgpijaa.CF
open Go.RowKit
attribute [local go_sem] run_store_float

theorem eq_pt1 (w : World) : (binOp .eql 35 (.agg #[.int .i64 600, .float .f32 1133903872]) (.agg #[.int .i64 600, .float .f32 1133903872])).run Try.prog w = .ok (.bool true) w := by kernel_rfl
theorem eq_pt2 (w : World) : (binOp .eql 35 (.agg #[.int .i64 400, .float .f32 1056964608]) (.agg #[.int .i64 400, .float .f32 1056964608])).run Try.prog w = .ok (.bool true) w := by kernel_rfl
theorem ne_150 (w : World) : (binOp .neq 33 (.float .f32 1125515264) (.float .f32 1125515264)).run Try.prog w = .ok (.bool false) w := by kernel_rfl
theorem eq_s1 (w : World) : (binOp .eql 9 (.string ⟨#[32, 32, 32, 32, 32, 32, 42]⟩) (.string ⟨#[32, 32, 32, 32, 32, 32, 42]⟩)).run Try.prog w = .ok (.bool true) w := by kernel_rfl
theorem eq_s2 (w : World) : (binOp .eql 9 (.string ⟨#[42, 45, 45, 45, 45, 45, 45]⟩) (.string ⟨#[42, 45, 45, 45, 45, 45, 45]⟩)).run Try.prog w = .ok (.bool true) w := by kernel_rfl
theorem D0_t0 : (textsL D0 3 7 4)[0]? = some (.string ⟨#[32, 32, 32, 32, 32, 32, 42]⟩) ∧ (textsL D0 3 7 4)[3]? = some (.string ⟨#[42, 45, 45, 45, 45, 45, 45]⟩) := by
  have h1 : (textsL D0 3 7 4)[0]? = some (.string ⟨(lineL D0 3 7 3).toArray⟩) := rfl
  have h2 : (textsL D0 3 7 4)[3]? = some (.string ⟨(lineL D0 3 7 0).toArray⟩) := rfl
  rw [h1, h2, D0_line.1, D0_line.2]
  exact ⟨rfl, rfl⟩
theorem own_at2 {w : World} {base n : Nat} {e : TypeId} {p : Option Addr} {cap : Nat} {xs : List Value} (h : w.ownsRow base e 1 (.slice p n cap) n xs) {k : Nat} (hk : k < xs.length) (hn : n = xs.length) : ∃ g, p = some ⟨g, 0, none⟩ ∧ ∀ k (hk : k < xs.length), w.cell? ⟨g, k, none⟩ = some xs[k] := by
  obtain ⟨g, cap', e1⟩ := own_some h (by omega)
  injection e1 with e1 e2 e3
  subst e1 e3
  exact ⟨g, rfl, fun k hk => (h.cellAt k (by omega)).trans (List.getElem?_eq_getElem hk)⟩
theorem own_lenW {w : World} {base n size : Nat} {e : TypeId} {v : Value} {xs : List Value} (h : w.ownsRow base e size v n xs) : ∃ p cap, v = .slice p n cap := by
  obtain ⟨_, ⟨rfl, rfl⟩ | ⟨g, cap, cur, rfl, _⟩⟩ := h
  · exact ⟨_, _, rfl⟩
  · exact ⟨_, _, rfl⟩
set_option maxRecDepth 8000 in
set_option maxHeartbeats 2000000 in
theorem known_any (w : World) : Calls Try.prog 7 #[] w fun e w' => e = .returned (.bool true) ∧ Below w.heap.size w w' := by
  have hsa := samp_line 0 200 4 (by decide) (by decide) (by decide) (fun k => if k < 4 then (k : Int) * 100 else 0) (fun k => by show _ ≤ (if k < 4 then (k : Int) * 100 else 0) ∧ (if k < 4 then (k : Int) * 100 else 0) ≤ _; split <;> omega) w (fun k hk X _ => by
    refine line_any (0 + (k : Int) * 200) (by omega) _ ?_ X
    show (0 + (k : Int) * 200) / 2 = if k < 4 then (k : Int) * 100 else 0
    rw [if_pos hk]
    omega)
  have hsD : ptsW 0 200 (fun k => if k < 4 then (k : Int) * 100 else 0) 4 = D0 := by decide +kernel
  rw [hsD] at hsa
  have hsl := fun X a c (hX : PtAt X a D0) => slopeP_any D0 D0_ok (by decide) a c X hX
  rw [D0_slope.1, D0_slope.2] at hsl
  have hat := fun X a c (hX : PtAt X a D0) => at_any D0 D0_ok (by decide) 300 1125515264 0 D0_at a c X hX
  have hdr := fun X a c (hX : PtAt X a D0) => draw_any D0 D0_ok (by decide) 7 4 0 _ D0_draw a c X hX
  rw [show D0.length = 4 from rfl] at hsl hat hdr
  have e1 := eq_pt1
  have e2 := eq_pt2
  go_enter Try.func7, Try.ntmps7
  go_wp2_with (go_at_call 10; fail)
  refine hsa.mono ?_
  rintro _ w1 ⟨pv, rfl, ho1, hB1⟩
  obtain ⟨a1, c1, rfl, hp1⟩ := pt_of_own ho1 rfl
  clear hsa ho1
  go_wp2_with (go_at_call 11; fail)
  refine (hsl _ _ _ hp1).mono ?_
  rintro _ w2 ⟨a2, c2, rfl, hp2, hB2⟩
  clear hsl
  have hp1' := hp1.later hB2
  go_wp2_with (go_at_call 13; fail)
  refine (hat _ _ _ hp1').mono ?_
  rintro _ w3 ⟨rfl, hB3⟩
  clear hat
  have hp1'' := hp1'.later hB3
  go_wp2_with (go_at_call 17; fail)
  refine (hdr _ _ _ hp1'').mono ?_
  rintro _ w4 ⟨v4, rfl, ho4, hB4⟩
  clear hdr
  obtain ⟨b1, off1, rfl, hc1⟩ := (hp1''.later hB4).cells (k := 3) (by decide)
  obtain ⟨b2, off2, rfl, hc2⟩ := ((hp2.later hB3).later hB4).cells (k := 2) (by decide)
  obtain ⟨s0, s1⟩ := hc1 3 (by decide)
  obtain ⟨t0, t1⟩ := hc2 2 (by decide)
  obtain ⟨p4, cap4, rfl⟩ := own_lenW ho4
  rw [textsL_len] at ho4 ⊢
  obtain ⟨g4, rfl, hc4⟩ := own_at2 (k := 0) ho4 (by rw [textsL_len]; decide) (by rw [textsL_len])
  have u0 := hc4 0 (by rw [textsL_len]; decide)
  have u3 := hc4 3 (by rw [textsL_len]; decide)
  rw [← List.getElem?_eq_getElem, D0_t0.1] at u0
  rw [← List.getElem?_eq_getElem, D0_t0.2] at u3
  change w4.cell? ⟨b1, off1 + 6, none⟩ = some (.int .i64 600) at s0
  change w4.cell? ⟨b1, off1 + 6 + 1, none⟩ = some (.float .f32 1133903872) at s1
  change w4.cell? ⟨b2, off2 + 4, none⟩ = some (.int .i64 400) at t0
  change w4.cell? ⟨b2, off2 + 4 + 1, none⟩ = some (.float .f32 1056964608) at t1
  have e3 := ne_150
  have e4 := eq_s1
  have e5 := eq_s2
  have hBe : Below w.heap.size w w4 := ((hB1.trans (hB2.mono hB1.size)).trans (hB3.mono (Nat.le_trans hB1.size hB2.size))).trans (hB4.mono (Nat.le_trans hB1.size (Nat.le_trans hB2.size hB3.size)))
  clear hc1 hc2 hc4 ho4 hp1 hp1' hp1'' hp2 hsD hB1 hB2 hB3 hB4
  go_wp2
  go_ret
  exact ⟨rfl, hBe⟩
end Go.Proofs.Yteefieidfgpijaa.CF
