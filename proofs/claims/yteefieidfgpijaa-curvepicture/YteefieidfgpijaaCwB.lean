import Derived.Test.YteefieidfgpijaaCwA
namespace Go.Proofs.Yteefieidfgpijaa.CF
open Go.RowKit
attribute [local go_sem] run_store_float

theorem ptV_len (D : Dots) : (ptV D).length = D.length * 2 := by
  unfold ptV
  induction D with
  | nil => rfl
  | cons d D ih => rw [List.flatMap_cons, List.length_append, ih, List.length_cons, List.length_cons, List.length_cons, List.length_nil]; omega
theorem InP.lt {w : World} {base g cap : Nat} {D : Dots} (h : InP w base g cap D) : base ≤ g ∧ g < w.heap.size := h.2.lt g rfl
theorem InP.cell {w : World} {base g cap : Nat} {D : Dots} (h : InP w base g cap D) {i : Nat} (hi : i < D.length) : w.cell? ⟨g, i * 2, none⟩ = some (.int .i64 D[i].1) ∧ w.cell? ⟨g, i * 2 + 1, none⟩ = some (.float .f32 D[i].2) := by
  obtain ⟨h1, h2⟩ := ptV_get D i hi
  have hl := ptV_len D
  exact ⟨(h.2.cellAt (i * 2) (by omega)).trans ((List.getElem?_append_left (by omega)).trans h1), (h.2.cellAt (i * 2 + 1) (by omega)).trans ((List.getElem?_append_left (by omega)).trans h2)⟩
theorem InP.pt {w : World} {base g cap : Nat} {D : Dots} (h : InP w base g cap D) : PtAt w (some ⟨g, 0, none⟩) D := .inr ⟨g, 0, rfl, h.lt.2, fun i hi => by rw [Nat.zero_add]; exact h.cell hi⟩
theorem InP.marks {w : World} {base g cap : Nat} {D : Dots} (h : InP w base g cap D) : w.cell? ⟨g, D.length * 2, none⟩ = some (.int .i64 (-7701)) ∧ w.cell? ⟨g, (D.length + 1) * 2, none⟩ = some (.int .i64 (-7702)) := by
  have hl := ptV_len D
  refine ⟨(h.2.cellAt (D.length * 2) (by omega)).trans ?_, (h.2.cellAt ((D.length + 1) * 2) (by omega)).trans ?_⟩
  · rw [List.getElem?_append_right (by omega), hl, show D.length * 2 - D.length * 2 = 0 by omega]
    rfl
  · rw [List.getElem?_append_right (by omega), hl, show (D.length + 1) * 2 - D.length * 2 = 2 by omega]
    rfl
theorem InP.later {w w' : World} {base g cap : Nat} {D : Dots} (h : InP w base g cap D) (hb : Below w.heap.size w w') : InP w' base g cap D := by
  have hlt := h.lt.2
  obtain ⟨h1, hl, h2 | ⟨g', cap', cur, e, hb1, hc, h3⟩⟩ := h
  · exact absurd h2.2 (by omega)
  · injection e with e1 e2 e3
    injection e1 with e1
    injection e1 with e1
    subst e1
    exact ⟨h1, hl, .inr ⟨_, cap', cur, by rw [e3], hb1, (hb.block _ hlt).trans hc, h3⟩⟩
set_option maxHeartbeats 1000000 in
theorem marked_any (D : Dots) (hl : D.length ≤ 8796093021952) (base g cap : Nat) (w : World) (h : InP w base g cap D) : Calls Try.prog 37 #[.slice (some ⟨g, 0, none⟩) D.length cap] w fun e w' => e = .returned (.bool true) ∧ w' = w := by
  obtain ⟨m1, m2⟩ := h.marks
  have hcap := h.1
  have hcI : (D.length : Int) + 2 ≤ (cap : Int) := by omega
  obtain ⟨n, hn⟩ : ∃ n, n = D.length := ⟨_, rfl⟩
  rw [← hn] at m1 m2 hcap hcI hl ⊢
  clear hn h
  go_enter Try.func37, Try.ntmps37
  go_wp2
  go_ret
  exact ⟨rfl, rfl⟩
set_option maxRecDepth 8000 in
set_option maxHeartbeats 2000000 in
theorem kept_any (D : Dots) (hl : D.length ≤ 8796093021952) (base g cap : Nat) (a : Option Addr) (c : Nat) (w : World) (h : InP w base g cap D) (h2 : RtAt w a D) : Calls Try.prog 21 #[.slice (some ⟨g, 0, none⟩) D.length cap, .slice a D.length c] w fun e w' => e = .returned (.bool true) ∧ Below w.heap.size w w' := by
  have hne : ((D.length : Int) != (D.length : Int)) = false := by simp
  have hmk := marked_any D hl base g cap w h
  have hp := h.pt
  clear h
  go_enter Try.func21, Try.ntmps21
  go_wp2_with (go_at_call 37; refine hmk.mono ?_; rintro _ w1 ⟨rfl, hw1⟩; subst w1)
  clear hmk
  go_loopw [5] (fun v wr => ∃ k : Nat, k ≤ D.length ∧ v = .int .i64 (k : Int) ∧ Below w.heap.size w wr) (fun v _ => D.length - (intOf v).toNat)
  case atStart => exact ⟨0, by omega, rfl, Below.refl _ _⟩
  case round =>
    obtain ⟨k, hk, rfl, hB⟩ := hrel
    by_cases hlt : k < D.length
    · have hlt' : (k : Int) < (D.length : Int) := by omega
      have hk0 : (0 : Int) ≤ (k : Int) := by omega
      obtain ⟨b1, off1, he1, hc⟩ := (hp.later hB).cells hlt
      cases he1
      obtain ⟨b2, off2, rfl, hc2⟩ := (h2.later hB).cells hlt
      obtain ⟨p0, p1⟩ := hc k hlt
      obtain ⟨q0, q1⟩ := hc2 k hlt
      rw [Nat.zero_add] at p0 p1
      generalize (D.getD k (0, 0)).1 = x at *
      generalize (D.getD k (0, 0)).2 = y at *
      have hfb := f32bits y
      have hx : (x != x) = false := by simp
      have hy : ((y : Int) != (y : Int)) = false := by simp
      clear hc hc2
      go_wp2_with fail
      go_quiet (fail)
      go_wp2
      go_roundw
      case rel => exact ⟨k + 1, by omega, by go_num, below_drewN hB _⟩
      case measure => simp [intOf]; omega
    · have hlt' : ¬ (k : Int) < (D.length : Int) := by omega
      go_wp2
      go_ret
      exact ⟨rfl, hB⟩
end Go.Proofs.Yteefieidfgpijaa.CF
