import Derived.Test.YteefieidfgpijaaCwD
namespace Go.Proofs.Yteefieidfgpijaa.CF
open Go.RowKit
attribute [local go_sem] run_store_float

theorem own_nil {w : World} {base n size : Nat} {e : TypeId} {a : Option Addr} {c : Nat} {xs : List Value} (h : w.ownsRow base e size (.slice a n c) n xs) : a = none → c = 0 := fun ha => by
  subst ha
  obtain ⟨_, ⟨e, _⟩ | ⟨g, cap, cur, e, _⟩⟩ := h
  · injection e
  · injection e with e1; cases e1
/-- The first and the last height become others. -/
def turnD (D : Dots) : Dots := if D.length = 0 then D else setY (setY D 0 1077936128) (D.length - 1) 3221225472
theorem turnD_len (D : Dots) : (turnD D).length = D.length := by unfold turnD; split <;> simp [setY_len]
theorem Ok.turnD {D : Dots} (h : Ok D) : Ok (turnD D) := by
  unfold CF.turnD
  split
  · exact h
  · exact (h.setY (by decide)).setY (by decide)
def TurnP (D : Dots) (base g cap : Nat) (w : World) (e : Ending) (w' : World) : Prop := ∃ a' c', e = .returned (.slice a' D.length c') ∧ RtAt w' a' (turnD D) ∧ InP w' base g cap (turnD D) ∧ Below base w w' ∧ (a' = none → c' = 0)
set_option maxRecDepth 8000 in
set_option maxHeartbeats 2000000 in
theorem turned_law (D : Dots) (hl : D.length ≤ 8796093021952) (base g cap : Nat) (a : Option Addr) (c : Nat) (w : World) (h : InP w base g cap D) (h2 : RtAt w a D) (hcap : a = none → c = 0) (hbw : base ≤ w.heap.size) : Calls Try.prog 22 #[.slice (some ⟨g, 0, none⟩) D.length cap, .slice a D.length c] w (TurnP D base g cap w) := by
  by_cases h0 : D.length = 0
  · have e0 : turnD D = D := by unfold turnD; rw [if_pos h0]
    have hz : ¬ (0 : Int) < (D.length : Int) := by omega
    go_enter Try.func22, Try.ntmps22
    go_wp2_with (at_builtin; refine wpList_copyD _ rfl _ _ rfl rfl a c D rfl hcap h2 hl ?_; intro a' c' w1 ho1 hB1; have h1 := h.later hB1; have hBe := hB1.mono hbw; obtain ⟨a2, c2, he2, hR⟩ := rt_of_own ho1 rfl; injection he2 with e7 e8 e9; subst e7)
    go_ret
    exact ⟨_, _, by rw [h0]; rfl, by rw [e0]; exact hR, by rw [e0]; exact h1, hBe, by rw [← e9]; exact own_nil ho1⟩
  · obtain ⟨n, hn⟩ : ∃ n, D.length = n + 1 := ⟨D.length - 1, by omega⟩
    have hpos : (0 : Int) < (D.length : Int) := by omega
    have b1 := f32bits 1077936128
    have b2 := f32bits 3221225472
    go_enter Try.func22, Try.ntmps22
    go_upto_region 4 with (at_builtin; refine wpList_copyD _ rfl _ _ rfl rfl a c D rfl hcap h2 hl ?_; intro a' c' w1 ho1 hB1; have h1 := h.later hB1; have hBe := hB1.mono hbw)
    have hnH := Hid.mk hn
    have e1 : (D.length : Int) - 1 = (n : Int) := by omega
    have e2 : (n : Int) < (D.length : Int) := by omega
    have e3 : (0 : Int) ≤ (n : Int) := by omega
    obtain ⟨g', cap', e⟩ := own_some ho1 (by omega)
    injection e with e4 e5 e6
    subst e4 e6
    have hgl := (ho1.lt g' rfl).1
    have hgg := h.lt.2
    have hne : g ≠ g' := by omega
    obtain ⟨x1, hx1⟩ : ∃ X, w1.setCell ⟨g, 1, none⟩ (.float .f32 1077936128) = X := ⟨_, rfl⟩
    have k1 := (h1.cell (i := 0) (by omega)).2
    rw [Nat.zero_mul, Nat.zero_add] at k1
    have f1 := h1.2.frozenAt 1
    have h2' : InP x1 base g cap (setY D 0 1077936128) := by rw [← hx1]; exact h1.setY (i := 0) (by omega) _
    have hBx1 : Below base w x1 := by rw [← hx1]; exact hBe.setCell (p := ⟨g, 1, none⟩) h.lt.1 _
    have ho2 : x1.ownsRow w.heap.size 62 2 (.slice (some ⟨g', 0, none⟩) D.length c') D.length (rtV D) := by rw [← hx1]; exact ownsRow_setCell_other ho1 (by intro e; injection e with e; exact hne e.symm) _
    obtain ⟨x2, hx2⟩ : ∃ X, x1.setCell ⟨g, n * 2 + 1, none⟩ (.float .f32 3221225472) = X := ⟨_, rfl⟩
    have k2 := (h2'.cell (i := n) (by rw [setY_len]; omega)).2
    have f2 := h2'.2.frozenAt (n * 2 + 1)
    have h3' : InP x2 base g cap (turnD D) := by
      rw [← hx2]
      have := h2'.setY (i := n) (by rw [setY_len]; omega) 3221225472
      unfold turnD
      rw [if_neg h0, show D.length - 1 = n by omega]
      exact this
    have hBx2 : Below base w x2 := by rw [← hx2]; exact hBx1.setCell (p := ⟨g, n * 2 + 1, none⟩) h.lt.1 _
    have ho3 : x2.ownsRow w.heap.size 62 2 (.slice (some ⟨g', 0, none⟩) D.length c') D.length (rtV D) := by rw [← hx2]; exact ownsRow_setCell_other ho2 (by intro e; injection e with e; exact hne e.symm) _
    obtain ⟨y1, hy1⟩ : ∃ X, x2.setCell ⟨g', 1, none⟩ (.int .u32 1077936128) = X := ⟨_, rfl⟩
    have k3 := (ho3.cellAt (0 * 2 + 1) (by omega)).trans (rtV_get D 0 (by omega)).2
    rw [Nat.zero_mul, Nat.zero_add] at k3
    have f3 := ho3.frozenAt 1
    have ho4 : y1.ownsRow w.heap.size 62 2 (.slice (some ⟨g', 0, none⟩) D.length c') D.length (rtV (setY D 0 1077936128)) := by
      rw [← hy1, ← rtV_set D 0 _ (by omega)]
      exact (ho3.stored 1 _).1
    have h4' : InP y1 base g cap (turnD D) := by rw [← hy1]; exact ⟨h3'.1, ownsRow_setCell_other h3'.2 (by intro e; injection e with e; exact hne e) _⟩
    have hBy1 : Below base w y1 := by rw [← hy1]; exact hBx2.setCell (p := ⟨g', 1, none⟩) (Nat.le_trans hbw hgl) _
    obtain ⟨y2, hy2⟩ : ∃ X, y1.setCell ⟨g', n * 2 + 1, none⟩ (.int .u32 3221225472) = X := ⟨_, rfl⟩
    have k4 := (ho4.cellAt (n * 2 + 1) (by omega)).trans (rtV_get (setY D 0 1077936128) n (by rw [setY_len]; omega)).2
    have f4 := ho4.frozenAt (n * 2 + 1)
    have ho5 : y2.ownsRow w.heap.size 62 2 (.slice (some ⟨g', 0, none⟩) D.length c') D.length (rtV (turnD D)) := by
      have e : turnD D = setY (setY D 0 1077936128) n 3221225472 := by unfold turnD; rw [if_neg h0, show D.length - 1 = n by omega]
      rw [← hy2, e, ← rtV_set _ n _ (by rw [setY_len]; omega)]
      exact (ho4.stored (n * 2 + 1) _).1
    have h5' : InP y2 base g cap (turnD D) := by rw [← hy2]; exact ⟨h4'.1, ownsRow_setCell_other h4'.2 (by intro e; injection e with e; exact hne e) _⟩
    have hBy2 : Below base w y2 := by rw [← hy2]; exact hBy1.setCell (p := ⟨g', n * 2 + 1, none⟩) (Nat.le_trans hbw hgl) _
    obtain ⟨a2, c2, he2, hR⟩ := rt_of_own ho5 (turnD_len D).symm
    injection he2 with e7 e8 e9
    subst e7
    clear ho1 ho2 ho3 ho4 ho5 h1 h2' h3' h4' hBx1 hBx2 hBy1 hBe hB1 h h2 e8 e9 hgl hgg hne
    go_wp2
    go_ret
    exact ⟨_, _, by rw [hn]; rfl, hR, h5', hBy2, fun e => by cases e⟩
end Go.Proofs.Yteefieidfgpijaa.CF
