import Derived.Test.YteiplejamciddaaYCi
namespace Go.Proofs.Yteiplejamciddaa
open Go.RowKit

set_option maxRecDepth 20000 in
set_option maxHeartbeats 2000000 in
theorem headP_any (p : Pk) (a3 a4 a5 a6 a7 : Option Addr) (c3 c4 c5 c6 c7 : Nat) (cb s : Nat) (W : World) (seen : Sn) (sv : Value) (h : CkS p [.string ⟨p.name.toArray⟩, .int .i64 p.year, .slice a3 p.opts.length c3, .slice a4 p.tabs.length c4, .slice a5 p.grps.length c5, .slice a6 p.lns.length c6, .slice a7 p.cks.length c7] cb s W seen sv) : Calls Try.prog 13 #[.pointer (some ⟨cb, 0, none⟩)] W (PtP p [.string ⟨p.name.toArray⟩, .int .i64 p.year, .slice a3 p.opts.length c3, .slice a4 p.tabs.length c4, .slice a5 p.grps.length c5, .slice a6 p.lns.length c6, .slice a7 p.cks.length c7] cb s sv (seen, hdF p) W) := by
  have hcb := h.lt
  obtain ⟨W1, hW1⟩ : ∃ W1, W1 = W.alloc (.cells #[.int .i64 0, .int .i64 0, .int .i64 0, .slice none 0 0] 41) := ⟨_, rfl⟩
  have hB1 : Below W.heap.size W W1 := by rw [hW1]; exact (Below.refl _ _).alloc (Nat.le_refl _) _
  have hbz : Bx W1 W.heap.size [.int .i64 0, .int .i64 0, .int .i64 0, .slice none 0 0] := by rw [hW1]; exact bx_new _ _ _
  have hk1 := h.bel hB1
  have hrb3 : some W.heap.size ≠ sv.ownBlock := fun e => by
    have := (h.pg _ e.symm).2
    omega
  have hrb1 : cb + 1 ≤ W.heap.size := hcb
  have hrb2 : W.heap.size ≤ W.heap.size := Nat.le_refl _
  obtain ⟨R, hR⟩ : ∃ R, hdF p = R := ⟨_, rfl⟩
  rw [hR]
  obtain ⟨QQ, hQQ⟩ : ∃ QQ, PtP p [.string ⟨p.name.toArray⟩, .int .i64 p.year, .slice a3 p.opts.length c3, .slice a4 p.tabs.length c4, .slice a5 p.grps.length c5, .slice a6 p.lns.length c6, .slice a7 p.cks.length c7] cb s sv (seen, R) W = QQ := ⟨_, rfl⟩
  rw [hQQ]
  have hQH := Hid.mk hQQ
  have hW1H := Hid.mk hW1
  obtain ⟨q0, q1, q2, q3, q4, q5, q6⟩ := h.cells
  have hSt : Hid (∀ w, Below W1.heap.size W1 w → Bx w W.heap.size [.int .i64 0, .int .i64 0, .int .i64 0, .slice none 0 0] ∧ (CkS p [.string ⟨p.name.toArray⟩, .int .i64 p.year, .slice a3 p.opts.length c3, .slice a4 p.tabs.length c4, .slice a5 p.grps.length c5, .slice a6 p.lns.length c6, .slice a7 p.cks.length c7] cb s w seen sv ∧ Fr cb W sv w sv)) := ⟨fun w hw => ⟨hbz.bel hw hbz.1, hk1.bel hw, (Fr.bel hB1 _).trans (Fr.bel hw _)⟩⟩
  clear hQQ hW1
  have hnm := isName_any p.name W1
  unfold hdF at hR
  obtain ⟨nb, hnb⟩ : ∃ nb, nmB p.name = nb := ⟨_, rfl⟩
  rw [hnb] at hnm hR
  clear hnb
  cases nb with
  | false =>
    simp only [Bool.false_eq_true, if_false] at hR
    have hRH := Hid.mk hR.symm
    clear hR hk1 hbz
    go_enter Try.func13, Try.ntmps13
    go_wp2_with fail
    rw [← hW1H.out]
    refine hnm.mono ?_
    clear hnm
    rintro e w1 ⟨rfl, hb1⟩
    obtain ⟨hbr3, hk_st⟩ := hSt.out w1 hb1
    have hq0 := hbr3
    have kg0 : w1.cell? ⟨W.heap.size, 0, none⟩ = some (.int .i64 0) := hq0.2.1 0 (by simp)
    have kh0 := hq0.2.2 0; have kl0 := hq0.1
    obtain ⟨X1, hx0⟩ : ∃ X1, w1.setCell ⟨W.heap.size, 0, none⟩ (.int .i64 1) = X1 := ⟨_, rfl⟩
    have hq1 : Bx X1 W.heap.size [(.int .i64 1), (.int .i64 0), (.int .i64 0), (.slice none 0 0)] := (by rw [← hx0]; exact hq0.set 0 (.int .i64 1))
    have kg1 : X1.cell? ⟨W.heap.size, 1, none⟩ = some (.int .i64 0) := hq1.2.1 1 (by simp)
    have kh1 := hq1.2.2 1; have kl1 := hq1.1
    obtain ⟨X2, hx1⟩ : ∃ X2, X1.setCell ⟨W.heap.size, 1, none⟩ (.int .i64 0) = X2 := ⟨_, rfl⟩
    have hq2 : Bx X2 W.heap.size [(.int .i64 1), (.int .i64 0), (.int .i64 0), (.slice none 0 0)] := (by rw [← hx1]; exact hq1.set 1 (.int .i64 0))
    have kg2 : X2.cell? ⟨W.heap.size, 2, none⟩ = some (.int .i64 0) := hq2.2.1 2 (by simp)
    have kh2 := hq2.2.2 2; have kl2 := hq2.1
    obtain ⟨X3, hx2⟩ : ∃ X3, X2.setCell ⟨W.heap.size, 2, none⟩ (.int .i64 (-1)) = X3 := ⟨_, rfl⟩
    have hq3 : Bx X3 W.heap.size [(.int .i64 1), (.int .i64 0), (.int .i64 (-1)), (.slice none 0 0)] := (by rw [← hx2]; exact hq2.set 2 (.int .i64 (-1)))
    have kg3 : X3.cell? ⟨W.heap.size, 3, none⟩ = some (.slice none 0 0) := hq3.2.1 3 (by simp)
    have kh3 := hq3.2.2 3; have kl3 := hq3.1
    obtain ⟨X4, hx3⟩ : ∃ X4, X3.setCell ⟨W.heap.size, 3, none⟩ (.slice none 0 0) = X4 := ⟨_, rfl⟩
    have hq4 : Bx X4 W.heap.size [(.int .i64 1), (.int .i64 0), (.int .i64 (-1)), (.slice none 0 0)] := (by rw [← hx3]; exact hq3.set 3 (.slice none 0 0))
    have ht0 := hk_st
    have ht1 : CkS p [.string ⟨p.name.toArray⟩, .int .i64 p.year, .slice a3 p.opts.length c3, .slice a4 p.tabs.length c4, .slice a5 p.grps.length c5, .slice a6 p.lns.length c6, .slice a7 p.cks.length c7] cb s X1 seen sv ∧ Fr cb W sv X1 sv := (by rw [← hx0]; exact ck_set ht0 hrb1 hrb2 hrb3 0 (.int .i64 1))
    have ht2 : CkS p [.string ⟨p.name.toArray⟩, .int .i64 p.year, .slice a3 p.opts.length c3, .slice a4 p.tabs.length c4, .slice a5 p.grps.length c5, .slice a6 p.lns.length c6, .slice a7 p.cks.length c7] cb s X2 seen sv ∧ Fr cb W sv X2 sv := (by rw [← hx1]; exact ck_set ht1 hrb1 hrb2 hrb3 1 (.int .i64 0))
    have ht3 : CkS p [.string ⟨p.name.toArray⟩, .int .i64 p.year, .slice a3 p.opts.length c3, .slice a4 p.tabs.length c4, .slice a5 p.grps.length c5, .slice a6 p.lns.length c6, .slice a7 p.cks.length c7] cb s X3 seen sv ∧ Fr cb W sv X3 sv := (by rw [← hx2]; exact ck_set ht2 hrb1 hrb2 hrb3 2 (.int .i64 (-1)))
    have ht4 : CkS p [.string ⟨p.name.toArray⟩, .int .i64 p.year, .slice a3 p.opts.length c3, .slice a4 p.tabs.length c4, .slice a5 p.grps.length c5, .slice a6 p.lns.length c6, .slice a7 p.cks.length c7] cb s X4 seen sv ∧ Fr cb W sv X4 sv := (by rw [← hx3]; exact ck_set ht3 hrb1 hrb2 hrb3 3 (.slice none 0 0))
    have hB5 : Below X4.heap.size X4 (X4.alloc (.cells #[.int .i64 1, .int .i64 0, .int .i64 (-1), .slice none 0 0] 41)) := ((Below.refl X4.heap.size X4).alloc (Nat.le_refl _) _)
    have hff : QQ (.returned (.tuple #[.agg #[.int .i64 1, .int .i64 0, .int .i64 (-1), .slice none 0 0], .int .i64 61])) (X4.alloc (.cells #[.int .i64 1, .int .i64 0, .int .i64 (-1), .slice none 0 0] 41)) := by
      rw [← hQH.out, hRH.out]
      exact ⟨rfl, sv, ht4.1.bel hB5, ht4.2.trans (Fr.bel hB5 _)⟩
    have hq5 := hq4.bel hB5 hq4.1
    have f0 := hq5.2.1 0 (by simp)
    have f1 := hq5.2.1 1 (by simp)
    have f2 := hq5.2.1 2 (by simp)
    have f3 := hq5.2.1 3 (by simp)
    have l4 := hq4.1
    clear hq0 hq1 hq2 hq3 hq4 hq5 ht0 ht1 ht2 ht3 ht4 hk_st hbr3
    go_wp2_with (go_at_call 37; refine (itemAt_any _ _ _).mono ?_; rintro e w9 ⟨rfl, rfl⟩)
    exact bodyPost_ret (v := .tuple #[.agg #[.int .i64 1, .int .i64 0, .int .i64 (-1), .slice none 0 0], .int .i64 61]) (by simp [results, Try.results13, go_sem, f0, f1, f2, f3]) rfl hff
  | true =>
    simp only [if_true] at hR
    by_cases hy : p.year < 1900
    · rw [if_pos (.inl hy)] at hR
      have hRH := Hid.mk hR.symm
      clear hR hbz
      go_enter Try.func13, Try.ntmps13
      go_wp2_with fail
      rw [← hW1H.out]
      refine hnm.mono ?_
      clear hnm
      rintro e w1 ⟨rfl, hb1⟩
      have y1 := (hk1.bel hb1).cells.2.1
      obtain ⟨hbr3, hk_st⟩ := hSt.out w1 hb1
      have hq0 := hbr3
      have kg0 : w1.cell? ⟨W.heap.size, 0, none⟩ = some (.int .i64 0) := hq0.2.1 0 (by simp)
      have kh0 := hq0.2.2 0; have kl0 := hq0.1
      obtain ⟨X1, hx0⟩ : ∃ X1, w1.setCell ⟨W.heap.size, 0, none⟩ (.int .i64 1) = X1 := ⟨_, rfl⟩
      have hq1 : Bx X1 W.heap.size [(.int .i64 1), (.int .i64 0), (.int .i64 0), (.slice none 0 0)] := (by rw [← hx0]; exact hq0.set 0 (.int .i64 1))
      have kg1 : X1.cell? ⟨W.heap.size, 1, none⟩ = some (.int .i64 0) := hq1.2.1 1 (by simp)
      have kh1 := hq1.2.2 1; have kl1 := hq1.1
      obtain ⟨X2, hx1⟩ : ∃ X2, X1.setCell ⟨W.heap.size, 1, none⟩ (.int .i64 0) = X2 := ⟨_, rfl⟩
      have hq2 : Bx X2 W.heap.size [(.int .i64 1), (.int .i64 0), (.int .i64 0), (.slice none 0 0)] := (by rw [← hx1]; exact hq1.set 1 (.int .i64 0))
      have kg2 : X2.cell? ⟨W.heap.size, 2, none⟩ = some (.int .i64 0) := hq2.2.1 2 (by simp)
      have kh2 := hq2.2.2 2; have kl2 := hq2.1
      obtain ⟨X3, hx2⟩ : ∃ X3, X2.setCell ⟨W.heap.size, 2, none⟩ (.int .i64 (-1)) = X3 := ⟨_, rfl⟩
      have hq3 : Bx X3 W.heap.size [(.int .i64 1), (.int .i64 0), (.int .i64 (-1)), (.slice none 0 0)] := (by rw [← hx2]; exact hq2.set 2 (.int .i64 (-1)))
      have kg3 : X3.cell? ⟨W.heap.size, 3, none⟩ = some (.slice none 0 0) := hq3.2.1 3 (by simp)
      have kh3 := hq3.2.2 3; have kl3 := hq3.1
      obtain ⟨X4, hx3⟩ : ∃ X4, X3.setCell ⟨W.heap.size, 3, none⟩ (.slice none 0 0) = X4 := ⟨_, rfl⟩
      have hq4 : Bx X4 W.heap.size [(.int .i64 1), (.int .i64 0), (.int .i64 (-1)), (.slice none 0 0)] := (by rw [← hx3]; exact hq3.set 3 (.slice none 0 0))
      have ht0 := hk_st
      have ht1 : CkS p [.string ⟨p.name.toArray⟩, .int .i64 p.year, .slice a3 p.opts.length c3, .slice a4 p.tabs.length c4, .slice a5 p.grps.length c5, .slice a6 p.lns.length c6, .slice a7 p.cks.length c7] cb s X1 seen sv ∧ Fr cb W sv X1 sv := (by rw [← hx0]; exact ck_set ht0 hrb1 hrb2 hrb3 0 (.int .i64 1))
      have ht2 : CkS p [.string ⟨p.name.toArray⟩, .int .i64 p.year, .slice a3 p.opts.length c3, .slice a4 p.tabs.length c4, .slice a5 p.grps.length c5, .slice a6 p.lns.length c6, .slice a7 p.cks.length c7] cb s X2 seen sv ∧ Fr cb W sv X2 sv := (by rw [← hx1]; exact ck_set ht1 hrb1 hrb2 hrb3 1 (.int .i64 0))
      have ht3 : CkS p [.string ⟨p.name.toArray⟩, .int .i64 p.year, .slice a3 p.opts.length c3, .slice a4 p.tabs.length c4, .slice a5 p.grps.length c5, .slice a6 p.lns.length c6, .slice a7 p.cks.length c7] cb s X3 seen sv ∧ Fr cb W sv X3 sv := (by rw [← hx2]; exact ck_set ht2 hrb1 hrb2 hrb3 2 (.int .i64 (-1)))
      have ht4 : CkS p [.string ⟨p.name.toArray⟩, .int .i64 p.year, .slice a3 p.opts.length c3, .slice a4 p.tabs.length c4, .slice a5 p.grps.length c5, .slice a6 p.lns.length c6, .slice a7 p.cks.length c7] cb s X4 seen sv ∧ Fr cb W sv X4 sv := (by rw [← hx3]; exact ck_set ht3 hrb1 hrb2 hrb3 3 (.slice none 0 0))
      have hB5 : Below X4.heap.size X4 (X4.alloc (.cells #[.int .i64 1, .int .i64 0, .int .i64 (-1), .slice none 0 0] 41)) := ((Below.refl X4.heap.size X4).alloc (Nat.le_refl _) _)
      have hff : QQ (.returned (.tuple #[.agg #[.int .i64 1, .int .i64 0, .int .i64 (-1), .slice none 0 0], .int .i64 60])) (X4.alloc (.cells #[.int .i64 1, .int .i64 0, .int .i64 (-1), .slice none 0 0] 41)) := by
        rw [← hQH.out, hRH.out]
        exact ⟨rfl, sv, ht4.1.bel hB5, ht4.2.trans (Fr.bel hB5 _)⟩
      have hq5 := hq4.bel hB5 hq4.1
      have f0 := hq5.2.1 0 (by simp)
      have f1 := hq5.2.1 1 (by simp)
      have f2 := hq5.2.1 2 (by simp)
      have f3 := hq5.2.1 3 (by simp)
      have l4 := hq4.1
      clear hq0 hq1 hq2 hq3 hq4 hq5 ht0 ht1 ht2 ht3 ht4 hk_st hbr3
      go_wp2_with (go_at_call 37; refine (itemAt_any _ _ _).mono ?_; rintro e w9 ⟨rfl, rfl⟩)
      exact bodyPost_ret (v := .tuple #[.agg #[.int .i64 1, .int .i64 0, .int .i64 (-1), .slice none 0 0], .int .i64 60]) (by simp [results, Try.results13, go_sem, f0, f1, f2, f3]) rfl hff
    · by_cases hy2 : 2199 < p.year
      · rw [if_pos (.inr hy2)] at hR
        have hRH := Hid.mk hR.symm
        clear hR hbz
        go_enter Try.func13, Try.ntmps13
        go_wp2_with fail
        rw [← hW1H.out]
        refine hnm.mono ?_
        clear hnm
        rintro e w1 ⟨rfl, hb1⟩
        have y1 := (hk1.bel hb1).cells.2.1
        obtain ⟨hbr3, hk_st⟩ := hSt.out w1 hb1
        have hq0 := hbr3
        have kg0 : w1.cell? ⟨W.heap.size, 0, none⟩ = some (.int .i64 0) := hq0.2.1 0 (by simp)
        have kh0 := hq0.2.2 0; have kl0 := hq0.1
        obtain ⟨X1, hx0⟩ : ∃ X1, w1.setCell ⟨W.heap.size, 0, none⟩ (.int .i64 1) = X1 := ⟨_, rfl⟩
        have hq1 : Bx X1 W.heap.size [(.int .i64 1), (.int .i64 0), (.int .i64 0), (.slice none 0 0)] := (by rw [← hx0]; exact hq0.set 0 (.int .i64 1))
        have kg1 : X1.cell? ⟨W.heap.size, 1, none⟩ = some (.int .i64 0) := hq1.2.1 1 (by simp)
        have kh1 := hq1.2.2 1; have kl1 := hq1.1
        obtain ⟨X2, hx1⟩ : ∃ X2, X1.setCell ⟨W.heap.size, 1, none⟩ (.int .i64 0) = X2 := ⟨_, rfl⟩
        have hq2 : Bx X2 W.heap.size [(.int .i64 1), (.int .i64 0), (.int .i64 0), (.slice none 0 0)] := (by rw [← hx1]; exact hq1.set 1 (.int .i64 0))
        have kg2 : X2.cell? ⟨W.heap.size, 2, none⟩ = some (.int .i64 0) := hq2.2.1 2 (by simp)
        have kh2 := hq2.2.2 2; have kl2 := hq2.1
        obtain ⟨X3, hx2⟩ : ∃ X3, X2.setCell ⟨W.heap.size, 2, none⟩ (.int .i64 (-1)) = X3 := ⟨_, rfl⟩
        have hq3 : Bx X3 W.heap.size [(.int .i64 1), (.int .i64 0), (.int .i64 (-1)), (.slice none 0 0)] := (by rw [← hx2]; exact hq2.set 2 (.int .i64 (-1)))
        have kg3 : X3.cell? ⟨W.heap.size, 3, none⟩ = some (.slice none 0 0) := hq3.2.1 3 (by simp)
        have kh3 := hq3.2.2 3; have kl3 := hq3.1
        obtain ⟨X4, hx3⟩ : ∃ X4, X3.setCell ⟨W.heap.size, 3, none⟩ (.slice none 0 0) = X4 := ⟨_, rfl⟩
        have hq4 : Bx X4 W.heap.size [(.int .i64 1), (.int .i64 0), (.int .i64 (-1)), (.slice none 0 0)] := (by rw [← hx3]; exact hq3.set 3 (.slice none 0 0))
        have ht0 := hk_st
        have ht1 : CkS p [.string ⟨p.name.toArray⟩, .int .i64 p.year, .slice a3 p.opts.length c3, .slice a4 p.tabs.length c4, .slice a5 p.grps.length c5, .slice a6 p.lns.length c6, .slice a7 p.cks.length c7] cb s X1 seen sv ∧ Fr cb W sv X1 sv := (by rw [← hx0]; exact ck_set ht0 hrb1 hrb2 hrb3 0 (.int .i64 1))
        have ht2 : CkS p [.string ⟨p.name.toArray⟩, .int .i64 p.year, .slice a3 p.opts.length c3, .slice a4 p.tabs.length c4, .slice a5 p.grps.length c5, .slice a6 p.lns.length c6, .slice a7 p.cks.length c7] cb s X2 seen sv ∧ Fr cb W sv X2 sv := (by rw [← hx1]; exact ck_set ht1 hrb1 hrb2 hrb3 1 (.int .i64 0))
        have ht3 : CkS p [.string ⟨p.name.toArray⟩, .int .i64 p.year, .slice a3 p.opts.length c3, .slice a4 p.tabs.length c4, .slice a5 p.grps.length c5, .slice a6 p.lns.length c6, .slice a7 p.cks.length c7] cb s X3 seen sv ∧ Fr cb W sv X3 sv := (by rw [← hx2]; exact ck_set ht2 hrb1 hrb2 hrb3 2 (.int .i64 (-1)))
        have ht4 : CkS p [.string ⟨p.name.toArray⟩, .int .i64 p.year, .slice a3 p.opts.length c3, .slice a4 p.tabs.length c4, .slice a5 p.grps.length c5, .slice a6 p.lns.length c6, .slice a7 p.cks.length c7] cb s X4 seen sv ∧ Fr cb W sv X4 sv := (by rw [← hx3]; exact ck_set ht3 hrb1 hrb2 hrb3 3 (.slice none 0 0))
        have hB5 : Below X4.heap.size X4 (X4.alloc (.cells #[.int .i64 1, .int .i64 0, .int .i64 (-1), .slice none 0 0] 41)) := ((Below.refl X4.heap.size X4).alloc (Nat.le_refl _) _)
        have hff : QQ (.returned (.tuple #[.agg #[.int .i64 1, .int .i64 0, .int .i64 (-1), .slice none 0 0], .int .i64 60])) (X4.alloc (.cells #[.int .i64 1, .int .i64 0, .int .i64 (-1), .slice none 0 0] 41)) := by
          rw [← hQH.out, hRH.out]
          exact ⟨rfl, sv, ht4.1.bel hB5, ht4.2.trans (Fr.bel hB5 _)⟩
        have hq5 := hq4.bel hB5 hq4.1
        have f0 := hq5.2.1 0 (by simp)
        have f1 := hq5.2.1 1 (by simp)
        have f2 := hq5.2.1 2 (by simp)
        have f3 := hq5.2.1 3 (by simp)
        have l4 := hq4.1
        clear hq0 hq1 hq2 hq3 hq4 hq5 ht0 ht1 ht2 ht3 ht4 hk_st hbr3
        go_wp2_with (go_at_call 37; refine (itemAt_any _ _ _).mono ?_; rintro e w9 ⟨rfl, rfl⟩)
        exact bodyPost_ret (v := .tuple #[.agg #[.int .i64 1, .int .i64 0, .int .i64 (-1), .slice none 0 0], .int .i64 60]) (by simp [results, Try.results13, go_sem, f0, f1, f2, f3]) rfl hff
      · rw [if_neg (by omega)] at hR
        have hRH := Hid.mk hR.symm
        clear hR hbz
        go_enter Try.func13, Try.ntmps13
        go_wp2_with fail
        rw [← hW1H.out]
        refine hnm.mono ?_
        clear hnm
        rintro e w1 ⟨rfl, hb1⟩
        have y1 := (hk1.bel hb1).cells.2.1
        obtain ⟨hbr3, hk_st⟩ := hSt.out w1 hb1
        have hff : QQ (.returned (.tuple #[.agg #[.int .i64 0, .int .i64 0, .int .i64 0, .slice none 0 0], .int .i64 0])) w1 := by
          rw [← hQH.out, hRH.out]
          exact ⟨rfl, sv, hk_st.1, hk_st.2⟩
        have f0 := hbr3.2.1 0 (by simp)
        have z0 := hbr3.2.2 0
        have f1 := hbr3.2.1 1 (by simp)
        have z1 := hbr3.2.2 1
        have f2 := hbr3.2.1 2 (by simp)
        have z2 := hbr3.2.2 2
        have f3 := hbr3.2.1 3 (by simp)
        have z3 := hbr3.2.2 3
        have j0 := set_id f0
        have j1 := set_id f1
        have j2 := set_id f2
        have j3 := set_id f3
        clear hbr3 hk_st
        go_wp2
        exact bodyPost_ret (v := .tuple #[.agg #[.int .i64 0, .int .i64 0, .int .i64 0, .slice none 0 0], .int .i64 0]) (by simp at f0 f1 f2 f3; simp [results, Try.results13, go_sem, f0, f1, f2, f3]) rfl hff
end Go.Proofs.Yteiplejamciddaa
