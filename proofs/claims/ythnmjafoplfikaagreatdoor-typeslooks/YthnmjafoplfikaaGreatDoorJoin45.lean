import Derived.Test.YthnmjafoplfikaaGreatDoorJoin44
import Derived.Test.YthnmjafoplfikaaGreatDoorTurnYN2
import Derived.Test.YthnmjafoplfikaaGreatDoorJoin41
import Derived.Test.YthnmjafoplfikaaGreatDoorTurnYNf
import Derived.Test.YthnmjafoplfikaaGreatDoorTurnYNn
import Derived.Deep.MidRow
namespace Go.Proofs.YthnmjafoplfikaaGreatDoor
open Go.RowKit

set_option maxRecDepth 20000 in
set_option maxHeartbeats 2000000 in
theorem headP_any (p : Pk) (a3 a4 a5 a6 a7 : Option Addr) (c3 c4 c5 c6 c7 : Nat) (cb s : Nat) (W : World) (seen : Sn) (sv : Value) (h : CkS p (scP p a3 a4 a5 a6 a7 c3 c4 c5 c6 c7) cb s W seen sv) : Calls Tryz.prog 74 #[.pointer (some ⟨cb, 0, none⟩)] W (PtP p (scP p a3 a4 a5 a6 a7 c3 c4 c5 c6 c7) cb s sv (seen, hdF p) W) := by
  have hcb := h.lt
  obtain ⟨W1, hW1⟩ : ∃ W1, W1 = W.alloc (.cells #[.int .i64 0, .int .i64 0, .int .i64 0, .slice none 0 0] 105) := ⟨_, rfl⟩
  have hB1 : Below W.heap.size W W1 := by rw [hW1]; exact (Below.refl _ _).alloc (Nat.le_refl _) _
  have hbz : Bx W1 W.heap.size [.int .i64 0, .int .i64 0, .int .i64 0, .slice none 0 0] := by rw [hW1]; exact bx_new _ _ _
  have hk1 := h.bel hB1
  have hrb3 : some W.heap.size ≠ sv.ownBlock := fun e => by
    have := (h.pg _ e.symm).2
    omega
  have hrb1 : cb + 1 ≤ W.heap.size := hcb
  have hrb2 : W.heap.size ≤ W.heap.size := Nat.le_refl _
  obtain ⟨R, hR⟩ : ∃ R, hdF p = R := ⟨_, rfl⟩
  rw [hR]
  obtain ⟨QQ, hQQ⟩ : ∃ QQ, PtP p (scP p a3 a4 a5 a6 a7 c3 c4 c5 c6 c7) cb s sv (seen, R) W = QQ := ⟨_, rfl⟩
  rw [hQQ]
  have hQH := Hid.mk hQQ
  have hW1H := Hid.mk hW1
  obtain ⟨q0, q1, q2, q3, q4, q5, q6⟩ := h.cells
  have hSt : Hid (∀ w, Below W1.heap.size W1 w → Bx w W.heap.size [.int .i64 0, .int .i64 0, .int .i64 0, .slice none 0 0] ∧ (CkS p (scP p a3 a4 a5 a6 a7 c3 c4 c5 c6 c7) cb s w seen sv ∧ Fr cb W sv w sv)) := ⟨fun w hw => ⟨hbz.bel hw hbz.1, hk1.bel hw, (Fr.bel hB1 _).trans (Fr.bel hw _)⟩⟩
  clear hQQ hW1
  have hnm := isName_any p.name W1
  unfold hdF at hR
  obtain ⟨nb, hnb⟩ : ∃ nb, nmB p.name = nb := ⟨_, rfl⟩
  rw [hnb] at hnm hR
  clear hnb
  cases nb with
  | false =>
    simp only [Bool.false_eq_true, if_false] at hR
    have hRH := Hid.mk hR.symm
    clear hR hk1 hbz
    go_enter Tryz.func74, Tryz.ntmps74
    go_wp2_with fail
    rw [← hW1H.out]
    refine hnm.mono ?_
    clear hnm
    rintro e w1 ⟨rfl, hb1⟩
    obtain ⟨hbr3, hk_st⟩ := hSt.out w1 hb1
    have hq0 := hbr3
    have kg0 : w1.cell? ⟨W.heap.size, 0, none⟩ = some (.int .i64 0) := hq0.2.1 0 (by simp)
    have kh0 := hq0.2.2 0; have kl0 := hq0.1
    obtain ⟨X1, hx0⟩ : ∃ X1, w1.setCell ⟨W.heap.size, 0, none⟩ (.int .i64 1) = X1 := ⟨_, rfl⟩
    have hq1 : Bx X1 W.heap.size [(.int .i64 1), (.int .i64 0), (.int .i64 0), (.slice none 0 0)] := (by rw [← hx0]; exact hq0.set 0 (.int .i64 1))
    have kg1 : X1.cell? ⟨W.heap.size, 1, none⟩ = some (.int .i64 0) := hq1.2.1 1 (by simp)
    have kh1 := hq1.2.2 1; have kl1 := hq1.1
    obtain ⟨X2, hx1⟩ : ∃ X2, X1.setCell ⟨W.heap.size, 1, none⟩ (.int .i64 0) = X2 := ⟨_, rfl⟩
    have hq2 : Bx X2 W.heap.size [(.int .i64 1), (.int .i64 0), (.int .i64 0), (.slice none 0 0)] := (by rw [← hx1]; exact hq1.set 1 (.int .i64 0))
    have kg2 : X2.cell? ⟨W.heap.size, 2, none⟩ = some (.int .i64 0) := hq2.2.1 2 (by simp)
    have kh2 := hq2.2.2 2; have kl2 := hq2.1
    obtain ⟨X3, hx2⟩ : ∃ X3, X2.setCell ⟨W.heap.size, 2, none⟩ (.int .i64 (-1)) = X3 := ⟨_, rfl⟩
    have hq3 : Bx X3 W.heap.size [(.int .i64 1), (.int .i64 0), (.int .i64 (-1)), (.slice none 0 0)] := (by rw [← hx2]; exact hq2.set 2 (.int .i64 (-1)))
    have kg3 : X3.cell? ⟨W.heap.size, 3, none⟩ = some (.slice none 0 0) := hq3.2.1 3 (by simp)
    have kh3 := hq3.2.2 3; have kl3 := hq3.1
    obtain ⟨X4, hx3⟩ : ∃ X4, X3.setCell ⟨W.heap.size, 3, none⟩ (.slice none 0 0) = X4 := ⟨_, rfl⟩
    have hq4 : Bx X4 W.heap.size [(.int .i64 1), (.int .i64 0), (.int .i64 (-1)), (.slice none 0 0)] := (by rw [← hx3]; exact hq3.set 3 (.slice none 0 0))
    have ht0 := hk_st
    have ht1 : CkS p (scP p a3 a4 a5 a6 a7 c3 c4 c5 c6 c7) cb s X1 seen sv ∧ Fr cb W sv X1 sv := (by rw [← hx0]; exact ck_set ht0 hrb1 hrb2 hrb3 0 (.int .i64 1))
    have ht2 : CkS p (scP p a3 a4 a5 a6 a7 c3 c4 c5 c6 c7) cb s X2 seen sv ∧ Fr cb W sv X2 sv := (by rw [← hx1]; exact ck_set ht1 hrb1 hrb2 hrb3 1 (.int .i64 0))
    have ht3 : CkS p (scP p a3 a4 a5 a6 a7 c3 c4 c5 c6 c7) cb s X3 seen sv ∧ Fr cb W sv X3 sv := (by rw [← hx2]; exact ck_set ht2 hrb1 hrb2 hrb3 2 (.int .i64 (-1)))
    have ht4 : CkS p (scP p a3 a4 a5 a6 a7 c3 c4 c5 c6 c7) cb s X4 seen sv ∧ Fr cb W sv X4 sv := (by rw [← hx3]; exact ck_set ht3 hrb1 hrb2 hrb3 3 (.slice none 0 0))
    have hB5 : Below X4.heap.size X4 (X4.alloc (.cells #[.int .i64 1, .int .i64 0, .int .i64 (-1), .slice none 0 0] 105)) := ((Below.refl X4.heap.size X4).alloc (Nat.le_refl _) _)
    have hff : QQ (.returned (.tuple #[.agg #[.int .i64 1, .int .i64 0, .int .i64 (-1), .slice none 0 0], .int .i64 61])) (X4.alloc (.cells #[.int .i64 1, .int .i64 0, .int .i64 (-1), .slice none 0 0] 105)) := by
      rw [← hQH.out, hRH.out]
      exact ⟨rfl, sv, ht4.1.bel hB5, ht4.2.trans (Fr.bel hB5 _)⟩
    have hq5 := hq4.bel hB5 hq4.1
    have f0 := hq5.2.1 0 (by simp)
    have f1 := hq5.2.1 1 (by simp)
    have f2 := hq5.2.1 2 (by simp)
    have f3 := hq5.2.1 3 (by simp)
    have l4 := hq4.1
    clear hq0 hq1 hq2 hq3 hq4 hq5 ht0 ht1 ht2 ht3 ht4 hk_st hbr3
    go_wp2_with (go_at_call 96; refine (itemAt_any _ _ _).mono ?_; rintro e w9 ⟨rfl, rfl⟩)
    exact bodyPost_ret (v := .tuple #[.agg #[.int .i64 1, .int .i64 0, .int .i64 (-1), .slice none 0 0], .int .i64 61]) (by simp [results, Tryz.results74, go_sem, f0, f1, f2, f3]) rfl hff
  | true =>
    simp only [if_true] at hR
    by_cases hy : p.year < 1900
    · rw [if_pos (.inl hy)] at hR
      have hRH := Hid.mk hR.symm
      clear hR hbz
      go_enter Tryz.func74, Tryz.ntmps74
      go_wp2_with fail
      rw [← hW1H.out]
      refine hnm.mono ?_
      clear hnm
      rintro e w1 ⟨rfl, hb1⟩
      have y1 := (hk1.bel hb1).cells.2.1
      obtain ⟨hbr3, hk_st⟩ := hSt.out w1 hb1
      have hq0 := hbr3
      have kg0 : w1.cell? ⟨W.heap.size, 0, none⟩ = some (.int .i64 0) := hq0.2.1 0 (by simp)
      have kh0 := hq0.2.2 0; have kl0 := hq0.1
      obtain ⟨X1, hx0⟩ : ∃ X1, w1.setCell ⟨W.heap.size, 0, none⟩ (.int .i64 1) = X1 := ⟨_, rfl⟩
      have hq1 : Bx X1 W.heap.size [(.int .i64 1), (.int .i64 0), (.int .i64 0), (.slice none 0 0)] := (by rw [← hx0]; exact hq0.set 0 (.int .i64 1))
      have kg1 : X1.cell? ⟨W.heap.size, 1, none⟩ = some (.int .i64 0) := hq1.2.1 1 (by simp)
      have kh1 := hq1.2.2 1; have kl1 := hq1.1
      obtain ⟨X2, hx1⟩ : ∃ X2, X1.setCell ⟨W.heap.size, 1, none⟩ (.int .i64 0) = X2 := ⟨_, rfl⟩
      have hq2 : Bx X2 W.heap.size [(.int .i64 1), (.int .i64 0), (.int .i64 0), (.slice none 0 0)] := (by rw [← hx1]; exact hq1.set 1 (.int .i64 0))
      have kg2 : X2.cell? ⟨W.heap.size, 2, none⟩ = some (.int .i64 0) := hq2.2.1 2 (by simp)
      have kh2 := hq2.2.2 2; have kl2 := hq2.1
      obtain ⟨X3, hx2⟩ : ∃ X3, X2.setCell ⟨W.heap.size, 2, none⟩ (.int .i64 (-1)) = X3 := ⟨_, rfl⟩
      have hq3 : Bx X3 W.heap.size [(.int .i64 1), (.int .i64 0), (.int .i64 (-1)), (.slice none 0 0)] := (by rw [← hx2]; exact hq2.set 2 (.int .i64 (-1)))
      have kg3 : X3.cell? ⟨W.heap.size, 3, none⟩ = some (.slice none 0 0) := hq3.2.1 3 (by simp)
      have kh3 := hq3.2.2 3; have kl3 := hq3.1
      obtain ⟨X4, hx3⟩ : ∃ X4, X3.setCell ⟨W.heap.size, 3, none⟩ (.slice none 0 0) = X4 := ⟨_, rfl⟩
      have hq4 : Bx X4 W.heap.size [(.int .i64 1), (.int .i64 0), (.int .i64 (-1)), (.slice none 0 0)] := (by rw [← hx3]; exact hq3.set 3 (.slice none 0 0))
      have ht0 := hk_st
      have ht1 : CkS p (scP p a3 a4 a5 a6 a7 c3 c4 c5 c6 c7) cb s X1 seen sv ∧ Fr cb W sv X1 sv := (by rw [← hx0]; exact ck_set ht0 hrb1 hrb2 hrb3 0 (.int .i64 1))
      have ht2 : CkS p (scP p a3 a4 a5 a6 a7 c3 c4 c5 c6 c7) cb s X2 seen sv ∧ Fr cb W sv X2 sv := (by rw [← hx1]; exact ck_set ht1 hrb1 hrb2 hrb3 1 (.int .i64 0))
      have ht3 : CkS p (scP p a3 a4 a5 a6 a7 c3 c4 c5 c6 c7) cb s X3 seen sv ∧ Fr cb W sv X3 sv := (by rw [← hx2]; exact ck_set ht2 hrb1 hrb2 hrb3 2 (.int .i64 (-1)))
      have ht4 : CkS p (scP p a3 a4 a5 a6 a7 c3 c4 c5 c6 c7) cb s X4 seen sv ∧ Fr cb W sv X4 sv := (by rw [← hx3]; exact ck_set ht3 hrb1 hrb2 hrb3 3 (.slice none 0 0))
      have hB5 : Below X4.heap.size X4 (X4.alloc (.cells #[.int .i64 1, .int .i64 0, .int .i64 (-1), .slice none 0 0] 105)) := ((Below.refl X4.heap.size X4).alloc (Nat.le_refl _) _)
      have hff : QQ (.returned (.tuple #[.agg #[.int .i64 1, .int .i64 0, .int .i64 (-1), .slice none 0 0], .int .i64 60])) (X4.alloc (.cells #[.int .i64 1, .int .i64 0, .int .i64 (-1), .slice none 0 0] 105)) := by
        rw [← hQH.out, hRH.out]
        exact ⟨rfl, sv, ht4.1.bel hB5, ht4.2.trans (Fr.bel hB5 _)⟩
      have hq5 := hq4.bel hB5 hq4.1
      have f0 := hq5.2.1 0 (by simp)
      have f1 := hq5.2.1 1 (by simp)
      have f2 := hq5.2.1 2 (by simp)
      have f3 := hq5.2.1 3 (by simp)
      have l4 := hq4.1
      clear hq0 hq1 hq2 hq3 hq4 hq5 ht0 ht1 ht2 ht3 ht4 hk_st hbr3
      go_wp2_with (go_at_call 96; refine (itemAt_any _ _ _).mono ?_; rintro e w9 ⟨rfl, rfl⟩)
      exact bodyPost_ret (v := .tuple #[.agg #[.int .i64 1, .int .i64 0, .int .i64 (-1), .slice none 0 0], .int .i64 60]) (by simp [results, Tryz.results74, go_sem, f0, f1, f2, f3]) rfl hff
    · by_cases hy2 : 2199 < p.year
      · rw [if_pos (.inr hy2)] at hR
        have hRH := Hid.mk hR.symm
        clear hR hbz
        go_enter Tryz.func74, Tryz.ntmps74
        go_wp2_with fail
        rw [← hW1H.out]
        refine hnm.mono ?_
        clear hnm
        rintro e w1 ⟨rfl, hb1⟩
        have y1 := (hk1.bel hb1).cells.2.1
        obtain ⟨hbr3, hk_st⟩ := hSt.out w1 hb1
        have hq0 := hbr3
        have kg0 : w1.cell? ⟨W.heap.size, 0, none⟩ = some (.int .i64 0) := hq0.2.1 0 (by simp)
        have kh0 := hq0.2.2 0; have kl0 := hq0.1
        obtain ⟨X1, hx0⟩ : ∃ X1, w1.setCell ⟨W.heap.size, 0, none⟩ (.int .i64 1) = X1 := ⟨_, rfl⟩
        have hq1 : Bx X1 W.heap.size [(.int .i64 1), (.int .i64 0), (.int .i64 0), (.slice none 0 0)] := (by rw [← hx0]; exact hq0.set 0 (.int .i64 1))
        have kg1 : X1.cell? ⟨W.heap.size, 1, none⟩ = some (.int .i64 0) := hq1.2.1 1 (by simp)
        have kh1 := hq1.2.2 1; have kl1 := hq1.1
        obtain ⟨X2, hx1⟩ : ∃ X2, X1.setCell ⟨W.heap.size, 1, none⟩ (.int .i64 0) = X2 := ⟨_, rfl⟩
        have hq2 : Bx X2 W.heap.size [(.int .i64 1), (.int .i64 0), (.int .i64 0), (.slice none 0 0)] := (by rw [← hx1]; exact hq1.set 1 (.int .i64 0))
        have kg2 : X2.cell? ⟨W.heap.size, 2, none⟩ = some (.int .i64 0) := hq2.2.1 2 (by simp)
        have kh2 := hq2.2.2 2; have kl2 := hq2.1
        obtain ⟨X3, hx2⟩ : ∃ X3, X2.setCell ⟨W.heap.size, 2, none⟩ (.int .i64 (-1)) = X3 := ⟨_, rfl⟩
        have hq3 : Bx X3 W.heap.size [(.int .i64 1), (.int .i64 0), (.int .i64 (-1)), (.slice none 0 0)] := (by rw [← hx2]; exact hq2.set 2 (.int .i64 (-1)))
        have kg3 : X3.cell? ⟨W.heap.size, 3, none⟩ = some (.slice none 0 0) := hq3.2.1 3 (by simp)
        have kh3 := hq3.2.2 3; have kl3 := hq3.1
        obtain ⟨X4, hx3⟩ : ∃ X4, X3.setCell ⟨W.heap.size, 3, none⟩ (.slice none 0 0) = X4 := ⟨_, rfl⟩
        have hq4 : Bx X4 W.heap.size [(.int .i64 1), (.int .i64 0), (.int .i64 (-1)), (.slice none 0 0)] := (by rw [← hx3]; exact hq3.set 3 (.slice none 0 0))
        have ht0 := hk_st
        have ht1 : CkS p (scP p a3 a4 a5 a6 a7 c3 c4 c5 c6 c7) cb s X1 seen sv ∧ Fr cb W sv X1 sv := (by rw [← hx0]; exact ck_set ht0 hrb1 hrb2 hrb3 0 (.int .i64 1))
        have ht2 : CkS p (scP p a3 a4 a5 a6 a7 c3 c4 c5 c6 c7) cb s X2 seen sv ∧ Fr cb W sv X2 sv := (by rw [← hx1]; exact ck_set ht1 hrb1 hrb2 hrb3 1 (.int .i64 0))
        have ht3 : CkS p (scP p a3 a4 a5 a6 a7 c3 c4 c5 c6 c7) cb s X3 seen sv ∧ Fr cb W sv X3 sv := (by rw [← hx2]; exact ck_set ht2 hrb1 hrb2 hrb3 2 (.int .i64 (-1)))
        have ht4 : CkS p (scP p a3 a4 a5 a6 a7 c3 c4 c5 c6 c7) cb s X4 seen sv ∧ Fr cb W sv X4 sv := (by rw [← hx3]; exact ck_set ht3 hrb1 hrb2 hrb3 3 (.slice none 0 0))
        have hB5 : Below X4.heap.size X4 (X4.alloc (.cells #[.int .i64 1, .int .i64 0, .int .i64 (-1), .slice none 0 0] 105)) := ((Below.refl X4.heap.size X4).alloc (Nat.le_refl _) _)
        have hff : QQ (.returned (.tuple #[.agg #[.int .i64 1, .int .i64 0, .int .i64 (-1), .slice none 0 0], .int .i64 60])) (X4.alloc (.cells #[.int .i64 1, .int .i64 0, .int .i64 (-1), .slice none 0 0] 105)) := by
          rw [← hQH.out, hRH.out]
          exact ⟨rfl, sv, ht4.1.bel hB5, ht4.2.trans (Fr.bel hB5 _)⟩
        have hq5 := hq4.bel hB5 hq4.1
        have f0 := hq5.2.1 0 (by simp)
        have f1 := hq5.2.1 1 (by simp)
        have f2 := hq5.2.1 2 (by simp)
        have f3 := hq5.2.1 3 (by simp)
        have l4 := hq4.1
        clear hq0 hq1 hq2 hq3 hq4 hq5 ht0 ht1 ht2 ht3 ht4 hk_st hbr3
        go_wp2_with (go_at_call 96; refine (itemAt_any _ _ _).mono ?_; rintro e w9 ⟨rfl, rfl⟩)
        exact bodyPost_ret (v := .tuple #[.agg #[.int .i64 1, .int .i64 0, .int .i64 (-1), .slice none 0 0], .int .i64 60]) (by simp [results, Tryz.results74, go_sem, f0, f1, f2, f3]) rfl hff
      · rw [if_neg (by omega)] at hR
        have hRH := Hid.mk hR.symm
        clear hR hbz
        go_enter Tryz.func74, Tryz.ntmps74
        go_wp2_with fail
        rw [← hW1H.out]
        refine hnm.mono ?_
        clear hnm
        rintro e w1 ⟨rfl, hb1⟩
        have y1 := (hk1.bel hb1).cells.2.1
        obtain ⟨hbr3, hk_st⟩ := hSt.out w1 hb1
        have hff : QQ (.returned (.tuple #[.agg #[.int .i64 0, .int .i64 0, .int .i64 0, .slice none 0 0], .int .i64 0])) w1 := by
          rw [← hQH.out, hRH.out]
          exact ⟨rfl, sv, hk_st.1, hk_st.2⟩
        have f0 := hbr3.2.1 0 (by simp)
        have z0 := hbr3.2.2 0
        have f1 := hbr3.2.1 1 (by simp)
        have z1 := hbr3.2.2 1
        have f2 := hbr3.2.1 2 (by simp)
        have z2 := hbr3.2.2 2
        have f3 := hbr3.2.1 3 (by simp)
        have z3 := hbr3.2.2 3
        have j0 := set_id f0
        have j1 := set_id f1
        have j2 := set_id f2
        have j3 := set_id f3
        clear hbr3 hk_st
        go_wp2
        exact bodyPost_ret (v := .tuple #[.agg #[.int .i64 0, .int .i64 0, .int .i64 0, .slice none 0 0], .int .i64 0]) (by simp at f0 f1 f2 f3; simp [results, Tryz.results74, go_sem, f0, f1, f2, f3]) rfl hff
end Go.Proofs.YthnmjafoplfikaaGreatDoor


namespace Go.Proofs.YthnmjafoplfikaaGreatDoor
open Go.RowKit

set_option maxRecDepth 20000 in
set_option maxHeartbeats 2000000 in
theorem node_deep (p : Pk) (g : Int) (a3 a4 a5 a6 a7 : Option Addr) (c3 c4 c5 c6 c7 : Nat) (x : Ex) (ax : Option Addr) (cx : Nat) (lb s : Nat) (W : World) (n : Nat) (path : List Nat) (pv : Value) (h : LkS p (scG p a3 a4 a5 a6 a7 c3 c4 c5 c6 c7 g) lb s W n path pv) (hn : n ≤ 60) (hd : path.length = 8) : Calls Tryz.prog 83 #[.pointer (some ⟨lb, 0, none⟩), .agg #[.int .i64 x.op, .int .i64 x.num, .int .i64 x.den, .int .i64 x.mode, .slice ax x.args.len cx]] W (NdP p (scG p a3 a4 a5 a6 a7 c3 c4 c5 c6 c7 g) lb s path pv (n + 1) (.error ([], 60)) W) := by
  obtain ⟨pa, pcap, rfl, hpa, hpc⟩ := own_int h.own
  have hlb := h.lt
  have c9 := h.c9
  have qz := h.fz 9
  have c8 := h.c8
  have c10 := h.c10
  obtain ⟨Wn, hWn⟩ : ∃ Wn, Wn = W.setCell ⟨lb, 9, none⟩ (.int .i64 ((n : Int) + 1)) := ⟨_, rfl⟩
  have hLn : LkS p (scG p a3 a4 a5 a6 a7 c3 c4 c5 c6 c7 g) lb s Wn (n + 1) path (.slice pa path.length pcap) := by rw [hWn]; exact h.set9 (n + 1)
  have hFn : Fr lb W (.slice pa path.length pcap) Wn (.slice pa path.length pcap) := by rw [hWn]; exact Fr.set W _ _ 9 _ rfl
  have hsn : Wn.heap.size = W.heap.size := by rw [hWn]; simp [World.setCell]
  obtain ⟨W3, hW3⟩ : ∃ W3, W3 = ((Wn.alloc (.cells #[.int .i64 x.op, .int .i64 x.num, .int .i64 x.den, .int .i64 x.mode, .slice ax x.args.len cx] 73)).alloc (.cells #[.int .i64 0, .int .i64 0] 163)) := ⟨_, rfl⟩
  have hB0 : Below Wn.heap.size Wn W3 := by rw [hW3]; exact ((Below.refl _ _).alloc (Nat.le_refl _) _).alloc (by simp) _
  have hs3 : W3.heap.size = W.heap.size + 1 + 1 := by rw [hW3]; simp [hsn]
  have hbx := (bx_new Wn #[.int .i64 x.op, .int .i64 x.num, .int .i64 x.den, .int .i64 x.mode, .slice ax x.args.len cx] 73).kept (World.grownBy_alloc _ (.cells #[.int .i64 0, .int .i64 0] 163) none) (by simp)
  have hbk := bx_new (Wn.alloc (.cells #[.int .i64 x.op, .int .i64 x.num, .int .i64 x.den, .int .i64 x.mode, .slice ax x.args.len cx] 73)) #[.int .i64 0, .int .i64 0] 163
  rw [show (Wn.alloc (.cells #[.int .i64 x.op, .int .i64 x.num, .int .i64 x.den, .int .i64 x.mode, .slice ax x.args.len cx] 73)).heap.size = W.heap.size + 1 by simp [hsn]] at hbk
  rw [hsn] at hbx
  rw [← hW3] at hbx hbk
  have hL3 := hLn.bel hB0
  have hF3 : Fr lb W (.slice pa path.length pcap) W3 (.slice pa path.length pcap) := hFn.trans (Fr.bel hB0 _)
  have k0 := hbk.2.1 0 (by simp)
  have k1 := hbk.2.1 1 (by simp)
  have z0 := hbk.2.2 0
  have z1 := hbk.2.2 1
  have j0 := set_id k0
  have j1 := set_id k1
  have hfin : NdP p (scG p a3 a4 a5 a6 a7 c3 c4 c5 c6 c7 g) lb s path (.slice pa path.length pcap) (n + 1) (.error ([], 60)) W (.returned (resV (.error ([], 60)))) W3 := ⟨rfl, _, by simpa [pathAf] using hL3, hF3⟩
  clear hL3 hF3 hbx hbk hB0 hs3 h hLn hFn hsn
  subst hW3
  subst hWn
  have hd' : ¬ (path.length : Int) < 8 := by omega
  have hd2 : (8 : Int) ≤ (path.length : Int) := by omega
  clear hd
  go_enter Tryz.func83, Tryz.ntmps83
  go_wp2
  exact bodyPost_ret (v := .tuple #[.agg #[.int .i64 0, .int .i64 0], .int .i64 60]) (by simp at k0 k1; simp [results, Tryz.results83, go_sem, k0, k1]) rfl hfin
set_option maxRecDepth 20000 in
set_option maxHeartbeats 2000000 in
theorem node_many (p : Pk) (g : Int) (a3 a4 a5 a6 a7 : Option Addr) (c3 c4 c5 c6 c7 : Nat) (x : Ex) (ax : Option Addr) (cx : Nat) (lb s : Nat) (W : World) (n : Nat) (path : List Nat) (pv : Value) (h : LkS p (scG p a3 a4 a5 a6 a7 c3 c4 c5 c6 c7 g) lb s W n path pv) (hn : n ≤ 60) (hd : path.length < 8) (hm : 60 < n + 1) : Calls Tryz.prog 83 #[.pointer (some ⟨lb, 0, none⟩), .agg #[.int .i64 x.op, .int .i64 x.num, .int .i64 x.den, .int .i64 x.mode, .slice ax x.args.len cx]] W (NdP p (scG p a3 a4 a5 a6 a7 c3 c4 c5 c6 c7 g) lb s path pv (n + 1) (.error ([], 60)) W) := by
  obtain ⟨pa, pcap, rfl, hpa, hpc⟩ := own_int h.own
  have hlb := h.lt
  have c9 := h.c9
  have qz := h.fz 9
  have c8 := h.c8
  have c10 := h.c10
  obtain ⟨Wn, hWn⟩ : ∃ Wn, Wn = W.setCell ⟨lb, 9, none⟩ (.int .i64 ((n : Int) + 1)) := ⟨_, rfl⟩
  have hLn : LkS p (scG p a3 a4 a5 a6 a7 c3 c4 c5 c6 c7 g) lb s Wn (n + 1) path (.slice pa path.length pcap) := by rw [hWn]; exact h.set9 (n + 1)
  have hFn : Fr lb W (.slice pa path.length pcap) Wn (.slice pa path.length pcap) := by rw [hWn]; exact Fr.set W _ _ 9 _ rfl
  have hsn : Wn.heap.size = W.heap.size := by rw [hWn]; simp [World.setCell]
  obtain ⟨W3, hW3⟩ : ∃ W3, W3 = ((Wn.alloc (.cells #[.int .i64 x.op, .int .i64 x.num, .int .i64 x.den, .int .i64 x.mode, .slice ax x.args.len cx] 73)).alloc (.cells #[.int .i64 0, .int .i64 0] 163)) := ⟨_, rfl⟩
  have hB0 : Below Wn.heap.size Wn W3 := by rw [hW3]; exact ((Below.refl _ _).alloc (Nat.le_refl _) _).alloc (by simp) _
  have hs3 : W3.heap.size = W.heap.size + 1 + 1 := by rw [hW3]; simp [hsn]
  have hbx := (bx_new Wn #[.int .i64 x.op, .int .i64 x.num, .int .i64 x.den, .int .i64 x.mode, .slice ax x.args.len cx] 73).kept (World.grownBy_alloc _ (.cells #[.int .i64 0, .int .i64 0] 163) none) (by simp)
  have hbk := bx_new (Wn.alloc (.cells #[.int .i64 x.op, .int .i64 x.num, .int .i64 x.den, .int .i64 x.mode, .slice ax x.args.len cx] 73)) #[.int .i64 0, .int .i64 0] 163
  rw [show (Wn.alloc (.cells #[.int .i64 x.op, .int .i64 x.num, .int .i64 x.den, .int .i64 x.mode, .slice ax x.args.len cx] 73)).heap.size = W.heap.size + 1 by simp [hsn]] at hbk
  rw [hsn] at hbx
  rw [← hW3] at hbx hbk
  have hL3 := hLn.bel hB0
  have hF3 : Fr lb W (.slice pa path.length pcap) W3 (.slice pa path.length pcap) := hFn.trans (Fr.bel hB0 _)
  have k0 := hbk.2.1 0 (by simp)
  have k1 := hbk.2.1 1 (by simp)
  have z0 := hbk.2.2 0
  have z1 := hbk.2.2 1
  have j0 := set_id k0
  have j1 := set_id k1
  have hfin : NdP p (scG p a3 a4 a5 a6 a7 c3 c4 c5 c6 c7 g) lb s path (.slice pa path.length pcap) (n + 1) (.error ([], 60)) W (.returned (resV (.error ([], 60)))) W3 := ⟨rfl, _, by simpa [pathAf] using hL3, hF3⟩
  clear hL3 hF3 hbx hbk hB0 hs3 h hLn hFn hsn
  subst hW3
  subst hWn
  have hd' : (path.length : Int) < 8 := by omega
  have hm' : (60 : Int) < (n : Int) + 1 := by omega
  clear hd hm
  go_enter Tryz.func83, Tryz.ntmps83
  go_wp2
  exact bodyPost_ret (v := .tuple #[.agg #[.int .i64 0, .int .i64 0], .int .i64 60]) (by simp at k0 k1; simp [results, Tryz.results83, go_sem, k0, k1]) rfl hfin
set_option maxRecDepth 20000 in
set_option maxHeartbeats 2000000 in
theorem node_low (p : Pk) (g : Int) (a3 a4 a5 a6 a7 : Option Addr) (c3 c4 c5 c6 c7 : Nat) (x : Ex) (ax : Option Addr) (cx : Nat) (lb s : Nat) (W : World) (n : Nat) (path : List Nat) (pv : Value) (h : LkS p (scG p a3 a4 a5 a6 a7 c3 c4 c5 c6 c7 g) lb s W n path pv) (hn : n ≤ 60) (hd : path.length < 8) (hm : n + 1 ≤ 60) (ho : x.op < 1) : Calls Tryz.prog 83 #[.pointer (some ⟨lb, 0, none⟩), .agg #[.int .i64 x.op, .int .i64 x.num, .int .i64 x.den, .int .i64 x.mode, .slice ax x.args.len cx]] W (NdP p (scG p a3 a4 a5 a6 a7 c3 c4 c5 c6 c7 g) lb s path pv (n + 1) (.error ([], 67)) W) := by
  obtain ⟨pa, pcap, rfl, hpa, hpc⟩ := own_int h.own
  have hlb := h.lt
  have c9 := h.c9
  have qz := h.fz 9
  have c8 := h.c8
  have c10 := h.c10
  obtain ⟨Wn, hWn⟩ : ∃ Wn, Wn = W.setCell ⟨lb, 9, none⟩ (.int .i64 ((n : Int) + 1)) := ⟨_, rfl⟩
  have hLn : LkS p (scG p a3 a4 a5 a6 a7 c3 c4 c5 c6 c7 g) lb s Wn (n + 1) path (.slice pa path.length pcap) := by rw [hWn]; exact h.set9 (n + 1)
  have hFn : Fr lb W (.slice pa path.length pcap) Wn (.slice pa path.length pcap) := by rw [hWn]; exact Fr.set W _ _ 9 _ rfl
  have hsn : Wn.heap.size = W.heap.size := by rw [hWn]; simp [World.setCell]
  obtain ⟨W3, hW3⟩ : ∃ W3, W3 = ((Wn.alloc (.cells #[.int .i64 x.op, .int .i64 x.num, .int .i64 x.den, .int .i64 x.mode, .slice ax x.args.len cx] 73)).alloc (.cells #[.int .i64 0, .int .i64 0] 163)) := ⟨_, rfl⟩
  have hB0 : Below Wn.heap.size Wn W3 := by rw [hW3]; exact ((Below.refl _ _).alloc (Nat.le_refl _) _).alloc (by simp) _
  have hs3 : W3.heap.size = W.heap.size + 1 + 1 := by rw [hW3]; simp [hsn]
  have hbx := (bx_new Wn #[.int .i64 x.op, .int .i64 x.num, .int .i64 x.den, .int .i64 x.mode, .slice ax x.args.len cx] 73).kept (World.grownBy_alloc _ (.cells #[.int .i64 0, .int .i64 0] 163) none) (by simp)
  have hbk := bx_new (Wn.alloc (.cells #[.int .i64 x.op, .int .i64 x.num, .int .i64 x.den, .int .i64 x.mode, .slice ax x.args.len cx] 73)) #[.int .i64 0, .int .i64 0] 163
  rw [show (Wn.alloc (.cells #[.int .i64 x.op, .int .i64 x.num, .int .i64 x.den, .int .i64 x.mode, .slice ax x.args.len cx] 73)).heap.size = W.heap.size + 1 by simp [hsn]] at hbk
  rw [hsn] at hbx
  rw [← hW3] at hbx hbk
  have hL3 := hLn.bel hB0
  have hF3 : Fr lb W (.slice pa path.length pcap) W3 (.slice pa path.length pcap) := hFn.trans (Fr.bel hB0 _)
  have k0 := hbk.2.1 0 (by simp)
  have k1 := hbk.2.1 1 (by simp)
  have z0 := hbk.2.2 0
  have z1 := hbk.2.2 1
  have j0 := set_id k0
  have j1 := set_id k1
  have hfin : ∀ c Y, Below W3.heap.size W3 Y → NdP p (scG p a3 a4 a5 a6 a7 c3 c4 c5 c6 c7 g) lb s path (.slice pa path.length pcap) (n + 1) (.error ([], c)) W (.returned (resV (.error ([], c)))) Y := fun c Y hY => ⟨rfl, _, by simpa [pathAf] using hL3.bel hY, hF3.trans (Fr.bel hY _)⟩
  have x0 := hbx.2.1 0 (by simp)
  have r8 := hL3.c8
  have hd' : (path.length : Int) < 8 := by omega
  have hm' : ¬ (60 : Int) < (n : Int) + 1 := by omega
  clear hd hm
  have hH3 := Hid.mk hW3
  have hHn := Hid.mk hWn
  have hfin := Hid.mk hfin
  have hL3 := Hid.mk hL3
  have hF3 := Hid.mk hF3
  have hbxH := Hid.mk hbx
  have hbkH := Hid.mk hbk
  clear hW3 hWn hLn hFn hbx hbk hB0 k0 k1 z0 z1 j0 j1
  go_enter Tryz.func83, Tryz.ntmps83
  go_wp2
  rw [← hHn.out, ← hH3.out]
  clear hHn hH3
  go_quiet (fail)
  have hB4 : Below W3.heap.size W3 (World.drewN W3 nq) := bel_drewN _ _ _
  obtain ⟨W4, hW4⟩ : ∃ W4, W4 = World.drewN W3 nq := ⟨_, rfl⟩
  rw [← hW4] at hB4 ⊢
  clear hW4
  have bk4 : Bx W4 (W.heap.size + 1) [.int .i64 0, .int .i64 0] := ⟨Nat.lt_of_lt_of_le hbkH.out.1 hB4.size, fun j hj => (bel_cell hB4 hbkH.out.1 j).trans (hbkH.out.2.1 j hj), fun j => (World.frozen?_of_block (a := ⟨W.heap.size + 1, j, none⟩) (hB4.block _ hbkH.out.1)).trans (hbkH.out.2.2 j)⟩
  have k0 := bk4.2.1 0 (by simp)
  have k1 := bk4.2.1 1 (by simp)
  have z0 := bk4.2.2 0
  have z1 := bk4.2.2 1
  have j0 := set_id k0
  have j1 := set_id k1
  have hf := hfin.out 67 W4 hB4
  go_wp2
  exact bodyPost_ret (v := .tuple #[.agg #[.int .i64 0, .int .i64 0], .int .i64 67]) (by simp at k0 k1; simp [results, Tryz.results83, go_sem, k0, k1]) rfl hf
set_option maxRecDepth 20000 in
set_option maxHeartbeats 2000000 in
theorem node_high (p : Pk) (g : Int) (a3 a4 a5 a6 a7 : Option Addr) (c3 c4 c5 c6 c7 : Nat) (x : Ex) (ax : Option Addr) (cx : Nat) (lb s : Nat) (W : World) (n : Nat) (path : List Nat) (pv : Value) (h : LkS p (scG p a3 a4 a5 a6 a7 c3 c4 c5 c6 c7 g) lb s W n path pv) (hn : n ≤ 60) (hd : path.length < 8) (hm : n + 1 ≤ 60) (ho : 42 ≤ x.op) : Calls Tryz.prog 83 #[.pointer (some ⟨lb, 0, none⟩), .agg #[.int .i64 x.op, .int .i64 x.num, .int .i64 x.den, .int .i64 x.mode, .slice ax x.args.len cx]] W (NdP p (scG p a3 a4 a5 a6 a7 c3 c4 c5 c6 c7 g) lb s path pv (n + 1) (.error ([], 67)) W) := by
  have ho' : ¬ x.op < 1 := by omega
  obtain ⟨pa, pcap, rfl, hpa, hpc⟩ := own_int h.own
  have hlb := h.lt
  have c9 := h.c9
  have qz := h.fz 9
  have c8 := h.c8
  have c10 := h.c10
  obtain ⟨Wn, hWn⟩ : ∃ Wn, Wn = W.setCell ⟨lb, 9, none⟩ (.int .i64 ((n : Int) + 1)) := ⟨_, rfl⟩
  have hLn : LkS p (scG p a3 a4 a5 a6 a7 c3 c4 c5 c6 c7 g) lb s Wn (n + 1) path (.slice pa path.length pcap) := by rw [hWn]; exact h.set9 (n + 1)
  have hFn : Fr lb W (.slice pa path.length pcap) Wn (.slice pa path.length pcap) := by rw [hWn]; exact Fr.set W _ _ 9 _ rfl
  have hsn : Wn.heap.size = W.heap.size := by rw [hWn]; simp [World.setCell]
  obtain ⟨W3, hW3⟩ : ∃ W3, W3 = ((Wn.alloc (.cells #[.int .i64 x.op, .int .i64 x.num, .int .i64 x.den, .int .i64 x.mode, .slice ax x.args.len cx] 73)).alloc (.cells #[.int .i64 0, .int .i64 0] 163)) := ⟨_, rfl⟩
  have hB0 : Below Wn.heap.size Wn W3 := by rw [hW3]; exact ((Below.refl _ _).alloc (Nat.le_refl _) _).alloc (by simp) _
  have hs3 : W3.heap.size = W.heap.size + 1 + 1 := by rw [hW3]; simp [hsn]
  have hbx := (bx_new Wn #[.int .i64 x.op, .int .i64 x.num, .int .i64 x.den, .int .i64 x.mode, .slice ax x.args.len cx] 73).kept (World.grownBy_alloc _ (.cells #[.int .i64 0, .int .i64 0] 163) none) (by simp)
  have hbk := bx_new (Wn.alloc (.cells #[.int .i64 x.op, .int .i64 x.num, .int .i64 x.den, .int .i64 x.mode, .slice ax x.args.len cx] 73)) #[.int .i64 0, .int .i64 0] 163
  rw [show (Wn.alloc (.cells #[.int .i64 x.op, .int .i64 x.num, .int .i64 x.den, .int .i64 x.mode, .slice ax x.args.len cx] 73)).heap.size = W.heap.size + 1 by simp [hsn]] at hbk
  rw [hsn] at hbx
  rw [← hW3] at hbx hbk
  have hL3 := hLn.bel hB0
  have hF3 : Fr lb W (.slice pa path.length pcap) W3 (.slice pa path.length pcap) := hFn.trans (Fr.bel hB0 _)
  have k0 := hbk.2.1 0 (by simp)
  have k1 := hbk.2.1 1 (by simp)
  have z0 := hbk.2.2 0
  have z1 := hbk.2.2 1
  have j0 := set_id k0
  have j1 := set_id k1
  have hfin : ∀ c Y, Below W3.heap.size W3 Y → NdP p (scG p a3 a4 a5 a6 a7 c3 c4 c5 c6 c7 g) lb s path (.slice pa path.length pcap) (n + 1) (.error ([], c)) W (.returned (resV (.error ([], c)))) Y := fun c Y hY => ⟨rfl, _, by simpa [pathAf] using hL3.bel hY, hF3.trans (Fr.bel hY _)⟩
  have x0 := hbx.2.1 0 (by simp)
  have r8 := hL3.c8
  have hd' : (path.length : Int) < 8 := by omega
  have hm' : ¬ (60 : Int) < (n : Int) + 1 := by omega
  clear hd hm
  have hH3 := Hid.mk hW3
  have hHn := Hid.mk hWn
  have hfin := Hid.mk hfin
  have hL3 := Hid.mk hL3
  have hF3 := Hid.mk hF3
  have hbxH := Hid.mk hbx
  have hbkH := Hid.mk hbk
  clear hW3 hWn hLn hFn hbx hbk hB0 k0 k1 z0 z1 j0 j1
  go_enter Tryz.func83, Tryz.ntmps83
  go_wp2
  rw [← hHn.out, ← hH3.out]
  clear hHn hH3
  go_quiet (fail)
  have hB4 : Below W3.heap.size W3 (World.drewN W3 nq) := bel_drewN _ _ _
  obtain ⟨W4, hW4⟩ : ∃ W4, W4 = World.drewN W3 nq := ⟨_, rfl⟩
  rw [← hW4] at hB4 ⊢
  clear hW4
  have bk4 : Bx W4 (W.heap.size + 1) [.int .i64 0, .int .i64 0] := ⟨Nat.lt_of_lt_of_le hbkH.out.1 hB4.size, fun j hj => (bel_cell hB4 hbkH.out.1 j).trans (hbkH.out.2.1 j hj), fun j => (World.frozen?_of_block (a := ⟨W.heap.size + 1, j, none⟩) (hB4.block _ hbkH.out.1)).trans (hbkH.out.2.2 j)⟩
  have k0 := bk4.2.1 0 (by simp)
  have k1 := bk4.2.1 1 (by simp)
  have z0 := bk4.2.2 0
  have z1 := bk4.2.2 1
  have j0 := set_id k0
  have j1 := set_id k1
  have hf := hfin.out 67 W4 hB4
  go_wp2
  exact bodyPost_ret (v := .tuple #[.agg #[.int .i64 0, .int .i64 0], .int .i64 67]) (by simp at k0 k1; simp [results, Tryz.results83, go_sem, k0, k1]) rfl hf
end Go.Proofs.YthnmjafoplfikaaGreatDoor


namespace Go.Proofs.YthnmjafoplfikaaGreatDoor
open Go.RowKit

theorem most_le {o : Opr} (h : oprOk o = true) : o.most ≤ 6 := by
  unfold oprOk at h
  simp only [Bool.and_eq_true, decide_eq_true_eq] at h
  exact h.1.2
theorem node_any (p : Pk) (g : Int) (a3 a4 a5 a6 a7 : Option Addr) (c3 c4 c5 c6 c7 : Nat) (lb s : Nat) : ∀ d, NodeIs p g a3 a4 a5 a6 a7 c3 c4 c5 c6 c7 lb s d
  | 0 => fun x ax cx W n path pv h hn hd _ _ => node_deep p g a3 a4 a5 a6 a7 c3 c4 c5 c6 c7 x ax cx lb s W n path pv h hn hd
  | d + 1 => fun x ax cx W n path pv h hn hd hz hFo => by
    have ih := node_any p g a3 a4 a5 a6 a7 c3 c4 c5 c6 c7 lb s d
    by_cases hm : n + 1 ≤ 60
    · by_cases h1 : x.op < 1
      · have hT : tN p g (d + 1) x n = (n + 1, .error ([], 67)) := by
          unfold tN
          rw [if_neg (by omega), if_pos (.inl h1)]
        rw [hT]
        exact node_low p g a3 a4 a5 a6 a7 c3 c4 c5 c6 c7 x ax cx lb s W n path pv h hn (by omega) hm h1
      · by_cases h2 : 42 ≤ x.op
        · have hT : tN p g (d + 1) x n = (n + 1, .error ([], 67)) := by
            unfold tN
            rw [if_neg (by omega), if_pos (.inr h2)]
          rw [hT]
          exact node_high p g a3 a4 a5 a6 a7 c3 c4 c5 c6 c7 x ax cx lb s W n path pv h hn (by omega) hm h2
        · obtain ⟨op, num, den, mode, args⟩ := x
          simp only at h1 h2 hz hFo ⊢
          obtain ⟨k, rfl⟩ : ∃ k : Nat, op = (k : Int) := ⟨op.toNat, by omega⟩
          have hk1 : 1 ≤ k := by omega
          have hk2 : k < 42 := by omega
          have hA : takesB (opTab k) (⟨(k : Int), num, den, mode, args⟩ : Ex) = true → ∀ Y qv, LkS p (scG p a3 a4 a5 a6 a7 c3 c4 c5 c6 c7 g) lb s Y (n + 1) path qv → FoAt Y (fun b => b < lb) args ax → Calls Tryz.prog 117 #[.pointer (some ⟨lb, 0, none⟩), .slice ax args.len cx] Y (ArP p (scG p a3 a4 a5 a6 a7 c3 c4 c5 c6 c7 g) lb s path qv (tFold (tN p g d) (toL args) 0 (n + 1) []) Y) := fun ht Y qv hL hF => by
            have hle := (takes_len ht).2
            have hmo := most_le (oprOk_at hk1 hk2)
            simp only at hle
            have := args_any p g a3 a4 a5 a6 a7 c3 c4 c5 c6 c7 lb s d ih (fun x n m e => tN_err p g d x n m e) (toL args) ax cx Y (n + 1) path qv hL hm (by omega) (row_of_fo hF) (toL_sz _ hz.2) (by rw [toL_len]; omega)
            rw [toL_len] at this
            exact this
          cases hfd : (opTab k).fd with
          | none => exact node_none p g a3 a4 a5 a6 a7 c3 c4 c5 c6 c7 k num den mode args ax cx lb s W n path pv h hn d hd hm hk1 hk2 hfd hFo hz.1 hA
          | opt => exact node_fd p g a3 a4 a5 a6 a7 c3 c4 c5 c6 c7 k num den mode args ax cx lb s W n path pv h hn d hd hm hk1 hk2 .opt _ (fun _ _ => by kernel_rfl) rfl (fun X hRo hRl => findsOption_any p g (⟨(k : Int), num, den, mode, args⟩ : Ex) a3 a4 a5 a6 a7 c3 c4 c5 c6 c7 ax cx X hRo) hfd hFo hz.1 hA
          | line => exact node_fd p g a3 a4 a5 a6 a7 c3 c4 c5 c6 c7 k num den mode args ax cx lb s W n path pv h hn d hd hm hk1 hk2 .line _ (fun _ _ => by kernel_rfl) rfl (fun X hRo hRl => findsLine_any p g (⟨(k : Int), num, den, mode, args⟩ : Ex) a3 a4 a5 a6 a7 c3 c4 c5 c6 c7 ax cx X hRl) hfd hFo hz.1 hA
          | col => exact node_fd p g a3 a4 a5 a6 a7 c3 c4 c5 c6 c7 k num den mode args ax cx lb s W n path pv h hn d hd hm hk1 hk2 .col _ (fun _ _ => by kernel_rfl) rfl (fun X hRo hRl => findsColumn_any p g (⟨(k : Int), num, den, mode, args⟩ : Ex) a3 a4 a5 a6 a7 c3 c4 c5 c6 c7 ax cx X hRl) hfd hFo hz.1 hA
          | grp => exact node_fd p g a3 a4 a5 a6 a7 c3 c4 c5 c6 c7 k num den mode args ax cx lb s W n path pv h hn d hd hm hk1 hk2 .grp _ (fun _ _ => by kernel_rfl) rfl (fun X hRo hRl => findsGroup_any p g (⟨(k : Int), num, den, mode, args⟩ : Ex) a3 a4 a5 a6 a7 c3 c4 c5 c6 c7 ax cx X ) hfd hFo hz.1 hA
          | tab => exact node_fd p g a3 a4 a5 a6 a7 c3 c4 c5 c6 c7 k num den mode args ax cx lb s W n path pv h hn d hd hm hk1 hk2 .tab _ (fun _ _ => by kernel_rfl) rfl (fun X hRo hRl => findsTable_any p g (⟨(k : Int), num, den, mode, args⟩ : Ex) a3 a4 a5 a6 a7 c3 c4 c5 c6 c7 ax cx X ) hfd hFo hz.1 hA
    · have hT : tN p g (d + 1) x n = (n + 1, .error ([], 60)) := by
        unfold tN
        rw [if_pos (by omega)]
      rw [hT]
      exact node_many p g a3 a4 a5 a6 a7 c3 c4 c5 c6 c7 x ax cx lb s W n path pv h hn (by omega) (by omega)
end Go.Proofs.YthnmjafoplfikaaGreatDoor


namespace Go.Proofs.YthnmjafoplfikaaGreatDoor
open Go.RowKit

def TyP (r : Except Ft Kd) (W : World) (e : Ending) (W' : World) : Prop := Below W.heap.size W W' ∧ (match r with
  | .ok k => e = .returned (.tuple #[.int .i64 k.1, .int .i64 k.2, .slice none 0 0, .int .i64 0])
  | .error er => ∃ pv, e = .returned (.tuple #[.int .i64 0, .int .i64 (-1), pv, .int .i64 (er.2 : Int)]) ∧ W'.ownsRow W.heap.size 3 1 pv er.1.length (ptC er.1))
theorem own_base {W : World} {b b' n k : Nat} {t : TypeId} {v : Value} {xs : List Value} (h : W.ownsRow b t k v n xs) (hb : b' ≤ b) : W.ownsRow b' t k v n xs := by
  obtain ⟨hl, hv | ⟨g, cap, cur, e, hg, h1⟩⟩ := h
  · exact ⟨hl, .inl hv⟩
  · exact ⟨hl, .inr ⟨g, cap, cur, e, Nat.le_trans hb hg, h1⟩⟩
theorem pke_mo {W : World} {S S' : Nat → Prop} {p : Pk} {cs : List Value} (h : PkE W S p cs) (hb : ∀ b, b < W.heap.size → S b → S' b) : PkE W S' p cs := by
  obtain ⟨a3, c3, a4, c4, a5, c5, a6, c6, a7, c7, h0, h1, r3, r4, r5, r6, r7⟩ := h
  exact ⟨a3, c3, a4, c4, a5, c5, a6, c6, a7, c7, h0, h1, r3.mo hb, r4.mo hb, r5.mo hb, r6.mo hb, r7.mo hb⟩
/-- A walk that begins. -/
theorem lks_new {p : Pk} {g : Int} {a3 a4 a5 a6 a7 : Option Addr} {c3 c4 c5 c6 c7 : Nat} {W Y : World} {lb s : Nat} (hp : PkE W AnyB p (scP p a3 a4 a5 a6 a7 c3 c4 c5 c6 c7)) (hB : Below W.heap.size W Y) (hlb : W.heap.size ≤ lb) (hbx : Bx Y lb ((scG p a3 a4 a5 a6 a7 c3 c4 c5 c6 c7 g) ++ [.slice (some ⟨s + 29, 0, none⟩) 42 42, .int .i64 0, .slice none 0 0])) (hops : OpsAt Y s) (hlo : s + 30 ≤ lb ∨ lb < s) : LkS p (scG p a3 a4 a5 a6 a7 c3 c4 c5 c6 c7 g) lb s Y 0 [] (.slice none 0 0) :=
  ⟨fun j hj => by
    have := hbx.2.1 j (by simp; omega)
    rw [this, List.getElem?_append_left (by simpa using hj)], hbx.2.1 8 (by simp), hbx.2.1 9 (by simp), hbx.2.1 10 (by simp), hbx.2.2, World.ownsRow_nil _ _ _ _, hops, hlo, pke_fr (pke_mo hp (fun b hb _ => Nat.lt_of_lt_of_le hb hlb)) hB.size (fun b hb hlt => hB.block b hlt)⟩
set_option maxRecDepth 20000 in
set_option maxHeartbeats 3000000 in
theorem Type_any (p : Pk) (g : Int) (x : Ex) (a3 a4 a5 a6 a7 : Option Addr) (c3 c4 c5 c6 c7 : Nat) (ax : Option Addr) (cx : Nat) (W : World) (hp : PkE W AnyB p (scP p a3 a4 a5 a6 a7 c3 c4 c5 c6 c7)) (hx : FoAt W AnyB x.args ax) (hz : SzE x) : Calls Tryz.prog 62 #[.agg #[.string ⟨p.name.toArray⟩, .int .i64 p.year, .slice a3 p.opts.length c3, .slice a4 p.tabs.length c4, .slice a5 p.grps.length c5, .slice a6 p.lns.length c6, .slice a7 p.cks.length c7], .int .i64 g, .agg #[.int .i64 x.op, .int .i64 x.num, .int .i64 x.den, .int .i64 x.mode, .slice ax x.args.len cx]] W (TyP (tType p g x) W) := by
  obtain ⟨W2, hW2⟩ : ∃ W2, W2 = (W.alloc (.cells #[.string ⟨p.name.toArray⟩, .int .i64 p.year, .slice a3 p.opts.length c3, .slice a4 p.tabs.length c4, .slice a5 p.grps.length c5, .slice a6 p.lns.length c6, .slice a7 p.cks.length c7] 28)).alloc (.cells #[.int .i64 x.op, .int .i64 x.num, .int .i64 x.den, .int .i64 x.mode, .slice ax x.args.len cx] 73) := ⟨_, rfl⟩
  have hB2 : Below W.heap.size W W2 := by rw [hW2]; exact ((Below.refl _ _).alloc (Nat.le_refl _) _).alloc (by simp) _
  have hs2 : W2.heap.size = W.heap.size + 1 + 1 := by rw [hW2]; simp
  have hbp := (bx_new W #[.string ⟨p.name.toArray⟩, .int .i64 p.year, .slice a3 p.opts.length c3, .slice a4 p.tabs.length c4, .slice a5 p.grps.length c5, .slice a6 p.lns.length c6, .slice a7 p.cks.length c7] 28).kept (World.grownBy_alloc _ (.cells #[.int .i64 x.op, .int .i64 x.num, .int .i64 x.den, .int .i64 x.mode, .slice ax x.args.len cx] 73) none) (by simp)
  have hbe := bx_new (W.alloc (.cells #[.string ⟨p.name.toArray⟩, .int .i64 p.year, .slice a3 p.opts.length c3, .slice a4 p.tabs.length c4, .slice a5 p.grps.length c5, .slice a6 p.lns.length c6, .slice a7 p.cks.length c7] 28)) #[.int .i64 x.op, .int .i64 x.num, .int .i64 x.den, .int .i64 x.mode, .slice ax x.args.len cx] 73
  rw [show (W.alloc (.cells #[.string ⟨p.name.toArray⟩, .int .i64 p.year, .slice a3 p.opts.length c3, .slice a4 p.tabs.length c4, .slice a5 p.grps.length c5, .slice a6 p.lns.length c6, .slice a7 p.cks.length c7] 28)).heap.size = W.heap.size + 1 by simp] at hbe
  rw [← hW2] at hbp hbe
  have hW2H := Hid.mk hW2
  have hs2H := Hid.mk hs2
  clear hW2 hs2
  have hS : ∀ Y, Below W2.heap.size W2 Y → Y.cell? ⟨W.heap.size, 0, none⟩ = some (.string ⟨p.name.toArray⟩) ∧ Y.cell? ⟨W.heap.size, 1, none⟩ = some (.int .i64 p.year) ∧ Y.cell? ⟨W.heap.size, 2, none⟩ = some (.slice a3 p.opts.length c3) ∧ Y.cell? ⟨W.heap.size, 3, none⟩ = some (.slice a4 p.tabs.length c4) ∧ Y.cell? ⟨W.heap.size, 4, none⟩ = some (.slice a5 p.grps.length c5) ∧ Y.cell? ⟨W.heap.size, 5, none⟩ = some (.slice a6 p.lns.length c6) ∧ Y.cell? ⟨W.heap.size, 6, none⟩ = some (.slice a7 p.cks.length c7) := fun Y hY => by
    have h2 := hbp.bel hY hbp.1
    exact ⟨h2.2.1 0 (by simp), h2.2.1 1 (by simp), h2.2.1 2 (by simp), h2.2.1 3 (by simp), h2.2.1 4 (by simp), h2.2.1 5 (by simp), h2.2.1 6 (by simp)⟩
  have hbd : Below W2.heap.size W2 W2.drew := (Below.refl _ _).drew
  have hba : Below W2.heap.size W2 (W2.drew.alloc (.cells #[.string ⟨#[]⟩, .int .i64 0, .slice none 0 0, .slice none 0 0, .slice none 0 0, .slice none 0 0, .slice none 0 0, .int .i64 0, .slice none 0 0, .int .i64 0, .slice none 0 0] 161)) := hbd.alloc (Nat.le_refl _) _
  have hS0 := hS _ hbd
  have hS1 := hS _ hba
  have hsd : W2.drew.heap.size = W2.heap.size := rfl
  have hop0 := operators_any W2.drew
  have hop1 := operators_any (W2.drew.alloc (.cells #[.string ⟨#[]⟩, .int .i64 0, .slice none 0 0, .slice none 0 0, .slice none 0 0, .slice none 0 0, .slice none 0 0, .int .i64 0, .slice none 0 0, .int .i64 0, .slice none 0 0] 161))
  have hkz := bx_new W2.drew #[.string ⟨#[]⟩, .int .i64 0, .slice none 0 0, .slice none 0 0, .slice none 0 0, .slice none 0 0, .slice none 0 0, .int .i64 0, .slice none 0 0, .int .i64 0, .slice none 0 0] 161
  have hSH := Hid.mk hS
  clear hS
  obtain ⟨QQ, hQQ⟩ : ∃ QQ, TyP (tType p g x) W = QQ := ⟨_, rfl⟩
  rw [hQQ]
  have hQH := Hid.mk hQQ
  clear hQQ
  go_enter Tryz.func62, Tryz.ntmps62
  go_wp2_with fail
  rw [← hW2H.out]
  clear hW2H
  go_region_held3 (fun Y => Y.cell? ⟨W.heap.size, 0, none⟩ = some (.string ⟨p.name.toArray⟩) ∧ Y.cell? ⟨W.heap.size, 1, none⟩ = some (.int .i64 p.year) ∧ Y.cell? ⟨W.heap.size, 2, none⟩ = some (.slice a3 p.opts.length c3) ∧ Y.cell? ⟨W.heap.size, 3, none⟩ = some (.slice a4 p.tabs.length c4) ∧ Y.cell? ⟨W.heap.size, 4, none⟩ = some (.slice a5 p.grps.length c5) ∧ Y.cell? ⟨W.heap.size, 5, none⟩ = some (.slice a6 p.lns.length c6) ∧ Y.cell? ⟨W.heap.size, 6, none⟩ = some (.slice a7 p.cks.length c7)) (assumption)
    (first
      | (go_at_call 72; refine hop0.mono ?_; clear hop0; rintro e w1 ⟨rfl, hb1, hops⟩; have hb2 := bthr hbd hb1 (Nat.le_refl _); have hb3 : Below W2.heap.size W2 (w1.alloc (.cells #[.string ⟨#[]⟩, .int .i64 0, .slice none 0 0, .slice none 0 0, .slice none 0 0, .slice none 0 0, .slice none 0 0, .int .i64 0, .slice none 0 0, .int .i64 0, .slice none 0 0] 161)) := hb2.alloc hb2.size _; have hb4 : Below W2.heap.size W2 (w1.alloc (.cells #[.string ⟨p.name.toArray⟩, .int .i64 p.year, .slice a3 p.opts.length c3, .slice a4 p.tabs.length c4, .slice a5 p.grps.length c5, .slice a6 p.lns.length c6, .slice a7 p.cks.length c7, .int .i64 g, .slice (some ⟨W2.heap.size + 29, 0, none⟩) 42 42, .int .i64 0, .slice none 0 0] 161)) := hb2.alloc hb2.size _; have hSa := hSH.out _ hb2; have hSb := hSH.out _ hb3; have hSc := hSH.out _ hb4)
      | (go_at_call 72; refine hop1.mono ?_; clear hop1; rintro e w1 ⟨rfl, hb1, hops⟩; have hb2 := bthr hba hb1 (Nat.le_refl _); have hSa := hSH.out _ hb2; have hkz2 : Bx w1 W2.drew.heap.size [.string ⟨#[]⟩, .int .i64 0, .slice none 0 0, .slice none 0 0, .slice none 0 0, .slice none 0 0, .slice none 0 0, .int .i64 0, .slice none 0 0, .int .i64 0, .slice none 0 0] := hkz.bel hb1 hkz.1; rw [hsd] at hkz2; have hk0 := hkz2; have hbX0 := hb2; have hfr0 : Fr W2.heap.size w1 (.slice none 0 0) w1 (.slice none 0 0) := Fr.refl _ _ _; have kg0 : w1.cell? ⟨W2.heap.size, 0, none⟩ = some (.string ⟨#[]⟩) := hk0.2.1 0 (by simp); have kh0 := hk0.2.2 0; obtain ⟨X1, hx0⟩ : ∃ X1, w1.setCell ⟨W2.heap.size, 0, none⟩ (.string ⟨p.name.toArray⟩) = X1 := ⟨_, rfl⟩; have hk1 : Bx X1 W2.heap.size [.string ⟨p.name.toArray⟩, .int .i64 0, .slice none 0 0, .slice none 0 0, .slice none 0 0, .slice none 0 0, .slice none 0 0, .int .i64 0, .slice none 0 0, .int .i64 0, .slice none 0 0] := (by rw [← hx0]; exact hk0.set 0 (.string ⟨p.name.toArray⟩)); have hbX1 : Below W2.heap.size W2 X1 := (by rw [← hx0]; exact hbX0.setCell (p := ⟨W2.heap.size, 0, none⟩) (Nat.le_refl _) (.string ⟨p.name.toArray⟩)); have hfr1 : Fr W2.heap.size w1 (.slice none 0 0) X1 (.slice none 0 0) := (by rw [← hx0]; exact hfr0.trans (Fr.set _ _ _ 0 _ rfl)); have kg1 : X1.cell? ⟨W2.heap.size, 1, none⟩ = some (.int .i64 0) := hk1.2.1 1 (by simp); have kh1 := hk1.2.2 1; obtain ⟨X2, hx1⟩ : ∃ X2, X1.setCell ⟨W2.heap.size, 1, none⟩ (.int .i64 p.year) = X2 := ⟨_, rfl⟩; have hk2 : Bx X2 W2.heap.size [.string ⟨p.name.toArray⟩, .int .i64 p.year, .slice none 0 0, .slice none 0 0, .slice none 0 0, .slice none 0 0, .slice none 0 0, .int .i64 0, .slice none 0 0, .int .i64 0, .slice none 0 0] := (by rw [← hx1]; exact hk1.set 1 (.int .i64 p.year)); have hbX2 : Below W2.heap.size W2 X2 := (by rw [← hx1]; exact hbX1.setCell (p := ⟨W2.heap.size, 1, none⟩) (Nat.le_refl _) (.int .i64 p.year)); have hfr2 : Fr W2.heap.size w1 (.slice none 0 0) X2 (.slice none 0 0) := (by rw [← hx1]; exact hfr1.trans (Fr.set _ _ _ 1 _ rfl)); have kg2 : X2.cell? ⟨W2.heap.size, 2, none⟩ = some (.slice none 0 0) := hk2.2.1 2 (by simp); have kh2 := hk2.2.2 2; obtain ⟨X3, hx2⟩ : ∃ X3, X2.setCell ⟨W2.heap.size, 2, none⟩ (.slice a3 p.opts.length c3) = X3 := ⟨_, rfl⟩; have hk3 : Bx X3 W2.heap.size [.string ⟨p.name.toArray⟩, .int .i64 p.year, .slice a3 p.opts.length c3, .slice none 0 0, .slice none 0 0, .slice none 0 0, .slice none 0 0, .int .i64 0, .slice none 0 0, .int .i64 0, .slice none 0 0] := (by rw [← hx2]; exact hk2.set 2 (.slice a3 p.opts.length c3)); have hbX3 : Below W2.heap.size W2 X3 := (by rw [← hx2]; exact hbX2.setCell (p := ⟨W2.heap.size, 2, none⟩) (Nat.le_refl _) (.slice a3 p.opts.length c3)); have hfr3 : Fr W2.heap.size w1 (.slice none 0 0) X3 (.slice none 0 0) := (by rw [← hx2]; exact hfr2.trans (Fr.set _ _ _ 2 _ rfl)); have kg3 : X3.cell? ⟨W2.heap.size, 3, none⟩ = some (.slice none 0 0) := hk3.2.1 3 (by simp); have kh3 := hk3.2.2 3; obtain ⟨X4, hx3⟩ : ∃ X4, X3.setCell ⟨W2.heap.size, 3, none⟩ (.slice a4 p.tabs.length c4) = X4 := ⟨_, rfl⟩; have hk4 : Bx X4 W2.heap.size [.string ⟨p.name.toArray⟩, .int .i64 p.year, .slice a3 p.opts.length c3, .slice a4 p.tabs.length c4, .slice none 0 0, .slice none 0 0, .slice none 0 0, .int .i64 0, .slice none 0 0, .int .i64 0, .slice none 0 0] := (by rw [← hx3]; exact hk3.set 3 (.slice a4 p.tabs.length c4)); have hbX4 : Below W2.heap.size W2 X4 := (by rw [← hx3]; exact hbX3.setCell (p := ⟨W2.heap.size, 3, none⟩) (Nat.le_refl _) (.slice a4 p.tabs.length c4)); have hfr4 : Fr W2.heap.size w1 (.slice none 0 0) X4 (.slice none 0 0) := (by rw [← hx3]; exact hfr3.trans (Fr.set _ _ _ 3 _ rfl)); have kg4 : X4.cell? ⟨W2.heap.size, 4, none⟩ = some (.slice none 0 0) := hk4.2.1 4 (by simp); have kh4 := hk4.2.2 4; obtain ⟨X5, hx4⟩ : ∃ X5, X4.setCell ⟨W2.heap.size, 4, none⟩ (.slice a5 p.grps.length c5) = X5 := ⟨_, rfl⟩; have hk5 : Bx X5 W2.heap.size [.string ⟨p.name.toArray⟩, .int .i64 p.year, .slice a3 p.opts.length c3, .slice a4 p.tabs.length c4, .slice a5 p.grps.length c5, .slice none 0 0, .slice none 0 0, .int .i64 0, .slice none 0 0, .int .i64 0, .slice none 0 0] := (by rw [← hx4]; exact hk4.set 4 (.slice a5 p.grps.length c5)); have hbX5 : Below W2.heap.size W2 X5 := (by rw [← hx4]; exact hbX4.setCell (p := ⟨W2.heap.size, 4, none⟩) (Nat.le_refl _) (.slice a5 p.grps.length c5)); have hfr5 : Fr W2.heap.size w1 (.slice none 0 0) X5 (.slice none 0 0) := (by rw [← hx4]; exact hfr4.trans (Fr.set _ _ _ 4 _ rfl)); have kg5 : X5.cell? ⟨W2.heap.size, 5, none⟩ = some (.slice none 0 0) := hk5.2.1 5 (by simp); have kh5 := hk5.2.2 5; obtain ⟨X6, hx5⟩ : ∃ X6, X5.setCell ⟨W2.heap.size, 5, none⟩ (.slice a6 p.lns.length c6) = X6 := ⟨_, rfl⟩; have hk6 : Bx X6 W2.heap.size [.string ⟨p.name.toArray⟩, .int .i64 p.year, .slice a3 p.opts.length c3, .slice a4 p.tabs.length c4, .slice a5 p.grps.length c5, .slice a6 p.lns.length c6, .slice none 0 0, .int .i64 0, .slice none 0 0, .int .i64 0, .slice none 0 0] := (by rw [← hx5]; exact hk5.set 5 (.slice a6 p.lns.length c6)); have hbX6 : Below W2.heap.size W2 X6 := (by rw [← hx5]; exact hbX5.setCell (p := ⟨W2.heap.size, 5, none⟩) (Nat.le_refl _) (.slice a6 p.lns.length c6)); have hfr6 : Fr W2.heap.size w1 (.slice none 0 0) X6 (.slice none 0 0) := (by rw [← hx5]; exact hfr5.trans (Fr.set _ _ _ 5 _ rfl)); have kg6 : X6.cell? ⟨W2.heap.size, 6, none⟩ = some (.slice none 0 0) := hk6.2.1 6 (by simp); have kh6 := hk6.2.2 6; obtain ⟨X7, hx6⟩ : ∃ X7, X6.setCell ⟨W2.heap.size, 6, none⟩ (.slice a7 p.cks.length c7) = X7 := ⟨_, rfl⟩; have hk7 : Bx X7 W2.heap.size [.string ⟨p.name.toArray⟩, .int .i64 p.year, .slice a3 p.opts.length c3, .slice a4 p.tabs.length c4, .slice a5 p.grps.length c5, .slice a6 p.lns.length c6, .slice a7 p.cks.length c7, .int .i64 0, .slice none 0 0, .int .i64 0, .slice none 0 0] := (by rw [← hx6]; exact hk6.set 6 (.slice a7 p.cks.length c7)); have hbX7 : Below W2.heap.size W2 X7 := (by rw [← hx6]; exact hbX6.setCell (p := ⟨W2.heap.size, 6, none⟩) (Nat.le_refl _) (.slice a7 p.cks.length c7)); have hfr7 : Fr W2.heap.size w1 (.slice none 0 0) X7 (.slice none 0 0) := (by rw [← hx6]; exact hfr6.trans (Fr.set _ _ _ 6 _ rfl)); have kg7 : X7.cell? ⟨W2.heap.size, 7, none⟩ = some (.int .i64 0) := hk7.2.1 7 (by simp); have kh7 := hk7.2.2 7; obtain ⟨X8, hx7⟩ : ∃ X8, X7.setCell ⟨W2.heap.size, 7, none⟩ (.int .i64 g) = X8 := ⟨_, rfl⟩; have hk8 : Bx X8 W2.heap.size [.string ⟨p.name.toArray⟩, .int .i64 p.year, .slice a3 p.opts.length c3, .slice a4 p.tabs.length c4, .slice a5 p.grps.length c5, .slice a6 p.lns.length c6, .slice a7 p.cks.length c7, .int .i64 g, .slice none 0 0, .int .i64 0, .slice none 0 0] := (by rw [← hx7]; exact hk7.set 7 (.int .i64 g)); have hbX8 : Below W2.heap.size W2 X8 := (by rw [← hx7]; exact hbX7.setCell (p := ⟨W2.heap.size, 7, none⟩) (Nat.le_refl _) (.int .i64 g)); have hfr8 : Fr W2.heap.size w1 (.slice none 0 0) X8 (.slice none 0 0) := (by rw [← hx7]; exact hfr7.trans (Fr.set _ _ _ 7 _ rfl)); have kg8 : X8.cell? ⟨W2.heap.size, 8, none⟩ = some (.slice none 0 0) := hk8.2.1 8 (by simp); have kh8 := hk8.2.2 8; obtain ⟨X9, hx8⟩ : ∃ X9, X8.setCell ⟨W2.heap.size, 8, none⟩ (.slice (some ⟨W2.heap.size + 1 + 29, 0, none⟩) 42 42) = X9 := ⟨_, rfl⟩; have hk9 : Bx X9 W2.heap.size [.string ⟨p.name.toArray⟩, .int .i64 p.year, .slice a3 p.opts.length c3, .slice a4 p.tabs.length c4, .slice a5 p.grps.length c5, .slice a6 p.lns.length c6, .slice a7 p.cks.length c7, .int .i64 g, .slice (some ⟨W2.heap.size + 1 + 29, 0, none⟩) 42 42, .int .i64 0, .slice none 0 0] := (by rw [← hx8]; exact hk8.set 8 (.slice (some ⟨W2.heap.size + 1 + 29, 0, none⟩) 42 42)); have hbX9 : Below W2.heap.size W2 X9 := (by rw [← hx8]; exact hbX8.setCell (p := ⟨W2.heap.size, 8, none⟩) (Nat.le_refl _) (.slice (some ⟨W2.heap.size + 1 + 29, 0, none⟩) 42 42)); have hfr9 : Fr W2.heap.size w1 (.slice none 0 0) X9 (.slice none 0 0) := (by rw [← hx8]; exact hfr8.trans (Fr.set _ _ _ 8 _ rfl)); have kg9 : X9.cell? ⟨W2.heap.size, 9, none⟩ = some (.int .i64 0) := hk9.2.1 9 (by simp); have kh9 := hk9.2.2 9; obtain ⟨X10, hx9⟩ : ∃ X10, X9.setCell ⟨W2.heap.size, 9, none⟩ (.int .i64 0) = X10 := ⟨_, rfl⟩; have hk10 : Bx X10 W2.heap.size [.string ⟨p.name.toArray⟩, .int .i64 p.year, .slice a3 p.opts.length c3, .slice a4 p.tabs.length c4, .slice a5 p.grps.length c5, .slice a6 p.lns.length c6, .slice a7 p.cks.length c7, .int .i64 g, .slice (some ⟨W2.heap.size + 1 + 29, 0, none⟩) 42 42, .int .i64 0, .slice none 0 0] := (by rw [← hx9]; exact hk9.set 9 (.int .i64 0)); have hbX10 : Below W2.heap.size W2 X10 := (by rw [← hx9]; exact hbX9.setCell (p := ⟨W2.heap.size, 9, none⟩) (Nat.le_refl _) (.int .i64 0)); have hfr10 : Fr W2.heap.size w1 (.slice none 0 0) X10 (.slice none 0 0) := (by rw [← hx9]; exact hfr9.trans (Fr.set _ _ _ 9 _ rfl)); have kg10 : X10.cell? ⟨W2.heap.size, 10, none⟩ = some (.slice none 0 0) := hk10.2.1 10 (by simp); have kh10 := hk10.2.2 10; obtain ⟨X11, hx10⟩ : ∃ X11, X10.setCell ⟨W2.heap.size, 10, none⟩ (.slice none 0 0) = X11 := ⟨_, rfl⟩; have hk11 : Bx X11 W2.heap.size [.string ⟨p.name.toArray⟩, .int .i64 p.year, .slice a3 p.opts.length c3, .slice a4 p.tabs.length c4, .slice a5 p.grps.length c5, .slice a6 p.lns.length c6, .slice a7 p.cks.length c7, .int .i64 g, .slice (some ⟨W2.heap.size + 1 + 29, 0, none⟩) 42 42, .int .i64 0, .slice none 0 0] := (by rw [← hx10]; exact hk10.set 10 (.slice none 0 0)); have hbX11 : Below W2.heap.size W2 X11 := (by rw [← hx10]; exact hbX10.setCell (p := ⟨W2.heap.size, 10, none⟩) (Nat.le_refl _) (.slice none 0 0)); have hfr11 : Fr W2.heap.size w1 (.slice none 0 0) X11 (.slice none 0 0) := (by rw [← hx10]; exact hfr10.trans (Fr.set _ _ _ 10 _ rfl)); have hSc := hSH.out _ hbX11; clear hbX0 hbX1 hbX2 hbX3 hbX4 hbX5 hbX6 hbX7 hbX8 hbX9 hbX10 hk0 hk1 hk2 hk3 hk4 hk5 hk6 hk7 hk8 hk9 hk10 hfr0 hfr1 hfr2 hfr3 hfr4 hfr5 hfr6 hfr7 hfr8 hfr9 hfr10))
  · have hops1 : OpsAt w1 W2.heap.size := hops
    have hbl : Bx (w1.alloc (.cells #[.string ⟨p.name.toArray⟩, .int .i64 p.year, .slice a3 p.opts.length c3, .slice a4 p.tabs.length c4, .slice a5 p.grps.length c5, .slice a6 p.lns.length c6, .slice a7 p.cks.length c7, .int .i64 g, .slice (some ⟨W2.heap.size + 29, 0, none⟩) 42 42, .int .i64 0, .slice none 0 0] 161)) w1.heap.size [.string ⟨p.name.toArray⟩, .int .i64 p.year, .slice a3 p.opts.length c3, .slice a4 p.tabs.length c4, .slice a5 p.grps.length c5, .slice a6 p.lns.length c6, .slice a7 p.cks.length c7, .int .i64 g, .slice (some ⟨W2.heap.size + 29, 0, none⟩) 42 42, .int .i64 0, .slice none 0 0] := bx_new w1 #[.string ⟨p.name.toArray⟩, .int .i64 p.year, .slice a3 p.opts.length c3, .slice a4 p.tabs.length c4, .slice a5 p.grps.length c5, .slice a6 p.lns.length c6, .slice a7 p.cks.length c7, .int .i64 g, .slice (some ⟨W2.heap.size + 29, 0, none⟩) 42 42, .int .i64 0, .slice none 0 0] 161
    have hLk := lks_new (g := g) (s := W2.heap.size) hp (bthr hB2 hb4 (Nat.le_refl _)) (Nat.le_trans hB2.size hb2.size) hbl (hops1.bel ((Below.refl _ _).alloc (Nat.le_refl _) _) hops1.1) (.inl hops1.1)
    have hBY := bthr hB2 hb4 (Nat.le_refl _)
    have hbY := hbe.bel hb4 hbe.1
    have hlbW := Nat.le_trans hB2.size hb2.size
    obtain ⟨Y, hY⟩ : ∃ Y, Y = w1.alloc (.cells #[.string ⟨p.name.toArray⟩, .int .i64 p.year, .slice a3 p.opts.length c3, .slice a4 p.tabs.length c4, .slice a5 p.grps.length c5, .slice a6 p.lns.length c6, .slice a7 p.cks.length c7, .int .i64 g, .slice (some ⟨W2.heap.size + 29, 0, none⟩) 42 42, .int .i64 0, .slice none 0 0] 161) := ⟨_, rfl⟩
    rw [← hY] at hLk hBY hbY ⊢
    clear hY hSa hSb hSc hS0 hS1 hb4 hb3 hbl hops hops1 hop1 hkz
    obtain ⟨lb, hlb⟩ : ∃ lb, lb = w1.heap.size := ⟨_, rfl⟩
    rw [← hlb] at hLk hlbW ⊢
    obtain ⟨s, hs⟩ : ∃ s, s = W2.heap.size := ⟨_, rfl⟩
    rw [← hs] at hLk ⊢
    clear hlb hs hb1 hb2
    have hN := node_any p g a3 a4 a5 a6 a7 c3 c4 c5 c6 c7 lb s 8 x ax cx Y 0 [] (.slice none 0 0) hLk (by decide) rfl hz (FoAt.fr hBY.size (fun b _ hlt => hBY.block b hlt) _ _ (FoAt.mo (fun b hb _ => Nat.lt_of_lt_of_le hb hlbW) _ _ hx))
    have hT : ∃ m r, tN p g 8 x 0 = (m, r) := ⟨_, _, rfl⟩
    obtain ⟨m, r, hT⟩ := hT
    rw [hT] at hN
    simp only at hN
    have hr : tType p g x = r := by unfold tType; rw [hT]
    have hfin : ∀ w3 pv3 Z, LkS p (scG p a3 a4 a5 a6 a7 c3 c4 c5 c6 c7 g) lb s w3 m (pathAf [] r) pv3 → Fr lb Y (.slice none 0 0) w3 pv3 → Below w3.heap.size w3 Z → Below W.heap.size W Z ∧ Z.ownsRow W.heap.size 3 1 pv3 (pathAf [] r).length (ptC (pathAf [] r)) := fun w3 pv3 Z g1 g2 g3 => by
      have h3 : Below W.heap.size W w3 := hBY.trans (g2.below hlbW hBY.size (fun q hq => by cases hq))
      exact ⟨bthr h3 g3 (Nat.le_refl _), own_bel (own_base g1.own (Nat.le_trans hlbW (Nat.le_trans (Nat.le_succ _) (pB_lb lb s)))) g3⟩
    have hEr : Hid (∀ er, r = .error er → 0 < er.2) := ⟨fun er h => tN_err p g 8 x 0 m er (by rw [hT, h])⟩
    have hfinH := Hid.mk hfin
    rw [hr] at hQH
    have e0 := hbY.2.1 0 (by simp)
    have e1 := hbY.2.1 1 (by simp)
    have e2 := hbY.2.1 2 (by simp)
    have e3 := hbY.2.1 3 (by simp)
    have e4 := hbY.2.1 4 (by simp)
    clear hfin hT hr hLk
    cases r with
    | error er =>
      have he := hEr.out er rfl
      have he' : ((er.2 : Int) != 0) = true := by simp; omega
      have hN2 : Calls Tryz.prog 83 #[.pointer (some ⟨lb, 0, none⟩), .agg #[.int .i64 x.op, .int .i64 x.num, .int .i64 x.den, .int .i64 x.mode, .slice ax x.args.len cx]] Y (fun e W' => e = .returned (.tuple #[.agg #[.int .i64 0, .int .i64 0], .int .i64 (er.2 : Int)]) ∧ ∃ pv3, LkS p (scG p a3 a4 a5 a6 a7 c3 c4 c5 c6 c7 g) lb s W' m er.1 pv3 ∧ Fr lb Y (.slice none 0 0) W' pv3) := hN
      clear hN
      go_wp2_with (go_at_call 83; refine hN2.mono ?_; clear hN2; rintro e w3 ⟨rfl, pv3, hL3, hF3⟩)
      have hB3 : Below w3.heap.size w3 (w3.alloc (.cells #[.int .i64 0, .int .i64 0] 163)).drew := ((Below.refl _ _).alloc (Nat.le_refl _) _).drew
      have q10 := (hL3.bel hB3).c10
      obtain ⟨f1, f2⟩ := hfinH.out w3 pv3 _ hL3 hF3 hB3
      obtain ⟨pa, pcap, rfl, -, -⟩ := own_int hL3.own
      have hff : QQ (.returned (.tuple #[.int .i64 0, .int .i64 (-1), .slice pa er.1.length pcap, .int .i64 (er.2 : Int)])) (w3.alloc (.cells #[.int .i64 0, .int .i64 0] 163)).drew := by
        rw [← hQH.out]
        exact ⟨f1, _, rfl, f2⟩
      clear f1 f2
      go_region
      go_wp2
      exact bodyPost_ret (v := .tuple #[.int .i64 0, .int .i64 (-1), .slice pa er.1.length pcap, .int .i64 (er.2 : Int)]) (by simp [results, Tryz.results62, go_sem]) rfl hff
    | ok k =>
      have hN2 : Calls Tryz.prog 83 #[.pointer (some ⟨lb, 0, none⟩), .agg #[.int .i64 x.op, .int .i64 x.num, .int .i64 x.den, .int .i64 x.mode, .slice ax x.args.len cx]] Y (fun e W' => e = .returned (.tuple #[.agg #[.int .i64 k.1, .int .i64 k.2], .int .i64 0]) ∧ ∃ pv3, LkS p (scG p a3 a4 a5 a6 a7 c3 c4 c5 c6 c7 g) lb s W' m [] pv3 ∧ Fr lb Y (.slice none 0 0) W' pv3) := hN
      clear hN
      go_wp2_with (go_at_call 83; refine hN2.mono ?_; clear hN2; rintro e w3 ⟨rfl, pv3, hL3, hF3⟩)
      have hB3 : Below w3.heap.size w3 (w3.alloc (.cells #[.int .i64 k.1, .int .i64 k.2] 163)).drew := ((Below.refl _ _).alloc (Nat.le_refl _) _).drew
      obtain ⟨f1, -⟩ := hfinH.out w3 pv3 _ hL3 hF3 hB3
      have hff : QQ (.returned (.tuple #[.int .i64 k.1, .int .i64 k.2, .slice none 0 0, .int .i64 0])) (w3.alloc (.cells #[.int .i64 k.1, .int .i64 k.2] 163)).drew := by
        rw [← hQH.out]
        exact ⟨f1, rfl⟩
      clear f1
      go_region
      go_wp2
      exact bodyPost_ret (v := .tuple #[.int .i64 k.1, .int .i64 k.2, .slice none 0 0, .int .i64 0]) (by simp [results, Tryz.results62, go_sem]) rfl hff
  · have hops1 : OpsAt w1 (W2.heap.size + 1) := by simpa using hops
    have hops2 : OpsAt X11 (W2.heap.size + 1) := hops1.kept (fun b h1 h2 => hfr11.blk b (by have := hops1.1; omega) (by omega) (by intro e; cases e)) hfr11.size
    have hLk := lks_new (g := g) (s := W2.heap.size + 1) hp (bthr hB2 hbX11 (Nat.le_refl _)) hB2.size hk11 hops2 (.inr (Nat.lt_succ_self _))
    have hBY := bthr hB2 hbX11 (Nat.le_refl _)
    have hbY := hbe.bel hbX11 hbe.1
    have hlbW := hB2.size
    clear hSa hSc hS0 hS1 hops hops1 hops2 hop0 hkz hkz2 hk11 hbX11 hfr11 kg0 kh0 hx0 kg1 kh1 hx1 kg2 kh2 hx2 kg3 kh3 hx3 kg4 kh4 hx4 kg5 kh5 hx5 kg6 kh6 hx6 kg7 kh7 hx7 kg8 kh8 hx8 kg9 kh9 hx9 kg10 kh10 hx10
    obtain ⟨Y, hY⟩ : ∃ Y, Y = X11 := ⟨_, rfl⟩
    rw [← hY] at hLk hBY hbY ⊢
    obtain ⟨s, hs⟩ : ∃ s, s = W2.heap.size + 1 := ⟨_, rfl⟩
    rw [← hs] at hLk ⊢
    obtain ⟨lb, hlb⟩ : ∃ lb, lb = W2.heap.size := ⟨_, rfl⟩
    rw [← hlb] at hLk hlbW ⊢
    clear hY hlb hs hb1 hb2
    have hN := node_any p g a3 a4 a5 a6 a7 c3 c4 c5 c6 c7 lb s 8 x ax cx Y 0 [] (.slice none 0 0) hLk (by decide) rfl hz (FoAt.fr hBY.size (fun b _ hlt => hBY.block b hlt) _ _ (FoAt.mo (fun b hb _ => Nat.lt_of_lt_of_le hb hlbW) _ _ hx))
    have hT : ∃ m r, tN p g 8 x 0 = (m, r) := ⟨_, _, rfl⟩
    obtain ⟨m, r, hT⟩ := hT
    rw [hT] at hN
    simp only at hN
    have hr : tType p g x = r := by unfold tType; rw [hT]
    have hfin : ∀ w3 pv3 Z, LkS p (scG p a3 a4 a5 a6 a7 c3 c4 c5 c6 c7 g) lb s w3 m (pathAf [] r) pv3 → Fr lb Y (.slice none 0 0) w3 pv3 → Below w3.heap.size w3 Z → Below W.heap.size W Z ∧ Z.ownsRow W.heap.size 3 1 pv3 (pathAf [] r).length (ptC (pathAf [] r)) := fun w3 pv3 Z g1 g2 g3 => by
      have h3 : Below W.heap.size W w3 := hBY.trans (g2.below hlbW hBY.size (fun q hq => by cases hq))
      exact ⟨bthr h3 g3 (Nat.le_refl _), own_bel (own_base g1.own (Nat.le_trans hlbW (Nat.le_trans (Nat.le_succ _) (pB_lb lb s)))) g3⟩
    have hEr : Hid (∀ er, r = .error er → 0 < er.2) := ⟨fun er h => tN_err p g 8 x 0 m er (by rw [hT, h])⟩
    have hfinH := Hid.mk hfin
    rw [hr] at hQH
    have e0 := hbY.2.1 0 (by simp)
    have e1 := hbY.2.1 1 (by simp)
    have e2 := hbY.2.1 2 (by simp)
    have e3 := hbY.2.1 3 (by simp)
    have e4 := hbY.2.1 4 (by simp)
    clear hfin hT hr hLk
    cases r with
    | error er =>
      have he := hEr.out er rfl
      have he' : ((er.2 : Int) != 0) = true := by simp; omega
      have hN2 : Calls Tryz.prog 83 #[.pointer (some ⟨lb, 0, none⟩), .agg #[.int .i64 x.op, .int .i64 x.num, .int .i64 x.den, .int .i64 x.mode, .slice ax x.args.len cx]] Y (fun e W' => e = .returned (.tuple #[.agg #[.int .i64 0, .int .i64 0], .int .i64 (er.2 : Int)]) ∧ ∃ pv3, LkS p (scG p a3 a4 a5 a6 a7 c3 c4 c5 c6 c7 g) lb s W' m er.1 pv3 ∧ Fr lb Y (.slice none 0 0) W' pv3) := hN
      clear hN
      go_wp2_with (go_at_call 83; refine hN2.mono ?_; clear hN2; rintro e w3 ⟨rfl, pv3, hL3, hF3⟩)
      have hB3 : Below w3.heap.size w3 (w3.alloc (.cells #[.int .i64 0, .int .i64 0] 163)).drew := ((Below.refl _ _).alloc (Nat.le_refl _) _).drew
      have q10 := (hL3.bel hB3).c10
      obtain ⟨f1, f2⟩ := hfinH.out w3 pv3 _ hL3 hF3 hB3
      obtain ⟨pa, pcap, rfl, -, -⟩ := own_int hL3.own
      have hff : QQ (.returned (.tuple #[.int .i64 0, .int .i64 (-1), .slice pa er.1.length pcap, .int .i64 (er.2 : Int)])) (w3.alloc (.cells #[.int .i64 0, .int .i64 0] 163)).drew := by
        rw [← hQH.out]
        exact ⟨f1, _, rfl, f2⟩
      clear f1 f2
      go_region
      go_wp2
      exact bodyPost_ret (v := .tuple #[.int .i64 0, .int .i64 (-1), .slice pa er.1.length pcap, .int .i64 (er.2 : Int)]) (by simp [results, Tryz.results62, go_sem]) rfl hff
    | ok k =>
      have hN2 : Calls Tryz.prog 83 #[.pointer (some ⟨lb, 0, none⟩), .agg #[.int .i64 x.op, .int .i64 x.num, .int .i64 x.den, .int .i64 x.mode, .slice ax x.args.len cx]] Y (fun e W' => e = .returned (.tuple #[.agg #[.int .i64 k.1, .int .i64 k.2], .int .i64 0]) ∧ ∃ pv3, LkS p (scG p a3 a4 a5 a6 a7 c3 c4 c5 c6 c7 g) lb s W' m [] pv3 ∧ Fr lb Y (.slice none 0 0) W' pv3) := hN
      clear hN
      go_wp2_with (go_at_call 83; refine hN2.mono ?_; clear hN2; rintro e w3 ⟨rfl, pv3, hL3, hF3⟩)
      have hB3 : Below w3.heap.size w3 (w3.alloc (.cells #[.int .i64 k.1, .int .i64 k.2] 163)).drew := ((Below.refl _ _).alloc (Nat.le_refl _) _).drew
      obtain ⟨f1, -⟩ := hfinH.out w3 pv3 _ hL3 hF3 hB3
      have hff : QQ (.returned (.tuple #[.int .i64 k.1, .int .i64 k.2, .slice none 0 0, .int .i64 0])) (w3.alloc (.cells #[.int .i64 k.1, .int .i64 k.2] 163)).drew := by
        rw [← hQH.out]
        exact ⟨f1, rfl⟩
      clear f1
      go_region
      go_wp2
      exact bodyPost_ret (v := .tuple #[.int .i64 k.1, .int .i64 k.2, .slice none 0 0, .int .i64 0]) (by simp [results, Tryz.results62, go_sem]) rfl hff
end Go.Proofs.YthnmjafoplfikaaGreatDoor
