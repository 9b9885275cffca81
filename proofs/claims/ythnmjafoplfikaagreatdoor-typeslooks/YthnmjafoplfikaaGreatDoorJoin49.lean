import Derived.Test.YthnmjafoplfikaaGreatDoorJoin45
import Derived.Test.YthnmjafoplfikaaGreatDoorJoin43
import Derived.Test.YthnmjafoplfikaaGreatDoorJoin48
import Derived.Test.YthnmjafoplfikaaGreatDoorTurnYCq
namespace Go.Proofs.YthnmjafoplfikaaGreatDoor
open Go.RowKit

def szL (p : Pk) : List (Int × Int × Int × Int) := [(2, (p.opts.length : Int), 0, 4), (3, (p.tabs.length : Int), 0, 4), (4, (p.grps.length : Int), 0, 4), (5, (p.lns.length : Int), 1, 48), (6, (p.cks.length : Int), 0, 16)]
def szG : List (Int × Int × Int × Int) → Option (Sp × Nat)
  | [] => none
  | y :: r => if y.2.1 < y.2.2.1 ∨ y.2.2.2 < y.2.1 then some (⟨y.1, 0, -1, []⟩, 60) else szG r
theorem szF_eq (p : Pk) : szF p = szG (szL p) := by
  unfold szF szL
  simp only [szG]
  have e : ∀ (c d : Prop) [Decidable c] [Decidable d] (x y : Option (Sp × Nat)), (c ↔ d) → (if c then x else y) = (if d then x else y) := fun c d _ _ x y h => by by_cases hc : c; rw [if_pos hc, if_pos (h.1 hc)]; rw [if_neg hc, if_neg (fun h2 => hc (h.2 h2))]
  rw [e (4 < p.opts.length) ((p.opts.length : Int) < 0 ∨ 4 < (p.opts.length : Int)) _ _ (by omega), e (4 < p.tabs.length) ((p.tabs.length : Int) < 0 ∨ 4 < (p.tabs.length : Int)) _ _ (by omega), e (4 < p.grps.length) ((p.grps.length : Int) < 0 ∨ 4 < (p.grps.length : Int)) _ _ (by omega), e (p.lns.length < 1 ∨ 48 < p.lns.length) ((p.lns.length : Int) < 1 ∨ 48 < (p.lns.length : Int)) _ _ (by omega), e (16 < p.cks.length) ((p.cks.length : Int) < 0 ∨ 16 < (p.cks.length : Int)) _ _ (by omega)]
  rfl
theorem sz_step (l : List (Int × Int × Int × Int)) {i : Nat} (h : i < l.length) : szG (l.drop i) = (if l[i].2.1 < l[i].2.2.1 ∨ l[i].2.2.2 < l[i].2.1 then some (⟨l[i].1, 0, -1, []⟩, 60) else szG (l.drop (i + 1))) := by
  rw [List.drop_eq_getElem_cons h]
  rfl
set_option maxRecDepth 20000 in
set_option maxHeartbeats 2000000 in
theorem sizP_any (p : Pk) (a3 a4 a5 a6 a7 : Option Addr) (c3 c4 c5 c6 c7 : Nat) (cb s : Nat) (W : World) (seen : Sn) (sv : Value) (h : CkS p (scP p a3 a4 a5 a6 a7 c3 c4 c5 c6 c7) cb s W seen sv) : Calls Tryz.prog 73 #[.pointer (some ⟨cb, 0, none⟩)] W (PtP p (scP p a3 a4 a5 a6 a7 c3 c4 c5 c6 c7) cb s sv (seen, szF p) W) := by
  have hcb := h.lt
  obtain ⟨W1, hW1⟩ : ∃ W1, W1 = W.alloc (.cells #[.int .i64 0, .int .i64 0, .int .i64 0, .slice none 0 0] 105) := ⟨_, rfl⟩
  have hB1 : Below W.heap.size W W1 := by rw [hW1]; exact (Below.refl _ _).alloc (Nat.le_refl _) _
  have hbz : Bx W1 W.heap.size [.int .i64 0, .int .i64 0, .int .i64 0, .slice none 0 0] := by rw [hW1]; exact bx_new _ _ _
  have hk1 := h.bel hB1
  have hrb3 : some W.heap.size ≠ sv.ownBlock := fun e => by
    have := (h.pg _ e.symm).2
    omega
  have hrb1 : cb + 1 ≤ W.heap.size := hcb
  have hrb2 : W.heap.size ≤ W.heap.size := Nat.le_refl _
  obtain ⟨R, hR⟩ : ∃ R, szF p = R := ⟨_, rfl⟩
  rw [hR]
  obtain ⟨QQ, hQQ⟩ : ∃ QQ, PtP p (scP p a3 a4 a5 a6 a7 c3 c4 c5 c6 c7) cb s sv (seen, R) W = QQ := ⟨_, rfl⟩
  rw [hQQ]
  have hQH := Hid.mk hQQ
  have hW1H := Hid.mk hW1
  obtain ⟨q0, q1, q2, q3, q4, q5, q6⟩ := h.cells
  have hSt : Hid (∀ w, Below W1.heap.size W1 w → Bx w W.heap.size [.int .i64 0, .int .i64 0, .int .i64 0, .slice none 0 0] ∧ (CkS p (scP p a3 a4 a5 a6 a7 c3 c4 c5 c6 c7) cb s w seen sv ∧ Fr cb W sv w sv)) := ⟨fun w hw => ⟨hbz.bel hw hbz.1, hk1.bel hw, (Fr.bel hB1 _).trans (Fr.bel hw _)⟩⟩
  clear hQQ
  rw [szF_eq] at hR
  have hst : Hid (szG ((szL p).drop 0) = R) := ⟨by rw [List.drop_zero]; exact hR⟩
  have hlen : (szL p).length = 5 := rfl
  obtain ⟨W3, hW3⟩ : ∃ W3, W3 = (W1.alloc (.cells #[.string ⟨p.name.toArray⟩, .int .i64 p.year, .slice a3 p.opts.length c3, .slice a4 p.tabs.length c4, .slice a5 p.grps.length c5, .slice a6 p.lns.length c6, .slice a7 p.cks.length c7] 28)).alloc (.cells #[.int .i64 2, .int .i64 (p.opts.length : Int), .int .i64 0, .int .i64 4, .int .i64 3, .int .i64 (p.tabs.length : Int), .int .i64 0, .int .i64 4, .int .i64 4, .int .i64 (p.grps.length : Int), .int .i64 0, .int .i64 4, .int .i64 5, .int .i64 (p.lns.length : Int), .int .i64 1, .int .i64 48, .int .i64 6, .int .i64 (p.cks.length : Int), .int .i64 0, .int .i64 16] 180) := ⟨_, rfl⟩
  have hB3 : Below W1.heap.size W1 W3 := by rw [hW3]; exact ((Below.refl _ _).alloc (Nat.le_refl _) _).alloc (by simp) _
  have hs1 : W1.heap.size = W.heap.size + 1 := by rw [hW1H.out]; simp
  have hb20 : Bx W3 (W.heap.size + 1 + 1) [.int .i64 2, .int .i64 (p.opts.length : Int), .int .i64 0, .int .i64 4, .int .i64 3, .int .i64 (p.tabs.length : Int), .int .i64 0, .int .i64 4, .int .i64 4, .int .i64 (p.grps.length : Int), .int .i64 0, .int .i64 4, .int .i64 5, .int .i64 (p.lns.length : Int), .int .i64 1, .int .i64 48, .int .i64 6, .int .i64 (p.cks.length : Int), .int .i64 0, .int .i64 16] := by
    have := bx_new (W1.alloc (.cells #[.string ⟨p.name.toArray⟩, .int .i64 p.year, .slice a3 p.opts.length c3, .slice a4 p.tabs.length c4, .slice a5 p.grps.length c5, .slice a6 p.lns.length c6, .slice a7 p.cks.length c7] 28)) #[.int .i64 2, .int .i64 (p.opts.length : Int), .int .i64 0, .int .i64 4, .int .i64 3, .int .i64 (p.tabs.length : Int), .int .i64 0, .int .i64 4, .int .i64 4, .int .i64 (p.grps.length : Int), .int .i64 0, .int .i64 4, .int .i64 5, .int .i64 (p.lns.length : Int), .int .i64 1, .int .i64 48, .int .i64 6, .int .i64 (p.cks.length : Int), .int .i64 0, .int .i64 16] 180
    rw [show (W1.alloc (.cells #[.string ⟨p.name.toArray⟩, .int .i64 p.year, .slice a3 p.opts.length c3, .slice a4 p.tabs.length c4, .slice a5 p.grps.length c5, .slice a6 p.lns.length c6, .slice a7 p.cks.length c7] 28)).heap.size = W.heap.size + 1 + 1 by simp [hs1], ← hW3] at this
    exact this
  have hcell : ∀ i (h : i < (szL p).length), W3.cell? ⟨W.heap.size + 1 + 1, i * 4, none⟩ = some (.int .i64 ((szL p)[i]).1) ∧ W3.cell? ⟨W.heap.size + 1 + 1, i * 4 + 1, none⟩ = some (.int .i64 ((szL p)[i]).2.1) ∧ W3.cell? ⟨W.heap.size + 1 + 1, i * 4 + 2, none⟩ = some (.int .i64 ((szL p)[i]).2.2.1) ∧ W3.cell? ⟨W.heap.size + 1 + 1, i * 4 + 3, none⟩ = some (.int .i64 ((szL p)[i]).2.2.2) := fun i h => by
    rw [hlen] at h
    rcases (show i = 0 ∨ i = 1 ∨ i = 2 ∨ i = 3 ∨ i = 4 by omega) with rfl | rfl | rfl | rfl | rfl
    · exact ⟨hb20.2.1 0 (by simp), hb20.2.1 1 (by simp), hb20.2.1 2 (by simp), hb20.2.1 3 (by simp)⟩
    · exact ⟨hb20.2.1 4 (by simp), hb20.2.1 5 (by simp), hb20.2.1 6 (by simp), hb20.2.1 7 (by simp)⟩
    · exact ⟨hb20.2.1 8 (by simp), hb20.2.1 9 (by simp), hb20.2.1 10 (by simp), hb20.2.1 11 (by simp)⟩
    · exact ⟨hb20.2.1 12 (by simp), hb20.2.1 13 (by simp), hb20.2.1 14 (by simp), hb20.2.1 15 (by simp)⟩
    · exact ⟨hb20.2.1 16 (by simp), hb20.2.1 17 (by simp), hb20.2.1 18 (by simp), hb20.2.1 19 (by simp)⟩
  have hcH := Hid.mk hcell
  have hlt3 : W.heap.size + 1 + 1 < W3.heap.size := hb20.1
  have hW3H : Hid (W3 = (W1.alloc (.cells #[.string ⟨p.name.toArray⟩, .int .i64 p.year, .slice a3 p.opts.length c3, .slice a4 p.tabs.length c4, .slice a5 p.grps.length c5, .slice a6 p.lns.length c6, .slice a7 p.cks.length c7] 28)).alloc (.cells #[.int .i64 2, .int .i64 (p.opts.length : Int), .int .i64 0, .int .i64 4, .int .i64 3, .int .i64 (p.tabs.length : Int), .int .i64 0, .int .i64 4, .int .i64 4, .int .i64 (p.grps.length : Int), .int .i64 0, .int .i64 4, .int .i64 5, .int .i64 (p.lns.length : Int), .int .i64 1, .int .i64 48, .int .i64 6, .int .i64 (p.cks.length : Int), .int .i64 0, .int .i64 16] 180)) := ⟨hW3⟩
  clear hR hcell hb20 hW3 hk1 hbz hs1 hlen
  go_enter Tryz.func73, Tryz.ntmps73
  go_wp2
  rw [← hW1H.out, ← hW3H.out]
  go_loopw [33] (fun iv wr => ∃ i : Nat, iv = .int .i64 (i : Int) ∧ i ≤ 5 ∧ Below W3.heap.size W3 wr ∧ Hid (szG ((szL p).drop i) = R)) (fun iv _ => 5 - (intOf iv).toNat)
  case atStart => exact ⟨0, rfl, by decide, Below.refl _ _, hst⟩
  case round =>
    obtain ⟨i, rfl, hi, hBr, hinv⟩ := hrel
    obtain ⟨hbr3, hk_st⟩ := hSt.out wr (bthr hB3 hBr (Nat.le_refl _))
    by_cases hlt : i < 5
    · have hlt' : (i : Int) < 5 := by omega
      have hi0 : (0 : Int) ≤ (i : Int) := by omega
      have hlt2 : i < (szL p).length := hlt
      obtain ⟨d0, d1, d2, d3⟩ := hcH.out i hlt2
      have e0 := (bel_cell hBr hlt3 (i * 4)).trans d0
      have e1 := (bel_cell hBr hlt3 (i * 4 + 1)).trans d1
      have e2 := (bel_cell hBr hlt3 (i * 4 + 2)).trans d2
      have e3 := (bel_cell hBr hlt3 (i * 4 + 3)).trans d3
      have hltr : W.heap.size + 1 + 1 < wr.heap.size := Nat.lt_of_lt_of_le hlt3 hBr.size
      have hinv2 := hinv.out
      rw [sz_step _ hlt2] at hinv2
      generalize (szL p)[i] = y at e0 e1 e2 e3 hinv2
      clear d0 d1 d2 d3 hinv
      by_cases h1 : y.2.1 < y.2.2.1
      · rw [if_pos (.inl h1)] at hinv2
        have hRH := Hid.mk hinv2.symm
        clear hinv2
        have hq0 := hbr3
        have kg0 : wr.cell? ⟨W.heap.size, 0, none⟩ = some (.int .i64 0) := hq0.2.1 0 (by simp)
        have kh0 := hq0.2.2 0; have kl0 := hq0.1
        obtain ⟨X1, hx0⟩ : ∃ X1, wr.setCell ⟨W.heap.size, 0, none⟩ (.int .i64 y.1) = X1 := ⟨_, rfl⟩
        have hq1 : Bx X1 W.heap.size [(.int .i64 y.1), (.int .i64 0), (.int .i64 0), (.slice none 0 0)] := (by rw [← hx0]; exact hq0.set 0 (.int .i64 y.1))
        have kg1 : X1.cell? ⟨W.heap.size, 1, none⟩ = some (.int .i64 0) := hq1.2.1 1 (by simp)
        have kh1 := hq1.2.2 1; have kl1 := hq1.1
        obtain ⟨X2, hx1⟩ : ∃ X2, X1.setCell ⟨W.heap.size, 1, none⟩ (.int .i64 0) = X2 := ⟨_, rfl⟩
        have hq2 : Bx X2 W.heap.size [(.int .i64 y.1), (.int .i64 0), (.int .i64 0), (.slice none 0 0)] := (by rw [← hx1]; exact hq1.set 1 (.int .i64 0))
        have kg2 : X2.cell? ⟨W.heap.size, 2, none⟩ = some (.int .i64 0) := hq2.2.1 2 (by simp)
        have kh2 := hq2.2.2 2; have kl2 := hq2.1
        obtain ⟨X3, hx2⟩ : ∃ X3, X2.setCell ⟨W.heap.size, 2, none⟩ (.int .i64 (-1)) = X3 := ⟨_, rfl⟩
        have hq3 : Bx X3 W.heap.size [(.int .i64 y.1), (.int .i64 0), (.int .i64 (-1)), (.slice none 0 0)] := (by rw [← hx2]; exact hq2.set 2 (.int .i64 (-1)))
        have kg3 : X3.cell? ⟨W.heap.size, 3, none⟩ = some (.slice none 0 0) := hq3.2.1 3 (by simp)
        have kh3 := hq3.2.2 3; have kl3 := hq3.1
        obtain ⟨X4, hx3⟩ : ∃ X4, X3.setCell ⟨W.heap.size, 3, none⟩ (.slice none 0 0) = X4 := ⟨_, rfl⟩
        have hq4 : Bx X4 W.heap.size [(.int .i64 y.1), (.int .i64 0), (.int .i64 (-1)), (.slice none 0 0)] := (by rw [← hx3]; exact hq3.set 3 (.slice none 0 0))
        have ht0 := hk_st
        have ht1 : CkS p (scP p a3 a4 a5 a6 a7 c3 c4 c5 c6 c7) cb s X1 seen sv ∧ Fr cb W sv X1 sv := (by rw [← hx0]; exact ck_set ht0 hrb1 hrb2 hrb3 0 (.int .i64 y.1))
        have ht2 : CkS p (scP p a3 a4 a5 a6 a7 c3 c4 c5 c6 c7) cb s X2 seen sv ∧ Fr cb W sv X2 sv := (by rw [← hx1]; exact ck_set ht1 hrb1 hrb2 hrb3 1 (.int .i64 0))
        have ht3 : CkS p (scP p a3 a4 a5 a6 a7 c3 c4 c5 c6 c7) cb s X3 seen sv ∧ Fr cb W sv X3 sv := (by rw [← hx2]; exact ck_set ht2 hrb1 hrb2 hrb3 2 (.int .i64 (-1)))
        have ht4 : CkS p (scP p a3 a4 a5 a6 a7 c3 c4 c5 c6 c7) cb s X4 seen sv ∧ Fr cb W sv X4 sv := (by rw [← hx3]; exact ck_set ht3 hrb1 hrb2 hrb3 3 (.slice none 0 0))
        have hB5 : Below X4.heap.size X4 ((X4.alloc (.cells #[.int .i64 y.1, .int .i64 y.2.1, .int .i64 y.2.2.1, .int .i64 y.2.2.2] 180)).alloc (.cells #[.int .i64 y.1, .int .i64 0, .int .i64 (-1), .slice none 0 0] 105)) := (((Below.refl X4.heap.size X4).alloc (Nat.le_refl _) _).alloc (by simp) _)
        have hff : QQ (.returned (.tuple #[.agg #[.int .i64 y.1, .int .i64 0, .int .i64 (-1), .slice none 0 0], .int .i64 60])) ((X4.alloc (.cells #[.int .i64 y.1, .int .i64 y.2.1, .int .i64 y.2.2.1, .int .i64 y.2.2.2] 180)).alloc (.cells #[.int .i64 y.1, .int .i64 0, .int .i64 (-1), .slice none 0 0] 105)) := by
          rw [← hQH.out, hRH.out]
          exact ⟨rfl, sv, ht4.1.bel hB5, ht4.2.trans (Fr.bel hB5 _)⟩
        have hq5 := hq4.bel hB5 hq4.1
        have f0 := hq5.2.1 0 (by simp)
        have f1 := hq5.2.1 1 (by simp)
        have f2 := hq5.2.1 2 (by simp)
        have f3 := hq5.2.1 3 (by simp)
        have l4 := hq4.1
        clear hq0 hq1 hq2 hq3 hq4 hq5 ht0 ht1 ht2 ht3 ht4 hk_st hbr3
        go_wp2_with (go_at_call 96; refine (itemAt_any _ _ _).mono ?_; rintro e w9 ⟨rfl, rfl⟩)
        exact bodyPost_ret (v := .tuple #[.agg #[.int .i64 y.1, .int .i64 0, .int .i64 (-1), .slice none 0 0], .int .i64 60]) (by simp [results, Tryz.results73, go_sem, f0, f1, f2, f3]) rfl hff
      · by_cases h2 : y.2.2.2 < y.2.1
        · rw [if_pos (.inr h2)] at hinv2
          have hRH := Hid.mk hinv2.symm
          clear hinv2
          have hq0 := hbr3
          have kg0 : wr.cell? ⟨W.heap.size, 0, none⟩ = some (.int .i64 0) := hq0.2.1 0 (by simp)
          have kh0 := hq0.2.2 0; have kl0 := hq0.1
          obtain ⟨X1, hx0⟩ : ∃ X1, wr.setCell ⟨W.heap.size, 0, none⟩ (.int .i64 y.1) = X1 := ⟨_, rfl⟩
          have hq1 : Bx X1 W.heap.size [(.int .i64 y.1), (.int .i64 0), (.int .i64 0), (.slice none 0 0)] := (by rw [← hx0]; exact hq0.set 0 (.int .i64 y.1))
          have kg1 : X1.cell? ⟨W.heap.size, 1, none⟩ = some (.int .i64 0) := hq1.2.1 1 (by simp)
          have kh1 := hq1.2.2 1; have kl1 := hq1.1
          obtain ⟨X2, hx1⟩ : ∃ X2, X1.setCell ⟨W.heap.size, 1, none⟩ (.int .i64 0) = X2 := ⟨_, rfl⟩
          have hq2 : Bx X2 W.heap.size [(.int .i64 y.1), (.int .i64 0), (.int .i64 0), (.slice none 0 0)] := (by rw [← hx1]; exact hq1.set 1 (.int .i64 0))
          have kg2 : X2.cell? ⟨W.heap.size, 2, none⟩ = some (.int .i64 0) := hq2.2.1 2 (by simp)
          have kh2 := hq2.2.2 2; have kl2 := hq2.1
          obtain ⟨X3, hx2⟩ : ∃ X3, X2.setCell ⟨W.heap.size, 2, none⟩ (.int .i64 (-1)) = X3 := ⟨_, rfl⟩
          have hq3 : Bx X3 W.heap.size [(.int .i64 y.1), (.int .i64 0), (.int .i64 (-1)), (.slice none 0 0)] := (by rw [← hx2]; exact hq2.set 2 (.int .i64 (-1)))
          have kg3 : X3.cell? ⟨W.heap.size, 3, none⟩ = some (.slice none 0 0) := hq3.2.1 3 (by simp)
          have kh3 := hq3.2.2 3; have kl3 := hq3.1
          obtain ⟨X4, hx3⟩ : ∃ X4, X3.setCell ⟨W.heap.size, 3, none⟩ (.slice none 0 0) = X4 := ⟨_, rfl⟩
          have hq4 : Bx X4 W.heap.size [(.int .i64 y.1), (.int .i64 0), (.int .i64 (-1)), (.slice none 0 0)] := (by rw [← hx3]; exact hq3.set 3 (.slice none 0 0))
          have ht0 := hk_st
          have ht1 : CkS p (scP p a3 a4 a5 a6 a7 c3 c4 c5 c6 c7) cb s X1 seen sv ∧ Fr cb W sv X1 sv := (by rw [← hx0]; exact ck_set ht0 hrb1 hrb2 hrb3 0 (.int .i64 y.1))
          have ht2 : CkS p (scP p a3 a4 a5 a6 a7 c3 c4 c5 c6 c7) cb s X2 seen sv ∧ Fr cb W sv X2 sv := (by rw [← hx1]; exact ck_set ht1 hrb1 hrb2 hrb3 1 (.int .i64 0))
          have ht3 : CkS p (scP p a3 a4 a5 a6 a7 c3 c4 c5 c6 c7) cb s X3 seen sv ∧ Fr cb W sv X3 sv := (by rw [← hx2]; exact ck_set ht2 hrb1 hrb2 hrb3 2 (.int .i64 (-1)))
          have ht4 : CkS p (scP p a3 a4 a5 a6 a7 c3 c4 c5 c6 c7) cb s X4 seen sv ∧ Fr cb W sv X4 sv := (by rw [← hx3]; exact ck_set ht3 hrb1 hrb2 hrb3 3 (.slice none 0 0))
          have hB5 : Below X4.heap.size X4 ((X4.alloc (.cells #[.int .i64 y.1, .int .i64 y.2.1, .int .i64 y.2.2.1, .int .i64 y.2.2.2] 180)).alloc (.cells #[.int .i64 y.1, .int .i64 0, .int .i64 (-1), .slice none 0 0] 105)) := (((Below.refl X4.heap.size X4).alloc (Nat.le_refl _) _).alloc (by simp) _)
          have hff : QQ (.returned (.tuple #[.agg #[.int .i64 y.1, .int .i64 0, .int .i64 (-1), .slice none 0 0], .int .i64 60])) ((X4.alloc (.cells #[.int .i64 y.1, .int .i64 y.2.1, .int .i64 y.2.2.1, .int .i64 y.2.2.2] 180)).alloc (.cells #[.int .i64 y.1, .int .i64 0, .int .i64 (-1), .slice none 0 0] 105)) := by
            rw [← hQH.out, hRH.out]
            exact ⟨rfl, sv, ht4.1.bel hB5, ht4.2.trans (Fr.bel hB5 _)⟩
          have hq5 := hq4.bel hB5 hq4.1
          have f0 := hq5.2.1 0 (by simp)
          have f1 := hq5.2.1 1 (by simp)
          have f2 := hq5.2.1 2 (by simp)
          have f3 := hq5.2.1 3 (by simp)
          have l4 := hq4.1
          clear hq0 hq1 hq2 hq3 hq4 hq5 ht0 ht1 ht2 ht3 ht4 hk_st hbr3
          go_wp2_with (go_at_call 96; refine (itemAt_any _ _ _).mono ?_; rintro e w9 ⟨rfl, rfl⟩)
          exact bodyPost_ret (v := .tuple #[.agg #[.int .i64 y.1, .int .i64 0, .int .i64 (-1), .slice none 0 0], .int .i64 60]) (by simp [results, Tryz.results73, go_sem, f0, f1, f2, f3]) rfl hff
        · rw [if_neg (fun h => h.elim h1 h2)] at hinv2
          have hs2 := Hid.mk hinv2
          have hal : Below W3.heap.size W3 (wr.alloc (.cells #[.int .i64 y.1, .int .i64 y.2.1, .int .i64 y.2.2.1, .int .i64 y.2.2.2] 180)) := hBr.alloc hBr.size _
          clear hinv2 hbr3 hk_st
          go_wp2
          exact ⟨⟨i + 1, rfl, hlt, hal, hs2⟩, by simp only [intOf]; omega⟩
    · have hlt' : ¬ (i : Int) < 5 := by omega
      have hri := hinv.out
      rw [List.drop_eq_nil_of_le (by show (szL p).length ≤ i; have : (szL p).length = 5 := rfl; omega)] at hri
      have hRH := Hid.mk hri.symm
      clear hri hinv
      have hff : QQ (.returned (.tuple #[.agg #[.int .i64 0, .int .i64 0, .int .i64 0, .slice none 0 0], .int .i64 0])) wr := by
        rw [← hQH.out, hRH.out]
        exact ⟨rfl, sv, hk_st.1, hk_st.2⟩
      have f0 := hbr3.2.1 0 (by simp)
      have z0 := hbr3.2.2 0
      have f1 := hbr3.2.1 1 (by simp)
      have z1 := hbr3.2.2 1
      have f2 := hbr3.2.1 2 (by simp)
      have z2 := hbr3.2.2 2
      have f3 := hbr3.2.1 3 (by simp)
      have z3 := hbr3.2.2 3
      have j0 := set_id f0
      have j1 := set_id f1
      have j2 := set_id f2
      have j3 := set_id f3
      clear hbr3 hk_st
      go_wp2
      exact bodyPost_ret (v := .tuple #[.agg #[.int .i64 0, .int .i64 0, .int .i64 0, .slice none 0 0], .int .i64 0]) (by simp at f0 f1 f2 f3; simp [results, Tryz.results73, go_sem, f0, f1, f2, f3]) rfl hff
end Go.Proofs.YthnmjafoplfikaaGreatDoor


namespace Go.Proofs.YthnmjafoplfikaaGreatDoor
open Go.RowKit

theorem rwF_b (g : List UInt8 × Int) : 0 ≤ rwF g ∧ rwF g ≤ 8 := by
  unfold rwF
  omega
theorem ceF_b (p : Pk) (g : Int) : 0 ≤ ceF p g ∧ ceF p g ≤ 8 := by
  unfold ceF
  split
  · exact rwF_b _
  · decide
set_option maxRecDepth 20000 in
set_option maxHeartbeats 1500000 in
theorem Cells_any (p : Pk) (a3 a4 a5 a6 a7 : Option Addr) (c3 c4 c5 c6 c7 : Nat) (W : World) (hR5 : RowR eG W AnyB p.grps a5) (hR6 : RowR eL W AnyB p.lns a6) (hR7 : RowR eK W AnyB p.cks a7) (h5 : p.grps.length ≤ 1000000) (h6 : p.lns.length ≤ 1000000) (h7 : p.cks.length ≤ 1000000) : Calls Tryz.prog 9 #[.agg #[.string ⟨p.name.toArray⟩, .int .i64 p.year, .slice a3 p.opts.length c3, .slice a4 p.tabs.length c4, .slice a5 p.grps.length c5, .slice a6 p.lns.length c6, .slice a7 p.cks.length c7]] W (Lk (.int .i64 (cesF p)) W) := by
  obtain ⟨T1, hT1e⟩ : ∃ T1, (p.lns.map (fun l => ceF p l.group)).sum = T1 := ⟨_, rfl⟩
  obtain ⟨T2, hT2e⟩ : ∃ T2, T1 + (p.cks.map (fun c => ceF p c.group)).sum = T2 := ⟨_, rfl⟩
  obtain ⟨T3, hT3e⟩ : ∃ T3, T2 + (p.grps.map rwF).sum = T3 := ⟨_, rfl⟩
  have hces : cesF p = T3 := by unfold cesF; rw [hT1e, hT2e, hT3e]
  rw [hces]
  have hT1 := Hid.mk hT2e
  have hT2 := Hid.mk hT3e
  have hT1z : (0 : Int) + (p.lns.map (fun l => ceF p l.group)).sum = T1 := by rw [hT1e, Int.zero_add]
  obtain ⟨W1, hW1⟩ : ∃ W1, W1 = W.alloc (.cells #[.string ⟨p.name.toArray⟩, .int .i64 p.year, .slice a3 p.opts.length c3, .slice a4 p.tabs.length c4, .slice a5 p.grps.length c5, .slice a6 p.lns.length c6, .slice a7 p.cks.length c7] 28) := ⟨_, rfl⟩
  have hB1 : Below W.heap.size W W1 := by rw [hW1]; exact (Below.refl _ _).alloc (Nat.le_refl _) _
  have hbp : Bx W1 W.heap.size (scP p a3 a4 a5 a6 a7 c3 c4 c5 c6 c7) := by rw [hW1]; exact bx_new _ _ _
  have hP : Hid (∀ w, Below W1.heap.size W1 w → w.cell? ⟨W.heap.size, 0, none⟩ = some (.string ⟨p.name.toArray⟩) ∧ w.cell? ⟨W.heap.size, 1, none⟩ = some (.int .i64 p.year) ∧ w.cell? ⟨W.heap.size, 2, none⟩ = some (.slice a3 p.opts.length c3) ∧ w.cell? ⟨W.heap.size, 3, none⟩ = some (.slice a4 p.tabs.length c4) ∧ w.cell? ⟨W.heap.size, 4, none⟩ = some (.slice a5 p.grps.length c5) ∧ w.cell? ⟨W.heap.size, 5, none⟩ = some (.slice a6 p.lns.length c6) ∧ w.cell? ⟨W.heap.size, 6, none⟩ = some (.slice a7 p.cks.length c7)) := ⟨fun w hw => by
    have h2 := hbp.bel hw hbp.1
    exact ⟨h2.2.1 0 (by simp), h2.2.1 1 (by simp), h2.2.1 2 (by simp), h2.2.1 3 (by simp), h2.2.1 4 (by simp), h2.2.1 5 (by simp), h2.2.1 6 (by simp)⟩⟩
  have hcin : Hid (∀ g X, Below W.heap.size W X → Calls Tryz.prog 31 #[.agg #[.string ⟨p.name.toArray⟩, .int .i64 p.year, .slice a3 p.opts.length c3, .slice a4 p.tabs.length c4, .slice a5 p.grps.length c5, .slice a6 p.lns.length c6, .slice a7 p.cks.length c7], .int .i64 g] X (Lk (.int .i64 (ceF p g)) X)) := ⟨fun g X hX => cellsIn_any p g a3 a4 a5 a6 a7 c3 c4 c5 c6 c7 X (row_bel hR5 hX (Nat.le_refl _))⟩
  have hW1H := Hid.mk hW1
  have h5' : (p.grps.length : Int) ≤ 1000000 := by omega
  have h6' : (p.lns.length : Int) ≤ 1000000 := by omega
  have h7' : (p.cks.length : Int) ≤ 1000000 := by omega
  clear hW1 hces hT1e hT2e hT3e
  subst hT1z
  go_enter Tryz.func9, Tryz.ntmps9
  go_wp2
  rw [← hW1H.out]
  clear hW1H
  go_loopw [3, 13] (fun nv iv wr => ∃ (i : Nat) (n : Int), nv = .int .i64 n ∧ iv = .int .i64 (i : Int) ∧ i ≤ p.lns.length ∧ Below W1.heap.size W1 wr ∧ 0 ≤ n ∧ n ≤ 0 + 8 * (i : Int) ∧ Hid (n + ((p.lns.drop i).map (fun l => ceF p l.group)).sum = (0 + (p.lns.map (fun l => ceF p l.group)).sum))) (fun _ iv _ => p.lns.length - (intOf iv).toNat)
  case atStart => exact ⟨0, 0, rfl, rfl, Nat.zero_le _, Below.refl _ _, Int.le_refl _, by omega, ⟨by rw [List.drop_zero]⟩⟩
  case round =>
    obtain ⟨i, n, rfl, rfl, hi, hBr, hn0, hn1, hinv⟩ := hrel
    obtain ⟨p0, p1, p2, p3, p4, p5, p6⟩ := hP.out wr hBr
    have hBw := bthr hB1 hBr (Nat.le_refl _)
    have hlr : W.heap.size < wr.heap.size := World.block_lt_of_cell? _ _ p0
    by_cases hlt : i < p.lns.length
    · have hlt' : (i : Int) < (p.lns.length : Int) := by omega
      have hi0 : (0 : Int) ≤ (i : Int) := by omega
      have hRr := row_bel hR6 hBw (Nat.le_refl _)
      obtain ⟨ge, oe, hga⟩ := hRr.some hlt
      subst hga
      obtain ⟨cs, -, -, ⟨an, cn, rfl, -⟩, hcs⟩ := hRr.item hlt
      have kx : wr.cell? ⟨ge, oe + i * 7, none⟩ = some (.string ⟨p.lns[i].name.toArray⟩) ∧ wr.cell? ⟨ge, oe + i * 7 + 1, none⟩ = some (.bool p.lns[i].input) ∧ wr.cell? ⟨ge, oe + i * 7 + 2, none⟩ = some (.bool p.lns[i].must) ∧ wr.cell? ⟨ge, oe + i * 7 + 3, none⟩ = some (.int .i64 p.lns[i].type) ∧ wr.cell? ⟨ge, oe + i * 7 + 4, none⟩ = some (.int .i64 p.lns[i].opts) ∧ wr.cell? ⟨ge, oe + i * 7 + 5, none⟩ = some (.int .i64 p.lns[i].group) ∧ wr.cell? ⟨ge, oe + i * 7 + 6, none⟩ = some (.slice an p.lns[i].cls.length cn) := ⟨hcs 0 (by decide), hcs 1 (by decide), hcs 2 (by decide), hcs 3 (by decide), hcs 4 (by decide), hcs 5 (by decide), hcs 6 (by decide)⟩
      have hinv2 := hinv.out
      rw [List.drop_eq_getElem_cons hlt, List.map_cons, List.sum_cons] at hinv2
      generalize p.lns[i] = y at kx hinv2
      have hcy := ceF_b p y.group
      have hadd : Hid ((n + ceF p y.group) + ((p.lns.drop (i + 1)).map (fun l => ceF p l.group)).sum = (0 + (p.lns.map (fun l => ceF p l.group)).sum)) := ⟨by rw [← hinv2, Int.add_assoc]⟩
      have hal : Below W1.heap.size W1 (wr.alloc (.cells #[.string ⟨y.name.toArray⟩, .bool y.input, .bool y.must, .int .i64 y.type, .int .i64 y.opts, .int .i64 y.group, .slice an y.cls.length cn] 78)) := hBr.alloc hBr.size _
      have hcall := hcin.out y.group (wr.alloc (.cells #[.string ⟨y.name.toArray⟩, .bool y.input, .bool y.must, .int .i64 y.type, .int .i64 y.opts, .int .i64 y.group, .slice an y.cls.length cn] 78)) (bthr hBw ((Below.refl _ _).alloc (Nat.le_refl _) _) (Nat.le_refl _))
      obtain ⟨d0, d1, d2, d3, d4, d5, d6⟩ := kx
      generalize ceF p y.group = z at hcy hadd hcall
      clear hcs hRr hinv hinv2
      go_wp2_with (go_at_call 31; refine hcall.mono ?_; clear hcall; rintro e w2 ⟨rfl, hb2⟩; have hb3 := bthr hal hb2 (Nat.le_refl _))
      exact ⟨⟨i + 1, n + z, (by first | rfl | go_num), (by first | rfl | go_num), hlt, hb3, by omega, by omega, hadd⟩, by simp only [intOf]; omega⟩
    · have hlt' : ¬ (i : Int) < (p.lns.length : Int) := by omega
      have hri := hinv.out
      rw [List.drop_eq_nil_of_le (by omega), List.map_nil, List.sum_nil, Int.add_zero] at hri
      obtain ⟨n1, hn1e⟩ : ∃ n1, n = n1 := ⟨_, rfl⟩
      rw [hn1e] at hri hn0 hn1 ⊢
      clear hinv hn1e
      have hn1' : n1 ≤ 8000000 := by omega
      have hBa := hBr
      have hT2e : n1 + (p.cks.map (fun c => ceF p c.group)).sum = T2 := by rw [hri]; exact hT1.out
      clear hri hn1
      subst hT2e
      go_wp2
      go_loopw [3, 27] (fun nv iv wr => ∃ (i : Nat) (n : Int), nv = .int .i64 n ∧ iv = .int .i64 (i : Int) ∧ i ≤ p.cks.length ∧ Below W1.heap.size W1 wr ∧ n1 ≤ n ∧ n ≤ n1 + 8 * (i : Int) ∧ Hid (n + ((p.cks.drop i).map (fun c => ceF p c.group)).sum = (n1 + (p.cks.map (fun c => ceF p c.group)).sum))) (fun _ iv _ => p.cks.length - (intOf iv).toNat)
      case atStart => exact ⟨0, n1, rfl, rfl, Nat.zero_le _, hBa, Int.le_refl _, by omega, ⟨by rw [List.drop_zero]⟩⟩
      case round =>
        obtain ⟨i, n, rfl, rfl, hi, hBr, hn0, hn1, hinv⟩ := hrel
        obtain ⟨p0, p1, p2, p3, p4, p5, p6⟩ := hP.out wr hBr
        have hBw := bthr hB1 hBr (Nat.le_refl _)
        have hlr : W.heap.size < wr.heap.size := World.block_lt_of_cell? _ _ p0
        by_cases hlt : i < p.cks.length
        · have hlt' : (i : Int) < (p.cks.length : Int) := by omega
          have hi0 : (0 : Int) ≤ (i : Int) := by omega
          have hRr := row_bel hR7 hBw (Nat.le_refl _)
          obtain ⟨ge, oe, hga⟩ := hRr.some hlt
          subst hga
          obtain ⟨cs, -, -, ⟨an, cn, rfl, -⟩, hcs⟩ := hRr.item hlt
          have kx : wr.cell? ⟨ge, oe + i * 9, none⟩ = some (.string ⟨p.cks[i].name.toArray⟩) ∧ wr.cell? ⟨ge, oe + i * 9 + 1, none⟩ = some (.bool p.cks[i].hard) ∧ wr.cell? ⟨ge, oe + i * 9 + 2, none⟩ = some (.int .i64 p.cks[i].group) ∧ wr.cell? ⟨ge, oe + i * 9 + 3, none⟩ = some (.int .i64 p.cks[i].when_.op) ∧ wr.cell? ⟨ge, oe + i * 9 + 4, none⟩ = some (.int .i64 p.cks[i].when_.num) ∧ wr.cell? ⟨ge, oe + i * 9 + 5, none⟩ = some (.int .i64 p.cks[i].when_.den) ∧ wr.cell? ⟨ge, oe + i * 9 + 6, none⟩ = some (.int .i64 p.cks[i].when_.mode) ∧ wr.cell? ⟨ge, oe + i * 9 + 7, none⟩ = some (.slice an p.cks[i].when_.args.len cn) ∧ wr.cell? ⟨ge, oe + i * 9 + 8, none⟩ = some (.string ⟨p.cks[i].text.toArray⟩) := ⟨hcs 0 (by decide), hcs 1 (by decide), hcs 2 (by decide), hcs 3 (by decide), hcs 4 (by decide), hcs 5 (by decide), hcs 6 (by decide), hcs 7 (by decide), hcs 8 (by decide)⟩
          have hinv2 := hinv.out
          rw [List.drop_eq_getElem_cons hlt, List.map_cons, List.sum_cons] at hinv2
          generalize p.cks[i] = y at kx hinv2
          have hcy := ceF_b p y.group
          have hadd : Hid ((n + ceF p y.group) + ((p.cks.drop (i + 1)).map (fun c => ceF p c.group)).sum = (n1 + (p.cks.map (fun c => ceF p c.group)).sum)) := ⟨by rw [← hinv2, Int.add_assoc]⟩
          have hal : Below W1.heap.size W1 (wr.alloc (.cells #[.string ⟨y.name.toArray⟩, .bool y.hard, .int .i64 y.group, .int .i64 y.when_.op, .int .i64 y.when_.num, .int .i64 y.when_.den, .int .i64 y.when_.mode, .slice an y.when_.args.len cn, .string ⟨y.text.toArray⟩] 75)) := hBr.alloc hBr.size _
          have hcall := hcin.out y.group (wr.alloc (.cells #[.string ⟨y.name.toArray⟩, .bool y.hard, .int .i64 y.group, .int .i64 y.when_.op, .int .i64 y.when_.num, .int .i64 y.when_.den, .int .i64 y.when_.mode, .slice an y.when_.args.len cn, .string ⟨y.text.toArray⟩] 75)) (bthr hBw ((Below.refl _ _).alloc (Nat.le_refl _) _) (Nat.le_refl _))
          obtain ⟨d0, d1, d2, d3, d4, d5, d6, d7, d8⟩ := kx
          generalize ceF p y.group = z at hcy hadd hcall
          clear hcs hRr hinv hinv2
          go_wp2_with (go_at_call 31; refine hcall.mono ?_; clear hcall; rintro e w2 ⟨rfl, hb2⟩; have hb3 := bthr hal hb2 (Nat.le_refl _))
          exact ⟨⟨i + 1, n + z, (by first | rfl | go_num), (by first | rfl | go_num), hlt, hb3, by omega, by omega, hadd⟩, by simp only [intOf]; omega⟩
        · have hlt' : ¬ (i : Int) < (p.cks.length : Int) := by omega
          have hri := hinv.out
          rw [List.drop_eq_nil_of_le (by omega), List.map_nil, List.sum_nil, Int.add_zero] at hri
          obtain ⟨n2, hn2⟩ : ∃ n2, n = n2 := ⟨_, rfl⟩
          rw [hn2] at hri hn0 hn1 ⊢
          clear hinv hn2
          have hn0' : 0 ≤ n2 := by omega
          have hn1' : n2 ≤ 16000000 := by omega
          have hT3 : n2 + (p.grps.map rwF).sum = T3 := by rw [hri]; exact hT2.out
          have hBb := hBr
          clear hn0 hn1 hri hBa
          subst hT3
          go_wp2
          go_loopw [3, 41] (fun nv iv wr => ∃ (i : Nat) (n : Int), nv = .int .i64 n ∧ iv = .int .i64 (i : Int) ∧ i ≤ p.grps.length ∧ Below W1.heap.size W1 wr ∧ n2 ≤ n ∧ n ≤ n2 + 8 * (i : Int) ∧ Hid (n + ((p.grps.drop i).map rwF).sum = (n2 + (p.grps.map rwF).sum))) (fun _ iv _ => p.grps.length - (intOf iv).toNat)
          case atStart => exact ⟨0, n2, rfl, rfl, Nat.zero_le _, hBb, Int.le_refl _, by omega, ⟨by rw [List.drop_zero]⟩⟩
          case round =>
            obtain ⟨i, n, rfl, rfl, hi, hBr, hn0, hn1, hinv⟩ := hrel
            obtain ⟨p0, p1, p2, p3, p4, p5, p6⟩ := hP.out wr hBr
            have hBw := bthr hB1 hBr (Nat.le_refl _)
            have hlr : W.heap.size < wr.heap.size := World.block_lt_of_cell? _ _ p0
            by_cases hlt : i < p.grps.length
            · have hlt' : (i : Int) < (p.grps.length : Int) := by omega
              have hi0 : (0 : Int) ≤ (i : Int) := by omega
              have hRr := row_bel hR5 hBw (Nat.le_refl _)
              obtain ⟨ge, oe, hga⟩ := hRr.some hlt
              subst hga
              obtain ⟨cs, -, -, ⟨rfl, -⟩, hcs⟩ := hRr.item hlt
              have kx : wr.cell? ⟨ge, oe + i * 2, none⟩ = some (.string ⟨p.grps[i].1.toArray⟩) ∧ wr.cell? ⟨ge, oe + i * 2 + 1, none⟩ = some (.int .i64 p.grps[i].2) := ⟨hcs 0 (by decide), hcs 1 (by decide)⟩
              have hinv2 := hinv.out
              rw [List.drop_eq_getElem_cons hlt, List.map_cons, List.sum_cons] at hinv2
              generalize p.grps[i] = y at kx hinv2
              have hcy := rwF_b y
              have hadd : Hid ((n + rwF y) + ((p.grps.drop (i + 1)).map rwF).sum = (n2 + (p.grps.map rwF).sum)) := ⟨by rw [← hinv2, Int.add_assoc]⟩
              have hal : Below W1.heap.size W1 (wr.alloc (.cells #[.string ⟨y.1.toArray⟩, .int .i64 y.2] 96)) := hBr.alloc hBr.size _
              have hcall := rows_any y (wr.alloc (.cells #[.string ⟨y.1.toArray⟩, .int .i64 y.2] 96))
              obtain ⟨d0, d1⟩ := kx
              generalize rwF y = z at hcy hadd hcall
              clear hcs hRr hinv hinv2
              go_wp2_with (go_at_call 32; refine hcall.mono ?_; clear hcall; rintro e w2 ⟨rfl, hb2⟩; have hb3 := bthr hal hb2 (Nat.le_refl _))
              exact ⟨⟨i + 1, n + z, (by first | rfl | go_num), (by first | rfl | go_num), hlt, hb3, by omega, by omega, hadd⟩, by simp only [intOf]; omega⟩
            · have hlt' : ¬ (i : Int) < (p.grps.length : Int) := by omega
              have hri := hinv.out
              rw [List.drop_eq_nil_of_le (by omega), List.map_nil, List.sum_nil, Int.add_zero] at hri
              have hff : Lk (.int .i64 (n2 + (p.grps.map rwF).sum)) W (.returned (.int .i64 n)) wr := ⟨by rw [hri], hBw⟩
              clear hinv hri
              go_wp2
              go_ret
              exact hff



end Go.Proofs.YthnmjafoplfikaaGreatDoor


namespace Go.Proofs.YthnmjafoplfikaaGreatDoor
open Go.RowKit

theorem CkS.rowL {p : Pk} {a3 a4 a5 a6 a7 : Option Addr} {c3 c4 c5 c6 c7 : Nat} {cb s : Nat} {W : World} {seen : Sn} {sv : Value} (h : CkS p (scP p a3 a4 a5 a6 a7 c3 c4 c5 c6 c7) cb s W seen sv) : RowR eL W (fun b => b < cb) p.lns a6 := by
  obtain ⟨b3, d3, b4, d4, b5, d5, b6, d6, b7, d7, h0, h1, r3, r4, r5, r6, r7⟩ := h.pk
  simp only [List.cons.injEq, Value.slice.injEq, and_true, true_and] at h0
  obtain ⟨⟨rfl, rfl⟩, ⟨rfl, rfl⟩, ⟨rfl, rfl⟩, ⟨rfl, rfl⟩, rfl, rfl⟩ := h0
  exact r6
set_option maxRecDepth 20000 in
set_option maxHeartbeats 2000000 in
theorem cellP_any (p : Pk) (a3 a4 a5 a6 a7 : Option Addr) (c3 c4 c5 c6 c7 : Nat) (cb s : Nat) (W : World) (seen : Sn) (sv : Value) (h : CkS p (scP p a3 a4 a5 a6 a7 c3 c4 c5 c6 c7) cb s W seen sv) (h5 : p.grps.length ≤ 1000000) (h6 : p.lns.length ≤ 1000000) (h7 : p.cks.length ≤ 1000000) : Calls Tryz.prog 80 #[.pointer (some ⟨cb, 0, none⟩)] W (PtP p (scP p a3 a4 a5 a6 a7 c3 c4 c5 c6 c7) cb s sv (seen, celF p) W) := by
  have hcb := h.lt
  obtain ⟨W1, hW1⟩ : ∃ W1, W1 = W.alloc (.cells #[.int .i64 0, .int .i64 0, .int .i64 0, .slice none 0 0] 105) := ⟨_, rfl⟩
  have hB1 : Below W.heap.size W W1 := by rw [hW1]; exact (Below.refl _ _).alloc (Nat.le_refl _) _
  have hbz : Bx W1 W.heap.size [.int .i64 0, .int .i64 0, .int .i64 0, .slice none 0 0] := by rw [hW1]; exact bx_new _ _ _
  have hk1 := h.bel hB1
  have hrb3 : some W.heap.size ≠ sv.ownBlock := fun e => by
    have := (h.pg _ e.symm).2
    omega
  have hrb1 : cb + 1 ≤ W.heap.size := hcb
  have hrb2 : W.heap.size ≤ W.heap.size := Nat.le_refl _
  obtain ⟨R, hR⟩ : ∃ R, celF p = R := ⟨_, rfl⟩
  rw [hR]
  obtain ⟨QQ, hQQ⟩ : ∃ QQ, PtP p (scP p a3 a4 a5 a6 a7 c3 c4 c5 c6 c7) cb s sv (seen, R) W = QQ := ⟨_, rfl⟩
  rw [hQQ]
  have hQH := Hid.mk hQQ
  have hW1H := Hid.mk hW1
  obtain ⟨q0, q1, q2, q3, q4, q5, q6⟩ := h.cells
  have hSt : Hid (∀ w, Below W1.heap.size W1 w → Bx w W.heap.size [.int .i64 0, .int .i64 0, .int .i64 0, .slice none 0 0] ∧ (CkS p (scP p a3 a4 a5 a6 a7 c3 c4 c5 c6 c7) cb s w seen sv ∧ Fr cb W sv w sv)) := ⟨fun w hw => ⟨hbz.bel hw hbz.1, hk1.bel hw, (Fr.bel hB1 _).trans (Fr.bel hw _)⟩⟩
  clear hQQ hW1
  have hce := Cells_any p a3 a4 a5 a6 a7 c3 c4 c5 c6 c7 W1 (hk1.rows.2.2.1.mo (fun _ _ _ => trivial)) (hk1.rowL.mo (fun _ _ _ => trivial)) (hk1.rows.2.2.2.2.mo (fun _ _ _ => trivial)) h5 h6 h7
  unfold celF at hR
  obtain ⟨n, hn⟩ : ∃ n, cesF p = n := ⟨_, rfl⟩
  rw [hn] at hce hR
  clear hn
  by_cases hb : 256 < n
  · rw [if_pos hb] at hR
    have hRH := Hid.mk hR.symm
    clear hR hk1 hbz
    go_enter Tryz.func80, Tryz.ntmps80
    go_wp2_with fail
    rw [← hW1H.out]
    refine hce.mono ?_
    clear hce
    rintro e w1 ⟨rfl, hb1⟩
    obtain ⟨hbr3, hk_st⟩ := hSt.out w1 hb1
    have hq0 := hbr3
    have kg0 : w1.cell? ⟨W.heap.size, 0, none⟩ = some (.int .i64 0) := hq0.2.1 0 (by simp)
    have kh0 := hq0.2.2 0; have kl0 := hq0.1
    obtain ⟨X1, hx0⟩ : ∃ X1, w1.setCell ⟨W.heap.size, 0, none⟩ (.int .i64 1) = X1 := ⟨_, rfl⟩
    have hq1 : Bx X1 W.heap.size [(.int .i64 1), (.int .i64 0), (.int .i64 0), (.slice none 0 0)] := (by rw [← hx0]; exact hq0.set 0 (.int .i64 1))
    have kg1 : X1.cell? ⟨W.heap.size, 1, none⟩ = some (.int .i64 0) := hq1.2.1 1 (by simp)
    have kh1 := hq1.2.2 1; have kl1 := hq1.1
    obtain ⟨X2, hx1⟩ : ∃ X2, X1.setCell ⟨W.heap.size, 1, none⟩ (.int .i64 0) = X2 := ⟨_, rfl⟩
    have hq2 : Bx X2 W.heap.size [(.int .i64 1), (.int .i64 0), (.int .i64 0), (.slice none 0 0)] := (by rw [← hx1]; exact hq1.set 1 (.int .i64 0))
    have kg2 : X2.cell? ⟨W.heap.size, 2, none⟩ = some (.int .i64 0) := hq2.2.1 2 (by simp)
    have kh2 := hq2.2.2 2; have kl2 := hq2.1
    obtain ⟨X3, hx2⟩ : ∃ X3, X2.setCell ⟨W.heap.size, 2, none⟩ (.int .i64 (-1)) = X3 := ⟨_, rfl⟩
    have hq3 : Bx X3 W.heap.size [(.int .i64 1), (.int .i64 0), (.int .i64 (-1)), (.slice none 0 0)] := (by rw [← hx2]; exact hq2.set 2 (.int .i64 (-1)))
    have kg3 : X3.cell? ⟨W.heap.size, 3, none⟩ = some (.slice none 0 0) := hq3.2.1 3 (by simp)
    have kh3 := hq3.2.2 3; have kl3 := hq3.1
    obtain ⟨X4, hx3⟩ : ∃ X4, X3.setCell ⟨W.heap.size, 3, none⟩ (.slice none 0 0) = X4 := ⟨_, rfl⟩
    have hq4 : Bx X4 W.heap.size [(.int .i64 1), (.int .i64 0), (.int .i64 (-1)), (.slice none 0 0)] := (by rw [← hx3]; exact hq3.set 3 (.slice none 0 0))
    have ht0 := hk_st
    have ht1 : CkS p (scP p a3 a4 a5 a6 a7 c3 c4 c5 c6 c7) cb s X1 seen sv ∧ Fr cb W sv X1 sv := (by rw [← hx0]; exact ck_set ht0 hrb1 hrb2 hrb3 0 (.int .i64 1))
    have ht2 : CkS p (scP p a3 a4 a5 a6 a7 c3 c4 c5 c6 c7) cb s X2 seen sv ∧ Fr cb W sv X2 sv := (by rw [← hx1]; exact ck_set ht1 hrb1 hrb2 hrb3 1 (.int .i64 0))
    have ht3 : CkS p (scP p a3 a4 a5 a6 a7 c3 c4 c5 c6 c7) cb s X3 seen sv ∧ Fr cb W sv X3 sv := (by rw [← hx2]; exact ck_set ht2 hrb1 hrb2 hrb3 2 (.int .i64 (-1)))
    have ht4 : CkS p (scP p a3 a4 a5 a6 a7 c3 c4 c5 c6 c7) cb s X4 seen sv ∧ Fr cb W sv X4 sv := (by rw [← hx3]; exact ck_set ht3 hrb1 hrb2 hrb3 3 (.slice none 0 0))
    have hB5 : Below X4.heap.size X4 (X4.alloc (.cells #[.int .i64 1, .int .i64 0, .int .i64 (-1), .slice none 0 0] 105)) := ((Below.refl X4.heap.size X4).alloc (Nat.le_refl _) _)
    have hff : QQ (.returned (.tuple #[.agg #[.int .i64 1, .int .i64 0, .int .i64 (-1), .slice none 0 0], .int .i64 60])) (X4.alloc (.cells #[.int .i64 1, .int .i64 0, .int .i64 (-1), .slice none 0 0] 105)) := by
      rw [← hQH.out, hRH.out]
      exact ⟨rfl, sv, ht4.1.bel hB5, ht4.2.trans (Fr.bel hB5 _)⟩
    have hq5 := hq4.bel hB5 hq4.1
    have f0 := hq5.2.1 0 (by simp)
    have f1 := hq5.2.1 1 (by simp)
    have f2 := hq5.2.1 2 (by simp)
    have f3 := hq5.2.1 3 (by simp)
    have l4 := hq4.1
    clear hq0 hq1 hq2 hq3 hq4 hq5 ht0 ht1 ht2 ht3 ht4 hk_st hbr3
    go_wp2_with (go_at_call 96; refine (itemAt_any _ _ _).mono ?_; rintro e w9 ⟨rfl, rfl⟩)
    exact bodyPost_ret (v := .tuple #[.agg #[.int .i64 1, .int .i64 0, .int .i64 (-1), .slice none 0 0], .int .i64 60]) (by simp [results, Tryz.results80, go_sem, f0, f1, f2, f3]) rfl hff
  · rw [if_neg hb] at hR
    have hRH := Hid.mk hR.symm
    clear hR hk1 hbz
    go_enter Tryz.func80, Tryz.ntmps80
    go_wp2_with fail
    rw [← hW1H.out]
    refine hce.mono ?_
    clear hce
    rintro e w1 ⟨rfl, hb1⟩
    obtain ⟨hbr3, hk_st⟩ := hSt.out w1 hb1
    have hff : QQ (.returned (.tuple #[.agg #[.int .i64 0, .int .i64 0, .int .i64 0, .slice none 0 0], .int .i64 0])) w1 := by
      rw [← hQH.out, hRH.out]
      exact ⟨rfl, sv, hk_st.1, hk_st.2⟩
    have f0 := hbr3.2.1 0 (by simp)
    have z0 := hbr3.2.2 0
    have f1 := hbr3.2.1 1 (by simp)
    have z1 := hbr3.2.2 1
    have f2 := hbr3.2.1 2 (by simp)
    have z2 := hbr3.2.2 2
    have f3 := hbr3.2.1 3 (by simp)
    have z3 := hbr3.2.2 3
    have j0 := set_id f0
    have j1 := set_id f1
    have j2 := set_id f2
    have j3 := set_id f3
    clear hbr3 hk_st
    go_wp2
    exact bodyPost_ret (v := .tuple #[.agg #[.int .i64 0, .int .i64 0, .int .i64 0, .slice none 0 0], .int .i64 0]) (by simp at f0 f1 f2 f3; simp [results, Tryz.results80, go_sem, f0, f1, f2, f3]) rfl hff
end Go.Proofs.YthnmjafoplfikaaGreatDoor


namespace Go.Proofs.YthnmjafoplfikaaGreatDoor
open Go.RowKit

/-- What any part answers. -/
def StP (p : Pk) (pc : List Value) (cb s : Nat) (sv : Value) (R : Sn × Option (Sp × Nat)) (W : World) (e : Ending) (W' : World) : Prop := (match R.2 with
  | none => e = .returned (.tuple #[.agg #[.int .i64 0, .int .i64 0, .int .i64 0, .slice none 0 0], .int .i64 0])
  | some f => ∃ pv, e = .returned (.tuple #[.agg #[.int .i64 f.1.part, .int .i64 f.1.at_, .int .i64 f.1.clause, pv], .int .i64 (f.2 : Int)]) ∧ W'.ownsRow W.heap.size 3 1 pv f.1.path.length (ptC f.1.path)) ∧ ∃ sv', CkS p pc cb s W' R.1 sv' ∧ Fr cb W sv W' sv'
theorem pt_st {p : Pk} {pc : List Value} {cb s : Nat} {sv : Value} {R : Sn × Option (Sp × Nat)} {W : World} {e : Ending} {W' : World} (hp : ∀ f, R.2 = some f → f.1.path = []) (h : PtP p pc cb s sv R W e W') : StP p pc cb s sv R W e W' := by
  obtain ⟨s1, o⟩ := R
  obtain ⟨rfl, h2⟩ := h
  cases o with
  | none => exact ⟨rfl, h2⟩
  | some f =>
    have := hp f rfl
    exact ⟨⟨.slice none 0 0, rfl, by rw [this]; exact World.ownsRow_nil _ _ _ _⟩, h2⟩
theorem pe_st {p : Pk} {pc : List Value} {cb s : Nat} {sv : Value} {seen : Sn} {o : Option (Sp × Nat)} {W : World} {e : Ending} {W' : World} (h : PeP p pc cb s sv seen o W e W') : StP p pc cb s sv (seen, o) W e W' := ⟨h.1, sv, h.2.1, h.2.2⟩
/-- The parts in their order. -/
def stg (p : Pk) (k : Nat) (seen : Sn) : Sn × Option (Sp × Nat) := match k with
  | 0 => (seen, szF p)
  | 1 => (seen, hdF p)
  | 2 => ((frF opF p.opts 0 seen).1, itO 2 (frF opF p.opts 0 seen).2)
  | 3 => ((frF tbF p.tabs 0 seen).1, itO 3 (frF tbF p.tabs 0 seen).2)
  | 4 => ((frF gpF p.grps 0 seen).1, itO 4 (frF gpF p.grps 0 seen).2)
  | 5 => lsF p p.lns 0 seen
  | 6 => ((frF (ckF p) p.cks 0 seen).1, itO 6 (frF (ckF p) p.cks 0 seen).2)
  | 7 => (seen, celF p)
  | 8 => (seen, leF p p.lns 0)
  | _ => (seen, keF p p.cks 0)
def chR (p : Pk) : Nat → Sn → Option (Sp × Nat)
  | 0, _ => none
  | m + 1, s => match stg p (9 - m) s with
    | (_, some f) => some f
    | (s', none) => chR p m s'
/-- The first fault of a pack, or none. -/
def ckP (p : Pk) : Option (Sp × Nat) := chR p 10 []
theorem fr_len {α : Type} {f : α → Sn → Sn × Nat} {nm : α → List UInt8} (hf : ∀ x s, (f x s).1 = s ++ [nm x]) : ∀ (l : List α) (i : Nat) (s s' : Sn), frF f l i s = (s', none) → s'.length = s.length + l.length
  | [], i, s, s', h => by
    injection h with h
    subst h
    rfl
  | x :: l, i, s, s', h => by
    unfold frF at h
    rcases hx : f x s with ⟨s1, _ | e⟩
    · rw [hx] at h
      have h1 := fr_len hf l (i + 1) s1 s' h
      have h2 := hf x s
      rw [hx] at h2
      simp only at h2
      rw [h1, h2, List.length_append, List.length_singleton, List.length_cons]
      omega
    · rw [hx] at h
      injection h with _ h
      cases h
theorem ls_none (p : Pk) : ∀ (l : List Ln) (i : Nat) (s s' : Sn), lsF p l i s = (s', none) → s'.length = s.length + l.length ∧ ∀ y ∈ l, y.cls.length ≤ 6
  | [], i, s, s', h => by
    injection h with h
    subst h
    exact ⟨rfl, fun _ h => by cases h⟩
  | y :: l, i, s, s', h => by
    unfold lsF at h
    rcases hx : lnE p y s with ⟨s1, _ | e⟩
    · rw [hx] at h
      simp only at h
      cases hc : clF y.cls y.cls 0 with
      | some j =>
        rw [hc] at h
        injection h with _ h
        cases h
      | none =>
        rw [hc] at h
        have h1 := ls_none p l (i + 1) s1 s' h
        have h2 : (lnE p y s).1 = s ++ [y.name] := rfl
        rw [hx] at h2
        simp only at h2
        refine ⟨by rw [h1.1, h2, List.length_append, List.length_singleton, List.length_cons]; omega, fun z hz => ?_⟩
        rcases List.mem_cons.1 hz with rfl | hz
        · exact lnE_len hx
        · exact h1.2 z hz
    · rw [hx] at h
      injection h with _ h
      cases h
theorem ls_path (p : Pk) : ∀ (l : List Ln) (i : Nat) (s : Sn) (f : Sp × Nat), (lsF p l i s).2 = some f → f.1.path = []
  | [], i, s, f, h => by cases h
  | y :: l, i, s, f, h => by
    unfold lsF at h
    rcases hx : lnE p y s with ⟨s1, _ | e⟩
    · rw [hx] at h
      simp only at h
      cases hc : clF y.cls y.cls 0 with
      | some j =>
        rw [hc] at h
        injection h with h
        subst h
        rfl
      | none =>
        rw [hc] at h
        exact ls_path p l (i + 1) s1 f h
    · rw [hx] at h
      injection h with h
      subst h
      rfl
theorem sz_none {p : Pk} (h : szF p = none) : p.opts.length ≤ 4 ∧ p.tabs.length ≤ 4 ∧ p.grps.length ≤ 4 ∧ p.lns.length ≤ 48 ∧ p.cks.length ≤ 16 := by
  unfold szF at h
  by_cases h1 : 4 < p.opts.length
  · rw [if_pos h1] at h; cases h
  rw [if_neg h1] at h
  by_cases h2 : 4 < p.tabs.length
  · rw [if_pos h2] at h; cases h
  rw [if_neg h2] at h
  by_cases h3 : 4 < p.grps.length
  · rw [if_pos h3] at h; cases h
  rw [if_neg h3] at h
  by_cases h4 : p.lns.length < 1 ∨ 48 < p.lns.length
  · rw [if_pos h4] at h; cases h
  rw [if_neg h4] at h
  by_cases h5 : 16 < p.cks.length
  · rw [if_pos h5] at h; cases h
  omega
/-- What stands behind the first parts. -/
structure Cnd (p : Pk) (k : Nat) (seen : Sn) : Prop where
  sz : 1 ≤ k → szF p = none
  len : seen.length ≤ 48 * k
  cl : 6 ≤ k → ∀ y ∈ p.lns, y.cls.length ≤ 6
def fnOf (k : Nat) : Nat := [73, 74, 75, 76, 77, 78, 79, 80, 81, 82].getD k 0
theorem cnd_step {p : Pk} {k : Nat} {seen s' : Sn} (hk : k < 10) (h : Cnd p k seen) (hs : stg p k seen = (s', none)) : Cnd p (k + 1) s' := by
  have hl := h.len
  have same : s' = seen → szF p = none → (6 ≤ k + 1 → ∀ y ∈ p.lns, y.cls.length ≤ 6) → Cnd p (k + 1) s' := fun e hz hc => ⟨fun _ => hz, by rw [e]; omega, hc⟩
  have grow : ∀ n, s'.length = seen.length + n → n ≤ 48 → szF p = none → (6 ≤ k + 1 → ∀ y ∈ p.lns, y.cls.length ≤ 6) → Cnd p (k + 1) s' := fun n e hn hz hc => ⟨fun _ => hz, by rw [e]; omega, hc⟩
  rcases (show k = 0 ∨ k = 1 ∨ k = 2 ∨ k = 3 ∨ k = 4 ∨ k = 5 ∨ k = 6 ∨ k = 7 ∨ k = 8 ∨ k = 9 by omega) with rfl | rfl | rfl | rfl | rfl | rfl | rfl | rfl | rfl | rfl
  · injection hs with h1 h2
    exact same h1.symm h2 (fun h => by omega)
  · injection hs with h1 h2
    exact same h1.symm (h.sz (by decide)) (fun h => by omega)
  · injection hs with h1 h2
    have hz := h.sz (by decide)
    have hr : frF opF p.opts 0 seen = (s', none) := by
      rcases hf : frF opF p.opts 0 seen with ⟨a, _ | ie⟩
      · rw [hf] at h1; rw [← h1]
      · rw [hf] at h2; cases h2
    exact grow _ (fr_len (nm := fun x => x.1) (fun _ _ => rfl) _ _ _ _ hr) (by have := (sz_none hz).1; omega) hz (fun h => by omega)
  · injection hs with h1 h2
    have hz := h.sz (by decide)
    have hr : frF tbF p.tabs 0 seen = (s', none) := by
      rcases hf : frF tbF p.tabs 0 seen with ⟨a, _ | ie⟩
      · rw [hf] at h1; rw [← h1]
      · rw [hf] at h2; cases h2
    exact grow _ (fr_len (nm := fun x => x.1) (fun _ _ => rfl) _ _ _ _ hr) (by have := (sz_none hz).2.1; omega) hz (fun h => by omega)
  · injection hs with h1 h2
    have hz := h.sz (by decide)
    have hr : frF gpF p.grps 0 seen = (s', none) := by
      rcases hf : frF gpF p.grps 0 seen with ⟨a, _ | ie⟩
      · rw [hf] at h1; rw [← h1]
      · rw [hf] at h2; cases h2
    exact grow _ (fr_len (nm := fun x => x.1) (fun _ _ => rfl) _ _ _ _ hr) (by have := (sz_none hz).2.2.1; omega) hz (fun h => by omega)
  · have hz := h.sz (by decide)
    have hn := ls_none p p.lns 0 seen s' hs
    exact grow _ hn.1 (by have := (sz_none hz).2.2.2.1; omega) hz (fun _ => hn.2)
  · injection hs with h1 h2
    have hz := h.sz (by decide)
    have hr : frF (ckF p) p.cks 0 seen = (s', none) := by
      rcases hf : frF (ckF p) p.cks 0 seen with ⟨a, _ | ie⟩
      · rw [hf] at h1; rw [← h1]
      · rw [hf] at h2; cases h2
    exact grow _ (fr_len (nm := fun x => x.name) (fun _ _ => rfl) _ _ _ _ hr) (by have := (sz_none hz).2.2.2.2; omega) hz (fun _ => h.cl (by decide))
  · injection hs with h1 h2
    exact same h1.symm (h.sz (by decide)) (fun _ => h.cl (by decide))
  · injection hs with h1 h2
    exact same h1.symm (h.sz (by decide)) (fun _ => h.cl (by decide))
  · injection hs with h1 h2
    exact same h1.symm (h.sz (by decide)) (fun _ => h.cl (by decide))
theorem ito_path (n : Nat) (o : Option (Nat × Nat)) (f : Sp × Nat) (h : itO n o = some f) : f.1.path = [] := by
  cases o with
  | none => cases h
  | some ie =>
    injection h with h
    subst h
    rfl
theorem sz_path (p : Pk) (f : Sp × Nat) (h : szF p = some f) : f.1.path = [] := by
  unfold szF at h
  repeat (split at h; (injection h with h; subst h; rfl))
  cases h
theorem hd_path (p : Pk) (f : Sp × Nat) (h : hdF p = some f) : f.1.path = [] := by
  unfold hdF at h
  split at h
  · split at h
    · injection h with h; subst h; rfl
    · cases h
  · injection h with h; subst h; rfl
theorem ce_path (p : Pk) (f : Sp × Nat) (h : celF p = some f) : f.1.path = [] := by
  unfold celF at h
  split at h
  · injection h with h; subst h; rfl
  · cases h
theorem stage_any (p : Pk) (a3 a4 a5 a6 a7 : Option Addr) (c3 c4 c5 c6 c7 : Nat) (cb s k : Nat) (hk : k < 10) (W : World) (seen : Sn) (sv : Value) (h : CkS p (scP p a3 a4 a5 a6 a7 c3 c4 c5 c6 c7) cb s W seen sv) (hc : Cnd p k seen) (hz : SzP p) : Calls Tryz.prog (fnOf k) #[.pointer (some ⟨cb, 0, none⟩)] W (StP p (scP p a3 a4 a5 a6 a7 c3 c4 c5 c6 c7) cb s sv (stg p k seen) W) := by
  have hl := hc.len
  rcases (show k = 0 ∨ k = 1 ∨ k = 2 ∨ k = 3 ∨ k = 4 ∨ k = 5 ∨ k = 6 ∨ k = 7 ∨ k = 8 ∨ k = 9 by omega) with rfl | rfl | rfl | rfl | rfl | rfl | rfl | rfl | rfl | rfl
  · exact (sizP_any p a3 a4 a5 a6 a7 c3 c4 c5 c6 c7 cb s W seen sv h).mono (fun e w hh => pt_st (fun f hf => sz_path p f hf) hh)
  · exact (headP_any p a3 a4 a5 a6 a7 c3 c4 c5 c6 c7 cb s W seen sv h).mono (fun e w hh => pt_st (fun f hf => hd_path p f hf) hh)
  · exact (optP_any p a3 a4 a5 a6 a7 c3 c4 c5 c6 c7 cb s W seen sv h (by have := (sz_none (hc.sz (by decide))).1; omega)).mono (fun e w hh => pt_st (fun f hf => ito_path 2 _ f hf) hh)
  · exact (tabP_any p a3 a4 a5 a6 a7 c3 c4 c5 c6 c7 cb s W seen sv h (by have := (sz_none (hc.sz (by decide))).2.1; omega)).mono (fun e w hh => pt_st (fun f hf => ito_path 3 _ f hf) hh)
  · exact (grpP_any p a3 a4 a5 a6 a7 c3 c4 c5 c6 c7 cb s W seen sv h (by have := (sz_none (hc.sz (by decide))).2.2.1; omega)).mono (fun e w hh => pt_st (fun f hf => ito_path 4 _ f hf) hh)
  · exact (linP_any p a3 a4 a5 a6 a7 c3 c4 c5 c6 c7 cb s W seen sv h (by have := (sz_none (hc.sz (by decide))).2.2.2.1; omega)).mono (fun e w hh => pt_st (fun f hf => ls_path p _ _ _ f hf) hh)
  · exact (chkP_any p a3 a4 a5 a6 a7 c3 c4 c5 c6 c7 cb s W seen sv h (by have := (sz_none (hc.sz (by decide))).2.2.2.2; omega)).mono (fun e w hh => pt_st (fun f hf => ito_path 6 _ f hf) hh)
  · have h1 := sz_none (hc.sz (by decide))
    exact (cellP_any p a3 a4 a5 a6 a7 c3 c4 c5 c6 c7 cb s W seen sv h (by omega) (by omega) (by omega)).mono (fun e w hh => pt_st (fun f hf => ce_path p f hf) hh)
  · have h1 := sz_none (hc.sz (by decide))
    exact (leP_any p a3 a4 a5 a6 a7 c3 c4 c5 c6 c7 cb s W seen sv h (by omega) (fun l hm => by have := hc.cl (by decide) l hm; omega) (fun l hm c hcm => (hz.lns.2 l hm).2.2 c hcm)).mono (fun e w hh => pe_st hh)
  · have h1 := sz_none (hc.sz (by decide))
    exact (keP_any p a3 a4 a5 a6 a7 c3 c4 c5 c6 c7 cb s W seen sv h (by omega) (fun k hm => (hz.cks.2 k hm).2.2)).mono (fun e w hh => pe_st hh)
end Go.Proofs.YthnmjafoplfikaaGreatDoor


namespace Go.Proofs.YthnmjafoplfikaaGreatDoor
open Go.RowKit

theorem fr_pos {α : Type} {f : α → Sn → Sn × Nat} : ∀ (l : List α) (i : Nat) (s : Sn) (j e : Nat), (frF f l i s).2 = some (j, e) → 0 < e
  | [], i, s, j, e, h => by cases h
  | x :: l, i, s, j, e, h => by
    unfold frF at h
    rcases hx : f x s with ⟨s1, _ | e1⟩
    · rw [hx] at h
      exact fr_pos l (i + 1) s1 j e h
    · rw [hx] at h
      injection h with h
      injection h with _ h
      omega
theorem ito_pos {n : Nat} {o : Option (Nat × Nat)} {f : Sp × Nat} (ho : ∀ j e, o = some (j, e) → 0 < e) (h : itO n o = some f) : 0 < f.2 := by
  cases o with
  | none => cases h
  | some ie =>
    injection h with h
    subst h
    exact ho ie.1 ie.2 rfl
theorem ls_pos (p : Pk) : ∀ (l : List Ln) (i : Nat) (s : Sn) (f : Sp × Nat), (lsF p l i s).2 = some f → 0 < f.2
  | [], i, s, f, h => by cases h
  | y :: l, i, s, f, h => by
    unfold lsF at h
    rcases hx : lnE p y s with ⟨s1, _ | e⟩
    · rw [hx] at h
      simp only at h
      cases hc : clF y.cls y.cls 0 with
      | some j =>
        rw [hc] at h
        injection h with h
        subst h
        exact Nat.zero_lt_succ _
      | none =>
        rw [hc] at h
        exact ls_pos p l (i + 1) s1 f h
    · rw [hx] at h
      injection h with h
      subst h
      exact Nat.zero_lt_succ _
theorem lc_pos (p : Pk) (y : Ln) (i : Nat) : ∀ (l : List Cl) (j n : Nat) (f : Sp × Nat), lcF p y i l j n = some f → 0 < f.2
  | [], j, n, f, h => by cases h
  | c :: l, j, n, f, h => by
    unfold lcF at h
    rcases hx : (if c.guarded then nxF p y.group ⟨5, i, j, [0]⟩ (3, -1) c.guard n else (n, none)) with ⟨n1, _ | f1⟩
    · rw [hx] at h
      simp only at h
      rcases hy : nxF p y.group ⟨5, i, j, [1]⟩ (lineK y) c.body n1 with ⟨n2, _ | f2⟩
      · rw [hy] at h
        exact lc_pos p y i l (j + 1) n2 f h
      · rw [hy] at h
        injection h with h
        subst h
        exact nxF_pos hy
    · rw [hx] at h
      injection h with h
      subst h
      split at hx
      · exact nxF_pos hx
      · injection hx with _ hx
        cases hx
theorem le_pos (p : Pk) : ∀ (l : List Ln) (i : Nat) (f : Sp × Nat), leF p l i = some f → 0 < f.2
  | [], i, f, h => by cases h
  | y :: l, i, f, h => by
    unfold leF at h
    cases hc : lcF p y i y.cls 0 0 with
    | some g =>
      rw [hc] at h
      injection h with h
      subst h
      exact lc_pos p y i _ _ _ _ hc
    | none =>
      rw [hc] at h
      exact le_pos p l (i + 1) f h
theorem ke_pos (p : Pk) : ∀ (l : List Ck) (i : Nat) (f : Sp × Nat), keF p l i = some f → 0 < f.2
  | [], i, f, h => by cases h
  | k :: l, i, f, h => by
    unfold keF at h
    rcases hx : nxF p k.group (itF 6 i) (3, -1) k.when_ 0 with ⟨n1, _ | f1⟩
    · rw [hx] at h
      exact ke_pos p l (i + 1) f h
    · rw [hx] at h
      injection h with h
      subst h
      exact nxF_pos hx
theorem stg_pos {p : Pk} {k : Nat} {seen s' : Sn} {f : Sp × Nat} (hk : k < 10) (hs : stg p k seen = (s', some f)) : 0 < f.2 := by
  rcases (show k = 0 ∨ k = 1 ∨ k = 2 ∨ k = 3 ∨ k = 4 ∨ k = 5 ∨ k = 6 ∨ k = 7 ∨ k = 8 ∨ k = 9 by omega) with rfl | rfl | rfl | rfl | rfl | rfl | rfl | rfl | rfl | rfl
  · injection hs with _ h
    unfold szF at h
    repeat (split at h; (injection h with h; subst h; exact Nat.zero_lt_succ _))
    cases h
  · injection hs with _ h
    unfold hdF at h
    split at h
    · split at h
      · injection h with h; subst h; exact Nat.zero_lt_succ _
      · cases h
    · injection h with h; subst h; exact Nat.zero_lt_succ _
  · injection hs with _ h
    exact ito_pos (fun j e ho => fr_pos _ _ _ _ _ ho) h
  · injection hs with _ h
    exact ito_pos (fun j e ho => fr_pos _ _ _ _ _ ho) h
  · injection hs with _ h
    exact ito_pos (fun j e ho => fr_pos _ _ _ _ _ ho) h
  · exact ls_pos p _ _ _ _ (by show (lsF p p.lns 0 seen).2 = some f; have h2 : lsF p p.lns 0 seen = (s', some f) := hs; rw [h2])
  · injection hs with _ h
    exact ito_pos (fun j e ho => fr_pos _ _ _ _ _ ho) h
  · injection hs with _ h
    unfold celF at h
    split at h
    · injection h with h; subst h; exact Nat.zero_lt_succ _
    · cases h
  · injection hs with _ h
    exact le_pos p _ _ _ h
  · injection hs with _ h
    exact ke_pos p _ _ _ h
theorem ch_step (p : Pk) {i : Nat} (hi : i < 10) (s : Sn) : chR p (10 - i) s = match stg p i s with
    | (_, some f) => some f
    | (s', none) => chR p (10 - (i + 1)) s' := by
  have e : ∀ m, chR p (m + 1) s = (match stg p (9 - m) s with
    | (_, some f) => some f
    | (s', none) => chR p m s') := fun _ => rfl
  rw [show 10 - i = (9 - i) + 1 by omega, e, show 9 - (9 - i) = i by omega, show 10 - (i + 1) = 9 - i by omega]
def ChP (r : Option (Sp × Nat)) (W : World) (e : Ending) (W' : World) : Prop := Below W.heap.size W W' ∧ (match r with
  | none => e = .returned (.tuple #[.agg #[.int .i64 0, .int .i64 0, .int .i64 0, .slice none 0 0], .int .i64 0])
  | some f => ∃ pv, e = .returned (.tuple #[.agg #[.int .i64 f.1.part, .int .i64 f.1.at_, .int .i64 f.1.clause, pv], .int .i64 (f.2 : Int)]) ∧ W'.ownsRow W.heap.size 3 1 pv f.1.path.length (ptC f.1.path))
theorem cks_new {p : Pk} {a3 a4 a5 a6 a7 : Option Addr} {c3 c4 c5 c6 c7 : Nat} {W Y : World} {cb s : Nat} (hp : PkE W AnyB p (scP p a3 a4 a5 a6 a7 c3 c4 c5 c6 c7)) (hpc : PkC W AnyB p (scP p a3 a4 a5 a6 a7 c3 c4 c5 c6 c7)) (hB : Below W.heap.size W Y) (hlb : W.heap.size ≤ cb) (hbx : Bx Y cb [.string ⟨p.name.toArray⟩, .int .i64 p.year, .slice a3 p.opts.length c3, .slice a4 p.tabs.length c4, .slice a5 p.grps.length c5, .slice a6 p.lns.length c6, .slice a7 p.cks.length c7, .slice (some ⟨s + 29, 0, none⟩) 42 42, .slice none 0 0]) (hops : OpsAt Y s) (hlo : s + 30 ≤ cb) : CkS p (scP p a3 a4 a5 a6 a7 c3 c4 c5 c6 c7) cb s Y [] (.slice none 0 0) :=
  ⟨fun j hj => by
    have := hbx.2.1 j (by simp; omega)
    rw [this]
    rcases (show j = 0 ∨ j = 1 ∨ j = 2 ∨ j = 3 ∨ j = 4 ∨ j = 5 ∨ j = 6 by omega) with rfl | rfl | rfl | rfl | rfl | rfl | rfl <;> rfl, hbx.2.1 7 (by simp), hbx.2.1 8 (by simp), hbx.2.2, World.ownsRow_nil _ _ _ _, hops, hlo, pke_fr (pke_mo hp (fun b hb _ => Nat.lt_of_lt_of_le hb hlb)) hB.size (fun b hb hlt => hB.block b hlt), pkc_fr (pkc_mo hpc (fun b hb _ => Nat.lt_of_lt_of_le hb hlb)) hB.size (fun b hb hlt => hB.block b hlt)⟩
set_option maxRecDepth 20000 in
set_option maxHeartbeats 3000000 in
theorem Check_any (p : Pk) (a3 a4 a5 a6 a7 : Option Addr) (c3 c4 c5 c6 c7 : Nat) (W : World) (hp : PkE W AnyB p (scP p a3 a4 a5 a6 a7 c3 c4 c5 c6 c7)) (hpc : PkC W AnyB p (scP p a3 a4 a5 a6 a7 c3 c4 c5 c6 c7)) (hz : SzP p) : Calls Tryz.prog 61 #[.agg #[.string ⟨p.name.toArray⟩, .int .i64 p.year, .slice a3 p.opts.length c3, .slice a4 p.tabs.length c4, .slice a5 p.grps.length c5, .slice a6 p.lns.length c6, .slice a7 p.cks.length c7]] W (ChP (ckP p) W) := by
  obtain ⟨W2, hW2⟩ : ∃ W2, W2 = (W.alloc (.cells #[.string ⟨p.name.toArray⟩, .int .i64 p.year, .slice a3 p.opts.length c3, .slice a4 p.tabs.length c4, .slice a5 p.grps.length c5, .slice a6 p.lns.length c6, .slice a7 p.cks.length c7] 28)).alloc (.cells #[.int .i64 0, .int .i64 0, .int .i64 0, .slice none 0 0] 105) := ⟨_, rfl⟩
  have hB2 : Below W.heap.size W W2 := by rw [hW2]; exact ((Below.refl _ _).alloc (Nat.le_refl _) _).alloc (by simp) _
  have hs2 : W2.heap.size = W.heap.size + 1 + 1 := by rw [hW2]; simp
  have hbp : Bx W2 W.heap.size (scP p a3 a4 a5 a6 a7 c3 c4 c5 c6 c7) := by rw [hW2]; exact (bx_new W #[.string ⟨p.name.toArray⟩, .int .i64 p.year, .slice a3 p.opts.length c3, .slice a4 p.tabs.length c4, .slice a5 p.grps.length c5, .slice a6 p.lns.length c6, .slice a7 p.cks.length c7] 28).kept (World.grownBy_alloc _ _ none) (by simp)
  have hbz : Bx W2 (W.heap.size + 1) [.int .i64 0, .int .i64 0, .int .i64 0, .slice none 0 0] := by
    have := bx_new (W.alloc (.cells #[.string ⟨p.name.toArray⟩, .int .i64 p.year, .slice a3 p.opts.length c3, .slice a4 p.tabs.length c4, .slice a5 p.grps.length c5, .slice a6 p.lns.length c6, .slice a7 p.cks.length c7] 28)) #[.int .i64 0, .int .i64 0, .int .i64 0, .slice none 0 0] 105
    rw [show (W.alloc (.cells #[.string ⟨p.name.toArray⟩, .int .i64 p.year, .slice a3 p.opts.length c3, .slice a4 p.tabs.length c4, .slice a5 p.grps.length c5, .slice a6 p.lns.length c6, .slice a7 p.cks.length c7] 28)).heap.size = W.heap.size + 1 by simp, ← hW2] at this
    exact this
  have hSH : Hid (∀ Y, Below W2.heap.size W2 Y → Y.cell? ⟨W.heap.size, 0, none⟩ = some (.string ⟨p.name.toArray⟩) ∧ Y.cell? ⟨W.heap.size, 1, none⟩ = some (.int .i64 p.year) ∧ Y.cell? ⟨W.heap.size, 2, none⟩ = some (.slice a3 p.opts.length c3) ∧ Y.cell? ⟨W.heap.size, 3, none⟩ = some (.slice a4 p.tabs.length c4) ∧ Y.cell? ⟨W.heap.size, 4, none⟩ = some (.slice a5 p.grps.length c5) ∧ Y.cell? ⟨W.heap.size, 5, none⟩ = some (.slice a6 p.lns.length c6) ∧ Y.cell? ⟨W.heap.size, 6, none⟩ = some (.slice a7 p.cks.length c7)) := ⟨fun Y hY => by
    have h2 := hbp.bel hY hbp.1
    exact ⟨h2.2.1 0 (by simp), h2.2.1 1 (by simp), h2.2.1 2 (by simp), h2.2.1 3 (by simp), h2.2.1 4 (by simp), h2.2.1 5 (by simp), h2.2.1 6 (by simp)⟩⟩
  have hbd : Below W2.heap.size W2 W2.drew := (Below.refl _ _).drew
  have hS0 := hSH.out _ hbd
  have hop0 := operators_any W2.drew
  obtain ⟨R, hR⟩ : ∃ R, ckP p = R := ⟨_, rfl⟩
  rw [hR]
  have hst : Hid (chR p (10 - 0) [] = R) := ⟨hR⟩
  obtain ⟨QQ, hQQ⟩ : ∃ QQ, ChP R W = QQ := ⟨_, rfl⟩
  rw [hQQ]
  have hQH := Hid.mk hQQ
  have hW2H := Hid.mk hW2
  have hs2H := Hid.mk hs2
  clear hQQ hW2 hs2 hR
  go_enter Tryz.func61, Tryz.ntmps61
  go_wp2_with fail
  rw [← hW2H.out]
  clear hW2H
  go_region_held3 (fun Y => Y.cell? ⟨W.heap.size, 0, none⟩ = some (.string ⟨p.name.toArray⟩) ∧ Y.cell? ⟨W.heap.size, 1, none⟩ = some (.int .i64 p.year) ∧ Y.cell? ⟨W.heap.size, 2, none⟩ = some (.slice a3 p.opts.length c3) ∧ Y.cell? ⟨W.heap.size, 3, none⟩ = some (.slice a4 p.tabs.length c4) ∧ Y.cell? ⟨W.heap.size, 4, none⟩ = some (.slice a5 p.grps.length c5) ∧ Y.cell? ⟨W.heap.size, 5, none⟩ = some (.slice a6 p.lns.length c6) ∧ Y.cell? ⟨W.heap.size, 6, none⟩ = some (.slice a7 p.cks.length c7)) (assumption)
    (first | (go_at_call 72; refine hop0.mono ?_; clear hop0; rintro e w1 ⟨rfl, hb1, hops⟩; have hb2 := bthr hbd hb1 (Nat.le_refl _); have hb4 : Below W2.heap.size W2 (w1.alloc (.cells #[.string ⟨p.name.toArray⟩, .int .i64 p.year, .slice a3 p.opts.length c3, .slice a4 p.tabs.length c4, .slice a5 p.grps.length c5, .slice a6 p.lns.length c6, .slice a7 p.cks.length c7, .slice (some ⟨W2.heap.size + 29, 0, none⟩) 42 42, .slice none 0 0] 155)) := hb2.alloc hb2.size _; have hSa := hSH.out _ hb2; have hSc := hSH.out _ hb4))
  have hops1 : OpsAt w1 W2.heap.size := hops
  obtain ⟨W3, hW3⟩ : ∃ W3, W3 = w1.alloc (.cells #[.string ⟨p.name.toArray⟩, .int .i64 p.year, .slice a3 p.opts.length c3, .slice a4 p.tabs.length c4, .slice a5 p.grps.length c5, .slice a6 p.lns.length c6, .slice a7 p.cks.length c7, .slice (some ⟨W2.heap.size + 29, 0, none⟩) 42 42, .slice none 0 0] 155) := ⟨_, rfl⟩
  rw [← hW3] at hb4 ⊢
  have hbc : Bx W3 w1.heap.size [.string ⟨p.name.toArray⟩, .int .i64 p.year, .slice a3 p.opts.length c3, .slice a4 p.tabs.length c4, .slice a5 p.grps.length c5, .slice a6 p.lns.length c6, .slice a7 p.cks.length c7, .slice (some ⟨W2.heap.size + 29, 0, none⟩) 42 42, .slice none 0 0] := by rw [hW3]; exact bx_new _ _ _
  have hBW3 : Below W.heap.size W W3 := bthr hB2 hb4 (Nat.le_refl _)
  have hops3 : OpsAt W3 W2.heap.size := by rw [hW3]; exact hops1.bel ((Below.refl _ _).alloc (Nat.le_refl _) _) hops1.1
  have hCk := cks_new (s := W2.heap.size) hp hpc hBW3 (Nat.le_trans hB2.size hb2.size) hbc hops3 hops1.1
  have hrb := hbz.bel hb4 hbz.1
  have hcbW : W.heap.size + 1 < w1.heap.size := by have := hb2.size; have := hs2H.out; omega
  obtain ⟨cb, hcbe⟩ : ∃ cb, cb = w1.heap.size := ⟨_, rfl⟩
  rw [← hcbe] at hCk hcbW ⊢
  obtain ⟨s, hse⟩ : ∃ s, s = W2.heap.size := ⟨_, rfl⟩
  rw [← hse] at hCk
  clear hSa hSc hS0 hSH hb4 hops hops1 hops3 hW3 hbc hb1 hb2 hcbe hse hbd hbp hbz
  obtain ⟨W4, hW4⟩ : ∃ W4, W4 = W3.alloc (.cells #[.func (Fn.func 73) #[.pointer (some ⟨cb, 0, none⟩)] #[], .func (Fn.func 74) #[.pointer (some ⟨cb, 0, none⟩)] #[], .func (Fn.func 75) #[.pointer (some ⟨cb, 0, none⟩)] #[], .func (Fn.func 76) #[.pointer (some ⟨cb, 0, none⟩)] #[], .func (Fn.func 77) #[.pointer (some ⟨cb, 0, none⟩)] #[], .func (Fn.func 78) #[.pointer (some ⟨cb, 0, none⟩)] #[], .func (Fn.func 79) #[.pointer (some ⟨cb, 0, none⟩)] #[], .func (Fn.func 80) #[.pointer (some ⟨cb, 0, none⟩)] #[], .func (Fn.func 81) #[.pointer (some ⟨cb, 0, none⟩)] #[], .func (Fn.func 82) #[.pointer (some ⟨cb, 0, none⟩)] #[]] 156) := ⟨_, rfl⟩
  have hB4 : Below W3.heap.size W3 W4 := by rw [hW4]; exact (Below.refl _ _).alloc (Nat.le_refl _) _
  have hbf : Bx W4 W3.heap.size [.func (Fn.func 73) #[.pointer (some ⟨cb, 0, none⟩)] #[], .func (Fn.func 74) #[.pointer (some ⟨cb, 0, none⟩)] #[], .func (Fn.func 75) #[.pointer (some ⟨cb, 0, none⟩)] #[], .func (Fn.func 76) #[.pointer (some ⟨cb, 0, none⟩)] #[], .func (Fn.func 77) #[.pointer (some ⟨cb, 0, none⟩)] #[], .func (Fn.func 78) #[.pointer (some ⟨cb, 0, none⟩)] #[], .func (Fn.func 79) #[.pointer (some ⟨cb, 0, none⟩)] #[], .func (Fn.func 80) #[.pointer (some ⟨cb, 0, none⟩)] #[], .func (Fn.func 81) #[.pointer (some ⟨cb, 0, none⟩)] #[], .func (Fn.func 82) #[.pointer (some ⟨cb, 0, none⟩)] #[]] := by rw [hW4]; exact bx_new _ _ _
  have hCk4 := hCk.bel hB4
  have hrb4 := hrb.bel hB4 hrb.1
  have hBW4 : Below W.heap.size W W4 := bthr hBW3 hB4 (Nat.le_refl _)
  have hcb3 := hCk.lt
  have hfc : Hid (∀ i, i < 10 → W4.cell? ⟨W3.heap.size, i, none⟩ = some (.func (Fn.func (fnOf i)) #[.pointer (some ⟨cb, 0, none⟩)] #[])) := ⟨fun i hi => by
    rcases (show i = 0 ∨ i = 1 ∨ i = 2 ∨ i = 3 ∨ i = 4 ∨ i = 5 ∨ i = 6 ∨ i = 7 ∨ i = 8 ∨ i = 9 by omega) with rfl | rfl | rfl | rfl | rfl | rfl | rfl | rfl | rfl | rfl
    all_goals first | exact hbf.2.1 0 (by simp) | exact hbf.2.1 1 (by simp) | exact hbf.2.1 2 (by simp) | exact hbf.2.1 3 (by simp) | exact hbf.2.1 4 (by simp) | exact hbf.2.1 5 (by simp) | exact hbf.2.1 6 (by simp) | exact hbf.2.1 7 (by simp) | exact hbf.2.1 8 (by simp) | exact hbf.2.1 9 (by simp)⟩
  have hfl : W3.heap.size < W4.heap.size := hbf.1
  have hW4H := Hid.mk hW4
  clear hW4 hbf hCk hrb
  go_wp2
  rw [← hW4H.out]
  clear hW4H
  go_loopw [35] (fun iv wr => ∃ (i : Nat) (sn : Sn) (sv : Value), iv = .int .i64 (i : Int) ∧ i ≤ 10 ∧ CkS p (scP p a3 a4 a5 a6 a7 c3 c4 c5 c6 c7) cb s wr sn sv ∧ Fr cb W4 (.slice none 0 0) wr sv ∧ Hid (Cnd p i sn) ∧ Hid (chR p (10 - i) sn = R)) (fun iv _ => 10 - (intOf iv).toNat)
  case atStart => exact ⟨0, [], .slice none 0 0, rfl, by decide, hCk4, Fr.refl _ _ _, ⟨⟨fun h => by omega, Nat.zero_le _, fun h => by omega⟩⟩, hst⟩
  case round =>
    obtain ⟨i, sn, sv, rfl, hi, hkr, hFr, hcn, hinv⟩ := hrel
    have hBr : Below W.heap.size W wr := hBW4.trans (hFr.below (by omega) hBW4.size (fun q hq => by cases hq))
    have hrr := hFr.box hrb4 (by omega) (by intro e; cases e)
    by_cases hlt : i < 10
    · have hlt' : (i : Int) < 10 := by omega
      have hi0 : (0 : Int) ≤ (i : Int) := by omega
      have hcell : wr.cell? ⟨W3.heap.size, i, none⟩ = some (.func (Fn.func (fnOf i)) #[.pointer (some ⟨cb, 0, none⟩)] #[]) := (World.cell?_of_block (a := ⟨W3.heap.size, i, none⟩) (hFr.blk W3.heap.size hfl (by omega) (by intro e; cases e))).trans (hfc.out i hlt)
      have hcall := stage_any p a3 a4 a5 a6 a7 c3 c4 c5 c6 c7 cb s i hlt wr sn sv hkr hcn.out hz
      have hinv2 := hinv.out
      rw [ch_step p hlt] at hinv2
      have hcs : Hid (∀ s', stg p i sn = (s', none) → Cnd p (i + 1) s') := ⟨fun s' hh => cnd_step hlt hcn.out hh⟩
      have hps : Hid (∀ s' f, stg p i sn = (s', some f) → 0 < f.2) := ⟨fun s' f hh => stg_pos hlt hh⟩
      obtain ⟨RR, hRR⟩ : ∃ RR, stg p i sn = RR := ⟨_, rfl⟩
      rw [hRR] at hcall hinv2 hcs hps
      have hen : ∀ (x : Array Value) (w : World), (callFunc (fnOf i) x).run Tryz.prog w = .ok (.enter (fnOf i) x) w := by
        clear hcell hcall hRR hinv2 hcs hps
        rcases (show i = 0 ∨ i = 1 ∨ i = 2 ∨ i = 3 ∨ i = 4 ∨ i = 5 ∨ i = 6 ∨ i = 7 ∨ i = 8 ∨ i = 9 by omega) with rfl | rfl | rfl | rfl | rfl | rfl | rfl | rfl | rfl | rfl <;> exact fun _ _ => by kernel_rfl
      obtain ⟨fn, hfn⟩ : ∃ fn, fnOf i = fn := ⟨_, rfl⟩
      rw [hfn] at hcell hcall hen
      clear hfn
      obtain ⟨s2, o2⟩ := RR
      clear hRR hinv
      cases o2 with
      | none =>
        have hs2 := Hid.mk hinv2
        have hc2 := Hid.mk (hcs.out s2 rfl)
        clear hinv2 hcs hps
        go_wp2_with fail
        refine hcall.mono ?_
        clear hcall
        rintro e w5 ⟨rfl, sv5, hk5, hF5⟩
        have hB5 : Below w5.heap.size w5 (w5.alloc (.cells #[.int .i64 0, .int .i64 0, .int .i64 0, .slice none 0 0] 105)) := (Below.refl _ _).alloc (Nat.le_refl _) _
        have hk6 := hk5.bel hB5
        have hF6 := (hFr.trans hF5).trans (Fr.bel hB5 _)
        go_wp2
        exact ⟨⟨i + 1, s2, sv5, (by first | rfl | go_num), hlt, hk6, hF6, hc2, hs2⟩, by simp only [intOf]; omega⟩
      | some f =>
        have hRH : Hid (R = some f) := ⟨hinv2.symm⟩
        have hpf := hps.out s2 f rfl
        have hne0 : (((f.2 : Nat) : Int) != 0) = true := by simp; omega
        clear hinv2 hcs hps
        go_wp2_with fail
        refine hcall.mono ?_
        clear hcall
        rintro e w5 ⟨⟨pv, rfl, hown⟩, sv5, hk5, hF5⟩
        obtain ⟨pa, pcap, rfl, -, -⟩ := own_int hown
        have hBw5 : Below W.heap.size W w5 := hBW4.trans ((hFr.trans hF5).below (by omega) hBW4.size (fun q hq => by cases hq))
        have hsvn : some (W.heap.size + 1) ≠ sv.ownBlock := fun e => by
          have := (hkr.pg _ e.symm).1
          omega
        have hr5 := hF5.box hrr (by omega) hsvn
        have hst5 : Below W.heap.size W w5 ∧ w5.ownsRow W.heap.size 3 1 (.slice pa f.1.path.length pcap) f.1.path.length (ptC f.1.path) := ⟨hBw5, own_base hown hBr.size⟩
        have hpn : (Value.slice pa f.1.path.length pcap).ownBlock = none ∨ (Value.slice pa f.1.path.length pcap).ownBlock ≠ some (W.heap.size + 1) := own_ge hown hrr.1
        have uq0 := hr5
        have ut0 := hst5
        have ug0 : w5.cell? ⟨W.heap.size + 1, 0, none⟩ = some (.int .i64 0) := uq0.2.1 0 (by simp)
        have uh0 := uq0.2.2 0
        have ul0 := uq0.1
        obtain ⟨U1, ux0⟩ : ∃ U1, w5.setCell ⟨W.heap.size + 1, 0, none⟩ (.int .i64 f.1.part) = U1 := ⟨_, rfl⟩
        have uq1 : Bx U1 (W.heap.size + 1) [(.int .i64 f.1.part), (.int .i64 0), (.int .i64 0), (.slice none 0 0)] := (by rw [← ux0]; exact uq0.set 0 (.int .i64 f.1.part))
        have ut1 : Below W.heap.size W U1 ∧ U1.ownsRow W.heap.size 3 1 (.slice pa f.1.path.length pcap) f.1.path.length (ptC f.1.path) := (by rw [← ux0]; exact ⟨ut0.1.setCell (p := ⟨W.heap.size + 1, 0, none⟩) (by show W.heap.size ≤ W.heap.size + 1; omega) _, ut0.2.kept (gr_set _ _ _ _) hpn⟩)
        have ug1 : U1.cell? ⟨W.heap.size + 1, 1, none⟩ = some (.int .i64 0) := uq1.2.1 1 (by simp)
        have uh1 := uq1.2.2 1
        have ul1 := uq1.1
        obtain ⟨U2, ux1⟩ : ∃ U2, U1.setCell ⟨W.heap.size + 1, 1, none⟩ (.int .i64 f.1.at_) = U2 := ⟨_, rfl⟩
        have uq2 : Bx U2 (W.heap.size + 1) [(.int .i64 f.1.part), (.int .i64 f.1.at_), (.int .i64 0), (.slice none 0 0)] := (by rw [← ux1]; exact uq1.set 1 (.int .i64 f.1.at_))
        have ut2 : Below W.heap.size W U2 ∧ U2.ownsRow W.heap.size 3 1 (.slice pa f.1.path.length pcap) f.1.path.length (ptC f.1.path) := (by rw [← ux1]; exact ⟨ut1.1.setCell (p := ⟨W.heap.size + 1, 1, none⟩) (by show W.heap.size ≤ W.heap.size + 1; omega) _, ut1.2.kept (gr_set _ _ _ _) hpn⟩)
        have ug2 : U2.cell? ⟨W.heap.size + 1, 2, none⟩ = some (.int .i64 0) := uq2.2.1 2 (by simp)
        have uh2 := uq2.2.2 2
        have ul2 := uq2.1
        obtain ⟨U3, ux2⟩ : ∃ U3, U2.setCell ⟨W.heap.size + 1, 2, none⟩ (.int .i64 f.1.clause) = U3 := ⟨_, rfl⟩
        have uq3 : Bx U3 (W.heap.size + 1) [(.int .i64 f.1.part), (.int .i64 f.1.at_), (.int .i64 f.1.clause), (.slice none 0 0)] := (by rw [← ux2]; exact uq2.set 2 (.int .i64 f.1.clause))
        have ut3 : Below W.heap.size W U3 ∧ U3.ownsRow W.heap.size 3 1 (.slice pa f.1.path.length pcap) f.1.path.length (ptC f.1.path) := (by rw [← ux2]; exact ⟨ut2.1.setCell (p := ⟨W.heap.size + 1, 2, none⟩) (by show W.heap.size ≤ W.heap.size + 1; omega) _, ut2.2.kept (gr_set _ _ _ _) hpn⟩)
        have ug3 : U3.cell? ⟨W.heap.size + 1, 3, none⟩ = some (.slice none 0 0) := uq3.2.1 3 (by simp)
        have uh3 := uq3.2.2 3
        have ul3 := uq3.1
        obtain ⟨U4, ux3⟩ : ∃ U4, U3.setCell ⟨W.heap.size + 1, 3, none⟩ (.slice pa f.1.path.length pcap) = U4 := ⟨_, rfl⟩
        have uq4 : Bx U4 (W.heap.size + 1) [(.int .i64 f.1.part), (.int .i64 f.1.at_), (.int .i64 f.1.clause), (.slice pa f.1.path.length pcap)] := (by rw [← ux3]; exact uq3.set 3 (.slice pa f.1.path.length pcap))
        have ut4 : Below W.heap.size W U4 ∧ U4.ownsRow W.heap.size 3 1 (.slice pa f.1.path.length pcap) f.1.path.length (ptC f.1.path) := (by rw [← ux3]; exact ⟨ut3.1.setCell (p := ⟨W.heap.size + 1, 3, none⟩) (by show W.heap.size ≤ W.heap.size + 1; omega) _, ut3.2.kept (gr_set _ _ _ _) hpn⟩)
        have hB5 : Below U4.heap.size U4 (U4.alloc (.cells #[.int .i64 f.1.part, .int .i64 f.1.at_, .int .i64 f.1.clause, .slice pa f.1.path.length pcap] 105)) := (Below.refl _ _).alloc (Nat.le_refl _) _
        have hff : QQ (.returned (.tuple #[.agg #[.int .i64 f.1.part, .int .i64 f.1.at_, .int .i64 f.1.clause, .slice pa f.1.path.length pcap], .int .i64 (f.2 : Int)])) (U4.alloc (.cells #[.int .i64 f.1.part, .int .i64 f.1.at_, .int .i64 f.1.clause, .slice pa f.1.path.length pcap] 105)) := by
          rw [← hQH.out, hRH.out]
          exact ⟨bel_thru ut4.1 ut4.1.size hB5, _, rfl, own_bel ut4.2 hB5⟩
        have uq5 := uq4.bel hB5 uq4.1
        have f0 := uq5.2.1 0 (by simp)
        have f1 := uq5.2.1 1 (by simp)
        have f2 := uq5.2.1 2 (by simp)
        have f3 := uq5.2.1 3 (by simp)
        have l4 := uq4.1
        clear uq0 uq1 uq2 uq3 uq4 uq5 ut0 ut1 ut2 ut3 ut4 hB5
        go_wp2
        exact bodyPost_ret (v := .tuple #[.agg #[.int .i64 f.1.part, .int .i64 f.1.at_, .int .i64 f.1.clause, .slice pa f.1.path.length pcap], .int .i64 (f.2 : Int)]) (by simp [results, Tryz.results61, go_sem, f0, f1, f2, f3]) rfl hff
    · have hlt' : ¬ (i : Int) < 10 := by omega
      have hri := hinv.out
      rw [show 10 - i = 0 by omega] at hri
      have hff : QQ (.returned (.tuple #[.agg #[.int .i64 0, .int .i64 0, .int .i64 0, .slice none 0 0], .int .i64 0])) wr := by
        rw [← hQH.out, ← hri]
        exact ⟨hBr, rfl⟩
      have f0 := hrr.2.1 0 (by simp)
      have f1 := hrr.2.1 1 (by simp)
      have f2 := hrr.2.1 2 (by simp)
      have f3 := hrr.2.1 3 (by simp)
      have z0 := hrr.2.2 0
      have z1 := hrr.2.2 1
      have z2 := hrr.2.2 2
      have z3 := hrr.2.2 3
      have j0 := set_id f0
      have j1 := set_id f1
      have j2 := set_id f2
      have j3 := set_id f3
      clear hinv hri
      go_wp2
      exact bodyPost_ret (v := .tuple #[.agg #[.int .i64 0, .int .i64 0, .int .i64 0, .slice none 0 0], .int .i64 0]) (by simp at f0 f1 f2 f3; simp [results, Tryz.results61, go_sem, f0, f1, f2, f3]) rfl hff
end Go.Proofs.YthnmjafoplfikaaGreatDoor
