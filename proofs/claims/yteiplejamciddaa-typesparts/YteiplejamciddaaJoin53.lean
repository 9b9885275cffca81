import Derived.Test.YteiplejamciddaaYCj
import Derived.Test.YteiplejamciddaaYC5
import Derived.Test.YteiplejamciddaaJoin52
import Derived.Test.YteiplejamciddaaTurnYCq
namespace Go.Proofs.Yteiplejamciddaa
open Go.RowKit

def szL (p : Pk) : List (Int × Int × Int × Int) := [(2, (p.opts.length : Int), 0, 4), (3, (p.tabs.length : Int), 0, 4), (4, (p.grps.length : Int), 0, 4), (5, (p.lns.length : Int), 1, 48), (6, (p.cks.length : Int), 0, 16)]
def szG : List (Int × Int × Int × Int) → Option (Sp × Nat)
  | [] => none
  | y :: r => if y.2.1 < y.2.2.1 ∨ y.2.2.2 < y.2.1 then some (⟨y.1, 0, -1, []⟩, 60) else szG r
theorem szF_eq (p : Pk) : szF p = szG (szL p) := by
  unfold szF szL
  simp only [szG]
  have e : ∀ (c d : Prop) [Decidable c] [Decidable d] (x y : Option (Sp × Nat)), (c ↔ d) → (if c then x else y) = (if d then x else y) := fun c d _ _ x y h => by by_cases hc : c; rw [if_pos hc, if_pos (h.1 hc)]; rw [if_neg hc, if_neg (fun h2 => hc (h.2 h2))]
  rw [e (4 < p.opts.length) ((p.opts.length : Int) < 0 ∨ 4 < (p.opts.length : Int)) _ _ (by omega), e (4 < p.tabs.length) ((p.tabs.length : Int) < 0 ∨ 4 < (p.tabs.length : Int)) _ _ (by omega), e (4 < p.grps.length) ((p.grps.length : Int) < 0 ∨ 4 < (p.grps.length : Int)) _ _ (by omega), e (p.lns.length < 1 ∨ 48 < p.lns.length) ((p.lns.length : Int) < 1 ∨ 48 < (p.lns.length : Int)) _ _ (by omega), e (16 < p.cks.length) ((p.cks.length : Int) < 0 ∨ 16 < (p.cks.length : Int)) _ _ (by omega)]
  rfl
theorem sz_step (l : List (Int × Int × Int × Int)) {i : Nat} (h : i < l.length) : szG (l.drop i) = (if l[i].2.1 < l[i].2.2.1 ∨ l[i].2.2.2 < l[i].2.1 then some (⟨l[i].1, 0, -1, []⟩, 60) else szG (l.drop (i + 1))) := by
  rw [List.drop_eq_getElem_cons h]
  rfl
set_option maxRecDepth 20000 in
set_option maxHeartbeats 2000000 in
theorem sizP_any (p : Pk) (a3 a4 a5 a6 a7 : Option Addr) (c3 c4 c5 c6 c7 : Nat) (cb s : Nat) (W : World) (seen : Sn) (sv : Value) (h : CkS p [.string ⟨p.name.toArray⟩, .int .i64 p.year, .slice a3 p.opts.length c3, .slice a4 p.tabs.length c4, .slice a5 p.grps.length c5, .slice a6 p.lns.length c6, .slice a7 p.cks.length c7] cb s W seen sv) : Calls Try.prog 12 #[.pointer (some ⟨cb, 0, none⟩)] W (PtP p [.string ⟨p.name.toArray⟩, .int .i64 p.year, .slice a3 p.opts.length c3, .slice a4 p.tabs.length c4, .slice a5 p.grps.length c5, .slice a6 p.lns.length c6, .slice a7 p.cks.length c7] cb s sv (seen, szF p) W) := by
  have hcb := h.lt
  obtain ⟨W1, hW1⟩ : ∃ W1, W1 = W.alloc (.cells #[.int .i64 0, .int .i64 0, .int .i64 0, .slice none 0 0] 41) := ⟨_, rfl⟩
  have hB1 : Below W.heap.size W W1 := by rw [hW1]; exact (Below.refl _ _).alloc (Nat.le_refl _) _
  have hbz : Bx W1 W.heap.size [.int .i64 0, .int .i64 0, .int .i64 0, .slice none 0 0] := by rw [hW1]; exact bx_new _ _ _
  have hk1 := h.bel hB1
  have hrb3 : some W.heap.size ≠ sv.ownBlock := fun e => by
    have := (h.pg _ e.symm).2
    omega
  have hrb1 : cb + 1 ≤ W.heap.size := hcb
  have hrb2 : W.heap.size ≤ W.heap.size := Nat.le_refl _
  obtain ⟨R, hR⟩ : ∃ R, szF p = R := ⟨_, rfl⟩
  rw [hR]
  obtain ⟨QQ, hQQ⟩ : ∃ QQ, PtP p [.string ⟨p.name.toArray⟩, .int .i64 p.year, .slice a3 p.opts.length c3, .slice a4 p.tabs.length c4, .slice a5 p.grps.length c5, .slice a6 p.lns.length c6, .slice a7 p.cks.length c7] cb s sv (seen, R) W = QQ := ⟨_, rfl⟩
  rw [hQQ]
  have hQH := Hid.mk hQQ
  have hW1H := Hid.mk hW1
  obtain ⟨q0, q1, q2, q3, q4, q5, q6⟩ := h.cells
  have hSt : Hid (∀ w, Below W1.heap.size W1 w → Bx w W.heap.size [.int .i64 0, .int .i64 0, .int .i64 0, .slice none 0 0] ∧ (CkS p [.string ⟨p.name.toArray⟩, .int .i64 p.year, .slice a3 p.opts.length c3, .slice a4 p.tabs.length c4, .slice a5 p.grps.length c5, .slice a6 p.lns.length c6, .slice a7 p.cks.length c7] cb s w seen sv ∧ Fr cb W sv w sv)) := ⟨fun w hw => ⟨hbz.bel hw hbz.1, hk1.bel hw, (Fr.bel hB1 _).trans (Fr.bel hw _)⟩⟩
  clear hQQ
  rw [szF_eq] at hR
  have hst : Hid (szG ((szL p).drop 0) = R) := ⟨by rw [List.drop_zero]; exact hR⟩
  have hlen : (szL p).length = 5 := rfl
  obtain ⟨W3, hW3⟩ : ∃ W3, W3 = (W1.alloc (.cells #[.string ⟨p.name.toArray⟩, .int .i64 p.year, .slice a3 p.opts.length c3, .slice a4 p.tabs.length c4, .slice a5 p.grps.length c5, .slice a6 p.lns.length c6, .slice a7 p.cks.length c7] 28)).alloc (.cells #[.int .i64 2, .int .i64 (p.opts.length : Int), .int .i64 0, .int .i64 4, .int .i64 3, .int .i64 (p.tabs.length : Int), .int .i64 0, .int .i64 4, .int .i64 4, .int .i64 (p.grps.length : Int), .int .i64 0, .int .i64 4, .int .i64 5, .int .i64 (p.lns.length : Int), .int .i64 1, .int .i64 48, .int .i64 6, .int .i64 (p.cks.length : Int), .int .i64 0, .int .i64 16] 90) := ⟨_, rfl⟩
  have hB3 : Below W1.heap.size W1 W3 := by rw [hW3]; exact ((Below.refl _ _).alloc (Nat.le_refl _) _).alloc (by simp) _
  have hs1 : W1.heap.size = W.heap.size + 1 := by rw [hW1H.out]; simp
  have hb20 : Bx W3 (W.heap.size + 1 + 1) [.int .i64 2, .int .i64 (p.opts.length : Int), .int .i64 0, .int .i64 4, .int .i64 3, .int .i64 (p.tabs.length : Int), .int .i64 0, .int .i64 4, .int .i64 4, .int .i64 (p.grps.length : Int), .int .i64 0, .int .i64 4, .int .i64 5, .int .i64 (p.lns.length : Int), .int .i64 1, .int .i64 48, .int .i64 6, .int .i64 (p.cks.length : Int), .int .i64 0, .int .i64 16] := by
    have := bx_new (W1.alloc (.cells #[.string ⟨p.name.toArray⟩, .int .i64 p.year, .slice a3 p.opts.length c3, .slice a4 p.tabs.length c4, .slice a5 p.grps.length c5, .slice a6 p.lns.length c6, .slice a7 p.cks.length c7] 28)) #[.int .i64 2, .int .i64 (p.opts.length : Int), .int .i64 0, .int .i64 4, .int .i64 3, .int .i64 (p.tabs.length : Int), .int .i64 0, .int .i64 4, .int .i64 4, .int .i64 (p.grps.length : Int), .int .i64 0, .int .i64 4, .int .i64 5, .int .i64 (p.lns.length : Int), .int .i64 1, .int .i64 48, .int .i64 6, .int .i64 (p.cks.length : Int), .int .i64 0, .int .i64 16] 90
    rw [show (W1.alloc (.cells #[.string ⟨p.name.toArray⟩, .int .i64 p.year, .slice a3 p.opts.length c3, .slice a4 p.tabs.length c4, .slice a5 p.grps.length c5, .slice a6 p.lns.length c6, .slice a7 p.cks.length c7] 28)).heap.size = W.heap.size + 1 + 1 by simp [hs1], ← hW3] at this
    exact this
  have hcell : ∀ i (h : i < (szL p).length), W3.cell? ⟨W.heap.size + 1 + 1, i * 4, none⟩ = some (.int .i64 ((szL p)[i]).1) ∧ W3.cell? ⟨W.heap.size + 1 + 1, i * 4 + 1, none⟩ = some (.int .i64 ((szL p)[i]).2.1) ∧ W3.cell? ⟨W.heap.size + 1 + 1, i * 4 + 2, none⟩ = some (.int .i64 ((szL p)[i]).2.2.1) ∧ W3.cell? ⟨W.heap.size + 1 + 1, i * 4 + 3, none⟩ = some (.int .i64 ((szL p)[i]).2.2.2) := fun i h => by
    rw [hlen] at h
    rcases (show i = 0 ∨ i = 1 ∨ i = 2 ∨ i = 3 ∨ i = 4 by omega) with rfl | rfl | rfl | rfl | rfl
    · exact ⟨hb20.2.1 0 (by simp), hb20.2.1 1 (by simp), hb20.2.1 2 (by simp), hb20.2.1 3 (by simp)⟩
    · exact ⟨hb20.2.1 4 (by simp), hb20.2.1 5 (by simp), hb20.2.1 6 (by simp), hb20.2.1 7 (by simp)⟩
    · exact ⟨hb20.2.1 8 (by simp), hb20.2.1 9 (by simp), hb20.2.1 10 (by simp), hb20.2.1 11 (by simp)⟩
    · exact ⟨hb20.2.1 12 (by simp), hb20.2.1 13 (by simp), hb20.2.1 14 (by simp), hb20.2.1 15 (by simp)⟩
    · exact ⟨hb20.2.1 16 (by simp), hb20.2.1 17 (by simp), hb20.2.1 18 (by simp), hb20.2.1 19 (by simp)⟩
  have hcH := Hid.mk hcell
  have hlt3 : W.heap.size + 1 + 1 < W3.heap.size := hb20.1
  have hW3H : Hid (W3 = (W1.alloc (.cells #[.string ⟨p.name.toArray⟩, .int .i64 p.year, .slice a3 p.opts.length c3, .slice a4 p.tabs.length c4, .slice a5 p.grps.length c5, .slice a6 p.lns.length c6, .slice a7 p.cks.length c7] 28)).alloc (.cells #[.int .i64 2, .int .i64 (p.opts.length : Int), .int .i64 0, .int .i64 4, .int .i64 3, .int .i64 (p.tabs.length : Int), .int .i64 0, .int .i64 4, .int .i64 4, .int .i64 (p.grps.length : Int), .int .i64 0, .int .i64 4, .int .i64 5, .int .i64 (p.lns.length : Int), .int .i64 1, .int .i64 48, .int .i64 6, .int .i64 (p.cks.length : Int), .int .i64 0, .int .i64 16] 90)) := ⟨hW3⟩
  clear hR hcell hb20 hW3 hk1 hbz hs1 hlen
  go_enter Try.func12, Try.ntmps12
  go_wp2
  rw [← hW1H.out, ← hW3H.out]
  go_loopw [33] (fun iv wr => ∃ i : Nat, iv = .int .i64 (i : Int) ∧ i ≤ 5 ∧ Below W3.heap.size W3 wr ∧ Hid (szG ((szL p).drop i) = R)) (fun iv _ => 5 - (intOf iv).toNat)
  case atStart => exact ⟨0, rfl, by decide, Below.refl _ _, hst⟩
  case round =>
    obtain ⟨i, rfl, hi, hBr, hinv⟩ := hrel
    obtain ⟨hbr3, hk_st⟩ := hSt.out wr (bthr hB3 hBr (Nat.le_refl _))
    by_cases hlt : i < 5
    · have hlt' : (i : Int) < 5 := by omega
      have hi0 : (0 : Int) ≤ (i : Int) := by omega
      have hlt2 : i < (szL p).length := hlt
      obtain ⟨d0, d1, d2, d3⟩ := hcH.out i hlt2
      have e0 := (bel_cell hBr hlt3 (i * 4)).trans d0
      have e1 := (bel_cell hBr hlt3 (i * 4 + 1)).trans d1
      have e2 := (bel_cell hBr hlt3 (i * 4 + 2)).trans d2
      have e3 := (bel_cell hBr hlt3 (i * 4 + 3)).trans d3
      have hltr : W.heap.size + 1 + 1 < wr.heap.size := Nat.lt_of_lt_of_le hlt3 hBr.size
      have hinv2 := hinv.out
      rw [sz_step _ hlt2] at hinv2
      generalize (szL p)[i] = y at e0 e1 e2 e3 hinv2
      clear d0 d1 d2 d3 hinv
      by_cases h1 : y.2.1 < y.2.2.1
      · rw [if_pos (.inl h1)] at hinv2
        have hRH := Hid.mk hinv2.symm
        clear hinv2
        have hq0 := hbr3
        have kg0 : wr.cell? ⟨W.heap.size, 0, none⟩ = some (.int .i64 0) := hq0.2.1 0 (by simp)
        have kh0 := hq0.2.2 0; have kl0 := hq0.1
        obtain ⟨X1, hx0⟩ : ∃ X1, wr.setCell ⟨W.heap.size, 0, none⟩ (.int .i64 y.1) = X1 := ⟨_, rfl⟩
        have hq1 : Bx X1 W.heap.size [(.int .i64 y.1), (.int .i64 0), (.int .i64 0), (.slice none 0 0)] := (by rw [← hx0]; exact hq0.set 0 (.int .i64 y.1))
        have kg1 : X1.cell? ⟨W.heap.size, 1, none⟩ = some (.int .i64 0) := hq1.2.1 1 (by simp)
        have kh1 := hq1.2.2 1; have kl1 := hq1.1
        obtain ⟨X2, hx1⟩ : ∃ X2, X1.setCell ⟨W.heap.size, 1, none⟩ (.int .i64 0) = X2 := ⟨_, rfl⟩
        have hq2 : Bx X2 W.heap.size [(.int .i64 y.1), (.int .i64 0), (.int .i64 0), (.slice none 0 0)] := (by rw [← hx1]; exact hq1.set 1 (.int .i64 0))
        have kg2 : X2.cell? ⟨W.heap.size, 2, none⟩ = some (.int .i64 0) := hq2.2.1 2 (by simp)
        have kh2 := hq2.2.2 2; have kl2 := hq2.1
        obtain ⟨X3, hx2⟩ : ∃ X3, X2.setCell ⟨W.heap.size, 2, none⟩ (.int .i64 (-1)) = X3 := ⟨_, rfl⟩
        have hq3 : Bx X3 W.heap.size [(.int .i64 y.1), (.int .i64 0), (.int .i64 (-1)), (.slice none 0 0)] := (by rw [← hx2]; exact hq2.set 2 (.int .i64 (-1)))
        have kg3 : X3.cell? ⟨W.heap.size, 3, none⟩ = some (.slice none 0 0) := hq3.2.1 3 (by simp)
        have kh3 := hq3.2.2 3; have kl3 := hq3.1
        obtain ⟨X4, hx3⟩ : ∃ X4, X3.setCell ⟨W.heap.size, 3, none⟩ (.slice none 0 0) = X4 := ⟨_, rfl⟩
        have hq4 : Bx X4 W.heap.size [(.int .i64 y.1), (.int .i64 0), (.int .i64 (-1)), (.slice none 0 0)] := (by rw [← hx3]; exact hq3.set 3 (.slice none 0 0))
        have ht0 := hk_st
        have ht1 : CkS p [.string ⟨p.name.toArray⟩, .int .i64 p.year, .slice a3 p.opts.length c3, .slice a4 p.tabs.length c4, .slice a5 p.grps.length c5, .slice a6 p.lns.length c6, .slice a7 p.cks.length c7] cb s X1 seen sv ∧ Fr cb W sv X1 sv := (by rw [← hx0]; exact ck_set ht0 hrb1 hrb2 hrb3 0 (.int .i64 y.1))
        have ht2 : CkS p [.string ⟨p.name.toArray⟩, .int .i64 p.year, .slice a3 p.opts.length c3, .slice a4 p.tabs.length c4, .slice a5 p.grps.length c5, .slice a6 p.lns.length c6, .slice a7 p.cks.length c7] cb s X2 seen sv ∧ Fr cb W sv X2 sv := (by rw [← hx1]; exact ck_set ht1 hrb1 hrb2 hrb3 1 (.int .i64 0))
        have ht3 : CkS p [.string ⟨p.name.toArray⟩, .int .i64 p.year, .slice a3 p.opts.length c3, .slice a4 p.tabs.length c4, .slice a5 p.grps.length c5, .slice a6 p.lns.length c6, .slice a7 p.cks.length c7] cb s X3 seen sv ∧ Fr cb W sv X3 sv := (by rw [← hx2]; exact ck_set ht2 hrb1 hrb2 hrb3 2 (.int .i64 (-1)))
        have ht4 : CkS p [.string ⟨p.name.toArray⟩, .int .i64 p.year, .slice a3 p.opts.length c3, .slice a4 p.tabs.length c4, .slice a5 p.grps.length c5, .slice a6 p.lns.length c6, .slice a7 p.cks.length c7] cb s X4 seen sv ∧ Fr cb W sv X4 sv := (by rw [← hx3]; exact ck_set ht3 hrb1 hrb2 hrb3 3 (.slice none 0 0))
        have hB5 : Below X4.heap.size X4 ((X4.alloc (.cells #[.int .i64 y.1, .int .i64 y.2.1, .int .i64 y.2.2.1, .int .i64 y.2.2.2] 90)).alloc (.cells #[.int .i64 y.1, .int .i64 0, .int .i64 (-1), .slice none 0 0] 41)) := (((Below.refl X4.heap.size X4).alloc (Nat.le_refl _) _).alloc (by simp) _)
        have hff : QQ (.returned (.tuple #[.agg #[.int .i64 y.1, .int .i64 0, .int .i64 (-1), .slice none 0 0], .int .i64 60])) ((X4.alloc (.cells #[.int .i64 y.1, .int .i64 y.2.1, .int .i64 y.2.2.1, .int .i64 y.2.2.2] 90)).alloc (.cells #[.int .i64 y.1, .int .i64 0, .int .i64 (-1), .slice none 0 0] 41)) := by
          rw [← hQH.out, hRH.out]
          exact ⟨rfl, sv, ht4.1.bel hB5, ht4.2.trans (Fr.bel hB5 _)⟩
        have hq5 := hq4.bel hB5 hq4.1
        have f0 := hq5.2.1 0 (by simp)
        have f1 := hq5.2.1 1 (by simp)
        have f2 := hq5.2.1 2 (by simp)
        have f3 := hq5.2.1 3 (by simp)
        have l4 := hq4.1
        clear hq0 hq1 hq2 hq3 hq4 hq5 ht0 ht1 ht2 ht3 ht4 hk_st hbr3
        go_wp2_with (go_at_call 37; refine (itemAt_any _ _ _).mono ?_; rintro e w9 ⟨rfl, rfl⟩)
        exact bodyPost_ret (v := .tuple #[.agg #[.int .i64 y.1, .int .i64 0, .int .i64 (-1), .slice none 0 0], .int .i64 60]) (by simp [results, Try.results12, go_sem, f0, f1, f2, f3]) rfl hff
      · by_cases h2 : y.2.2.2 < y.2.1
        · rw [if_pos (.inr h2)] at hinv2
          have hRH := Hid.mk hinv2.symm
          clear hinv2
          have hq0 := hbr3
          have kg0 : wr.cell? ⟨W.heap.size, 0, none⟩ = some (.int .i64 0) := hq0.2.1 0 (by simp)
          have kh0 := hq0.2.2 0; have kl0 := hq0.1
          obtain ⟨X1, hx0⟩ : ∃ X1, wr.setCell ⟨W.heap.size, 0, none⟩ (.int .i64 y.1) = X1 := ⟨_, rfl⟩
          have hq1 : Bx X1 W.heap.size [(.int .i64 y.1), (.int .i64 0), (.int .i64 0), (.slice none 0 0)] := (by rw [← hx0]; exact hq0.set 0 (.int .i64 y.1))
          have kg1 : X1.cell? ⟨W.heap.size, 1, none⟩ = some (.int .i64 0) := hq1.2.1 1 (by simp)
          have kh1 := hq1.2.2 1; have kl1 := hq1.1
          obtain ⟨X2, hx1⟩ : ∃ X2, X1.setCell ⟨W.heap.size, 1, none⟩ (.int .i64 0) = X2 := ⟨_, rfl⟩
          have hq2 : Bx X2 W.heap.size [(.int .i64 y.1), (.int .i64 0), (.int .i64 0), (.slice none 0 0)] := (by rw [← hx1]; exact hq1.set 1 (.int .i64 0))
          have kg2 : X2.cell? ⟨W.heap.size, 2, none⟩ = some (.int .i64 0) := hq2.2.1 2 (by simp)
          have kh2 := hq2.2.2 2; have kl2 := hq2.1
          obtain ⟨X3, hx2⟩ : ∃ X3, X2.setCell ⟨W.heap.size, 2, none⟩ (.int .i64 (-1)) = X3 := ⟨_, rfl⟩
          have hq3 : Bx X3 W.heap.size [(.int .i64 y.1), (.int .i64 0), (.int .i64 (-1)), (.slice none 0 0)] := (by rw [← hx2]; exact hq2.set 2 (.int .i64 (-1)))
          have kg3 : X3.cell? ⟨W.heap.size, 3, none⟩ = some (.slice none 0 0) := hq3.2.1 3 (by simp)
          have kh3 := hq3.2.2 3; have kl3 := hq3.1
          obtain ⟨X4, hx3⟩ : ∃ X4, X3.setCell ⟨W.heap.size, 3, none⟩ (.slice none 0 0) = X4 := ⟨_, rfl⟩
          have hq4 : Bx X4 W.heap.size [(.int .i64 y.1), (.int .i64 0), (.int .i64 (-1)), (.slice none 0 0)] := (by rw [← hx3]; exact hq3.set 3 (.slice none 0 0))
          have ht0 := hk_st
          have ht1 : CkS p [.string ⟨p.name.toArray⟩, .int .i64 p.year, .slice a3 p.opts.length c3, .slice a4 p.tabs.length c4, .slice a5 p.grps.length c5, .slice a6 p.lns.length c6, .slice a7 p.cks.length c7] cb s X1 seen sv ∧ Fr cb W sv X1 sv := (by rw [← hx0]; exact ck_set ht0 hrb1 hrb2 hrb3 0 (.int .i64 y.1))
          have ht2 : CkS p [.string ⟨p.name.toArray⟩, .int .i64 p.year, .slice a3 p.opts.length c3, .slice a4 p.tabs.length c4, .slice a5 p.grps.length c5, .slice a6 p.lns.length c6, .slice a7 p.cks.length c7] cb s X2 seen sv ∧ Fr cb W sv X2 sv := (by rw [← hx1]; exact ck_set ht1 hrb1 hrb2 hrb3 1 (.int .i64 0))
          have ht3 : CkS p [.string ⟨p.name.toArray⟩, .int .i64 p.year, .slice a3 p.opts.length c3, .slice a4 p.tabs.length c4, .slice a5 p.grps.length c5, .slice a6 p.lns.length c6, .slice a7 p.cks.length c7] cb s X3 seen sv ∧ Fr cb W sv X3 sv := (by rw [← hx2]; exact ck_set ht2 hrb1 hrb2 hrb3 2 (.int .i64 (-1)))
          have ht4 : CkS p [.string ⟨p.name.toArray⟩, .int .i64 p.year, .slice a3 p.opts.length c3, .slice a4 p.tabs.length c4, .slice a5 p.grps.length c5, .slice a6 p.lns.length c6, .slice a7 p.cks.length c7] cb s X4 seen sv ∧ Fr cb W sv X4 sv := (by rw [← hx3]; exact ck_set ht3 hrb1 hrb2 hrb3 3 (.slice none 0 0))
          have hB5 : Below X4.heap.size X4 ((X4.alloc (.cells #[.int .i64 y.1, .int .i64 y.2.1, .int .i64 y.2.2.1, .int .i64 y.2.2.2] 90)).alloc (.cells #[.int .i64 y.1, .int .i64 0, .int .i64 (-1), .slice none 0 0] 41)) := (((Below.refl X4.heap.size X4).alloc (Nat.le_refl _) _).alloc (by simp) _)
          have hff : QQ (.returned (.tuple #[.agg #[.int .i64 y.1, .int .i64 0, .int .i64 (-1), .slice none 0 0], .int .i64 60])) ((X4.alloc (.cells #[.int .i64 y.1, .int .i64 y.2.1, .int .i64 y.2.2.1, .int .i64 y.2.2.2] 90)).alloc (.cells #[.int .i64 y.1, .int .i64 0, .int .i64 (-1), .slice none 0 0] 41)) := by
            rw [← hQH.out, hRH.out]
            exact ⟨rfl, sv, ht4.1.bel hB5, ht4.2.trans (Fr.bel hB5 _)⟩
          have hq5 := hq4.bel hB5 hq4.1
          have f0 := hq5.2.1 0 (by simp)
          have f1 := hq5.2.1 1 (by simp)
          have f2 := hq5.2.1 2 (by simp)
          have f3 := hq5.2.1 3 (by simp)
          have l4 := hq4.1
          clear hq0 hq1 hq2 hq3 hq4 hq5 ht0 ht1 ht2 ht3 ht4 hk_st hbr3
          go_wp2_with (go_at_call 37; refine (itemAt_any _ _ _).mono ?_; rintro e w9 ⟨rfl, rfl⟩)
          exact bodyPost_ret (v := .tuple #[.agg #[.int .i64 y.1, .int .i64 0, .int .i64 (-1), .slice none 0 0], .int .i64 60]) (by simp [results, Try.results12, go_sem, f0, f1, f2, f3]) rfl hff
        · rw [if_neg (fun h => h.elim h1 h2)] at hinv2
          have hs2 := Hid.mk hinv2
          have hal : Below W3.heap.size W3 (wr.alloc (.cells #[.int .i64 y.1, .int .i64 y.2.1, .int .i64 y.2.2.1, .int .i64 y.2.2.2] 90)) := hBr.alloc hBr.size _
          clear hinv2 hbr3 hk_st
          go_wp2
          exact ⟨⟨i + 1, rfl, hlt, hal, hs2⟩, by simp only [intOf]; omega⟩
    · have hlt' : ¬ (i : Int) < 5 := by omega
      have hri := hinv.out
      rw [List.drop_eq_nil_of_le (by show (szL p).length ≤ i; have : (szL p).length = 5 := rfl; omega)] at hri
      have hRH := Hid.mk hri.symm
      clear hri hinv
      have hff : QQ (.returned (.tuple #[.agg #[.int .i64 0, .int .i64 0, .int .i64 0, .slice none 0 0], .int .i64 0])) wr := by
        rw [← hQH.out, hRH.out]
        exact ⟨rfl, sv, hk_st.1, hk_st.2⟩
      have f0 := hbr3.2.1 0 (by simp)
      have z0 := hbr3.2.2 0
      have f1 := hbr3.2.1 1 (by simp)
      have z1 := hbr3.2.2 1
      have f2 := hbr3.2.1 2 (by simp)
      have z2 := hbr3.2.2 2
      have f3 := hbr3.2.1 3 (by simp)
      have z3 := hbr3.2.2 3
      have j0 := set_id f0
      have j1 := set_id f1
      have j2 := set_id f2
      have j3 := set_id f3
      clear hbr3 hk_st
      go_wp2
      exact bodyPost_ret (v := .tuple #[.agg #[.int .i64 0, .int .i64 0, .int .i64 0, .slice none 0 0], .int .i64 0]) (by simp at f0 f1 f2 f3; simp [results, Try.results12, go_sem, f0, f1, f2, f3]) rfl hff
end Go.Proofs.Yteiplejamciddaa


namespace Go.Proofs.Yteiplejamciddaa
open Go.RowKit

theorem rwF_b (g : List UInt8 × Int) : 0 ≤ rwF g ∧ rwF g ≤ 8 := by
  unfold rwF
  omega
theorem ceF_b (p : Pk) (g : Int) : 0 ≤ ceF p g ∧ ceF p g ≤ 8 := by
  unfold ceF
  split
  · exact rwF_b _
  · decide
set_option maxRecDepth 20000 in
set_option maxHeartbeats 1500000 in
theorem Cells_any (p : Pk) (a3 a4 a5 a6 a7 : Option Addr) (c3 c4 c5 c6 c7 : Nat) (W : World) (hR5 : RowR eG W AnyB p.grps a5) (hR6 : RowR eL W AnyB p.lns a6) (hR7 : RowR eK W AnyB p.cks a7) (h5 : p.grps.length ≤ 1000000) (h6 : p.lns.length ≤ 1000000) (h7 : p.cks.length ≤ 1000000) : Calls Try.prog 9 #[.agg #[.string ⟨p.name.toArray⟩, .int .i64 p.year, .slice a3 p.opts.length c3, .slice a4 p.tabs.length c4, .slice a5 p.grps.length c5, .slice a6 p.lns.length c6, .slice a7 p.cks.length c7]] W (Lk (.int .i64 (cesF p)) W) := by
  obtain ⟨T1, hT1e⟩ : ∃ T1, (p.lns.map (fun l => ceF p l.group)).sum = T1 := ⟨_, rfl⟩
  obtain ⟨T2, hT2e⟩ : ∃ T2, T1 + (p.cks.map (fun c => ceF p c.group)).sum = T2 := ⟨_, rfl⟩
  obtain ⟨T3, hT3e⟩ : ∃ T3, T2 + (p.grps.map rwF).sum = T3 := ⟨_, rfl⟩
  have hces : cesF p = T3 := by unfold cesF; rw [hT1e, hT2e, hT3e]
  rw [hces]
  have hT1 := Hid.mk hT2e
  have hT2 := Hid.mk hT3e
  have hT1z : (0 : Int) + (p.lns.map (fun l => ceF p l.group)).sum = T1 := by rw [hT1e, Int.zero_add]
  obtain ⟨W1, hW1⟩ : ∃ W1, W1 = W.alloc (.cells #[.string ⟨p.name.toArray⟩, .int .i64 p.year, .slice a3 p.opts.length c3, .slice a4 p.tabs.length c4, .slice a5 p.grps.length c5, .slice a6 p.lns.length c6, .slice a7 p.cks.length c7] 28) := ⟨_, rfl⟩
  have hB1 : Below W.heap.size W W1 := by rw [hW1]; exact (Below.refl _ _).alloc (Nat.le_refl _) _
  have hbp : Bx W1 W.heap.size [.string ⟨p.name.toArray⟩, .int .i64 p.year, .slice a3 p.opts.length c3, .slice a4 p.tabs.length c4, .slice a5 p.grps.length c5, .slice a6 p.lns.length c6, .slice a7 p.cks.length c7] := by rw [hW1]; exact bx_new _ _ _
  have hP : Hid (∀ w, Below W1.heap.size W1 w → w.cell? ⟨W.heap.size, 0, none⟩ = some (.string ⟨p.name.toArray⟩) ∧ w.cell? ⟨W.heap.size, 1, none⟩ = some (.int .i64 p.year) ∧ w.cell? ⟨W.heap.size, 2, none⟩ = some (.slice a3 p.opts.length c3) ∧ w.cell? ⟨W.heap.size, 3, none⟩ = some (.slice a4 p.tabs.length c4) ∧ w.cell? ⟨W.heap.size, 4, none⟩ = some (.slice a5 p.grps.length c5) ∧ w.cell? ⟨W.heap.size, 5, none⟩ = some (.slice a6 p.lns.length c6) ∧ w.cell? ⟨W.heap.size, 6, none⟩ = some (.slice a7 p.cks.length c7)) := ⟨fun w hw => by
    have h2 := hbp.bel hw hbp.1
    exact ⟨h2.2.1 0 (by simp), h2.2.1 1 (by simp), h2.2.1 2 (by simp), h2.2.1 3 (by simp), h2.2.1 4 (by simp), h2.2.1 5 (by simp), h2.2.1 6 (by simp)⟩⟩
  have hcin : Hid (∀ g X, Below W.heap.size W X → Calls Try.prog 22 #[.agg #[.string ⟨p.name.toArray⟩, .int .i64 p.year, .slice a3 p.opts.length c3, .slice a4 p.tabs.length c4, .slice a5 p.grps.length c5, .slice a6 p.lns.length c6, .slice a7 p.cks.length c7], .int .i64 g] X (Lk (.int .i64 (ceF p g)) X)) := ⟨fun g X hX => cellsIn_any p g a3 a4 a5 a6 a7 c3 c4 c5 c6 c7 X (row_bel hR5 hX (Nat.le_refl _))⟩
  have hW1H := Hid.mk hW1
  have h5' : (p.grps.length : Int) ≤ 1000000 := by omega
  have h6' : (p.lns.length : Int) ≤ 1000000 := by omega
  have h7' : (p.cks.length : Int) ≤ 1000000 := by omega
  clear hW1 hces hT1e hT2e hT3e
  subst hT1z
  go_enter Try.func9, Try.ntmps9
  go_wp2
  rw [← hW1H.out]
  clear hW1H
  go_loopw [3, 13] (fun nv iv wr => ∃ (i : Nat) (n : Int), nv = .int .i64 n ∧ iv = .int .i64 (i : Int) ∧ i ≤ p.lns.length ∧ Below W1.heap.size W1 wr ∧ 0 ≤ n ∧ n ≤ 0 + 8 * (i : Int) ∧ Hid (n + ((p.lns.drop i).map (fun l => ceF p l.group)).sum = (0 + (p.lns.map (fun l => ceF p l.group)).sum))) (fun _ iv _ => p.lns.length - (intOf iv).toNat)
  case atStart => exact ⟨0, 0, rfl, rfl, Nat.zero_le _, Below.refl _ _, Int.le_refl _, by omega, ⟨by rw [List.drop_zero]⟩⟩
  case round =>
    obtain ⟨i, n, rfl, rfl, hi, hBr, hn0, hn1, hinv⟩ := hrel
    obtain ⟨p0, p1, p2, p3, p4, p5, p6⟩ := hP.out wr hBr
    have hBw := bthr hB1 hBr (Nat.le_refl _)
    have hlr : W.heap.size < wr.heap.size := World.block_lt_of_cell? _ _ p0
    by_cases hlt : i < p.lns.length
    · have hlt' : (i : Int) < (p.lns.length : Int) := by omega
      have hi0 : (0 : Int) ≤ (i : Int) := by omega
      have hRr := row_bel hR6 hBw (Nat.le_refl _)
      obtain ⟨ge, oe, hga⟩ := hRr.some hlt
      subst hga
      obtain ⟨cs, -, -, ⟨an, cn, rfl, -⟩, hcs⟩ := hRr.item hlt
      have kx : wr.cell? ⟨ge, oe + i * 7, none⟩ = some (.string ⟨p.lns[i].name.toArray⟩) ∧ wr.cell? ⟨ge, oe + i * 7 + 1, none⟩ = some (.bool p.lns[i].input) ∧ wr.cell? ⟨ge, oe + i * 7 + 2, none⟩ = some (.bool p.lns[i].must) ∧ wr.cell? ⟨ge, oe + i * 7 + 3, none⟩ = some (.int .i64 p.lns[i].type) ∧ wr.cell? ⟨ge, oe + i * 7 + 4, none⟩ = some (.int .i64 p.lns[i].opts) ∧ wr.cell? ⟨ge, oe + i * 7 + 5, none⟩ = some (.int .i64 p.lns[i].group) ∧ wr.cell? ⟨ge, oe + i * 7 + 6, none⟩ = some (.slice an p.lns[i].cls.length cn) := ⟨hcs 0 (by decide), hcs 1 (by decide), hcs 2 (by decide), hcs 3 (by decide), hcs 4 (by decide), hcs 5 (by decide), hcs 6 (by decide)⟩
      have hinv2 := hinv.out
      rw [List.drop_eq_getElem_cons hlt, List.map_cons, List.sum_cons] at hinv2
      generalize p.lns[i] = y at kx hinv2
      have hcy := ceF_b p y.group
      have hadd : Hid ((n + ceF p y.group) + ((p.lns.drop (i + 1)).map (fun l => ceF p l.group)).sum = (0 + (p.lns.map (fun l => ceF p l.group)).sum)) := ⟨by rw [← hinv2, Int.add_assoc]⟩
      have hal : Below W1.heap.size W1 (wr.alloc (.cells #[.string ⟨y.name.toArray⟩, .bool y.input, .bool y.must, .int .i64 y.type, .int .i64 y.opts, .int .i64 y.group, .slice an y.cls.length cn] 49)) := hBr.alloc hBr.size _
      have hcall := hcin.out y.group (wr.alloc (.cells #[.string ⟨y.name.toArray⟩, .bool y.input, .bool y.must, .int .i64 y.type, .int .i64 y.opts, .int .i64 y.group, .slice an y.cls.length cn] 49)) (bthr hBw ((Below.refl _ _).alloc (Nat.le_refl _) _) (Nat.le_refl _))
      obtain ⟨d0, d1, d2, d3, d4, d5, d6⟩ := kx
      generalize ceF p y.group = z at hcy hadd hcall
      clear hcs hRr hinv hinv2
      go_wp2_with (go_at_call 22; refine hcall.mono ?_; clear hcall; rintro e w2 ⟨rfl, hb2⟩; have hb3 := bthr hal hb2 (Nat.le_refl _))
      exact ⟨⟨i + 1, n + z, (by first | rfl | go_num), (by first | rfl | go_num), hlt, hb3, by omega, by omega, hadd⟩, by simp only [intOf]; omega⟩
    · have hlt' : ¬ (i : Int) < (p.lns.length : Int) := by omega
      have hri := hinv.out
      rw [List.drop_eq_nil_of_le (by omega), List.map_nil, List.sum_nil, Int.add_zero] at hri
      obtain ⟨n1, hn1e⟩ : ∃ n1, n = n1 := ⟨_, rfl⟩
      rw [hn1e] at hri hn0 hn1 ⊢
      clear hinv hn1e
      have hn1' : n1 ≤ 8000000 := by omega
      have hBa := hBr
      have hT2e : n1 + (p.cks.map (fun c => ceF p c.group)).sum = T2 := by rw [hri]; exact hT1.out
      clear hri hn1
      subst hT2e
      go_wp2
      go_loopw [3, 27] (fun nv iv wr => ∃ (i : Nat) (n : Int), nv = .int .i64 n ∧ iv = .int .i64 (i : Int) ∧ i ≤ p.cks.length ∧ Below W1.heap.size W1 wr ∧ n1 ≤ n ∧ n ≤ n1 + 8 * (i : Int) ∧ Hid (n + ((p.cks.drop i).map (fun c => ceF p c.group)).sum = (n1 + (p.cks.map (fun c => ceF p c.group)).sum))) (fun _ iv _ => p.cks.length - (intOf iv).toNat)
      case atStart => exact ⟨0, n1, rfl, rfl, Nat.zero_le _, hBa, Int.le_refl _, by omega, ⟨by rw [List.drop_zero]⟩⟩
      case round =>
        obtain ⟨i, n, rfl, rfl, hi, hBr, hn0, hn1, hinv⟩ := hrel
        obtain ⟨p0, p1, p2, p3, p4, p5, p6⟩ := hP.out wr hBr
        have hBw := bthr hB1 hBr (Nat.le_refl _)
        have hlr : W.heap.size < wr.heap.size := World.block_lt_of_cell? _ _ p0
        by_cases hlt : i < p.cks.length
        · have hlt' : (i : Int) < (p.cks.length : Int) := by omega
          have hi0 : (0 : Int) ≤ (i : Int) := by omega
          have hRr := row_bel hR7 hBw (Nat.le_refl _)
          obtain ⟨ge, oe, hga⟩ := hRr.some hlt
          subst hga
          obtain ⟨cs, -, -, ⟨an, cn, rfl, -⟩, hcs⟩ := hRr.item hlt
          have kx : wr.cell? ⟨ge, oe + i * 9, none⟩ = some (.string ⟨p.cks[i].name.toArray⟩) ∧ wr.cell? ⟨ge, oe + i * 9 + 1, none⟩ = some (.bool p.cks[i].hard) ∧ wr.cell? ⟨ge, oe + i * 9 + 2, none⟩ = some (.int .i64 p.cks[i].group) ∧ wr.cell? ⟨ge, oe + i * 9 + 3, none⟩ = some (.int .i64 p.cks[i].when_.op) ∧ wr.cell? ⟨ge, oe + i * 9 + 4, none⟩ = some (.int .i64 p.cks[i].when_.num) ∧ wr.cell? ⟨ge, oe + i * 9 + 5, none⟩ = some (.int .i64 p.cks[i].when_.den) ∧ wr.cell? ⟨ge, oe + i * 9 + 6, none⟩ = some (.int .i64 p.cks[i].when_.mode) ∧ wr.cell? ⟨ge, oe + i * 9 + 7, none⟩ = some (.slice an p.cks[i].when_.args.len cn) ∧ wr.cell? ⟨ge, oe + i * 9 + 8, none⟩ = some (.string ⟨p.cks[i].text.toArray⟩) := ⟨hcs 0 (by decide), hcs 1 (by decide), hcs 2 (by decide), hcs 3 (by decide), hcs 4 (by decide), hcs 5 (by decide), hcs 6 (by decide), hcs 7 (by decide), hcs 8 (by decide)⟩
          have hinv2 := hinv.out
          rw [List.drop_eq_getElem_cons hlt, List.map_cons, List.sum_cons] at hinv2
          generalize p.cks[i] = y at kx hinv2
          have hcy := ceF_b p y.group
          have hadd : Hid ((n + ceF p y.group) + ((p.cks.drop (i + 1)).map (fun c => ceF p c.group)).sum = (n1 + (p.cks.map (fun c => ceF p c.group)).sum)) := ⟨by rw [← hinv2, Int.add_assoc]⟩
          have hal : Below W1.heap.size W1 (wr.alloc (.cells #[.string ⟨y.name.toArray⟩, .bool y.hard, .int .i64 y.group, .int .i64 y.when_.op, .int .i64 y.when_.num, .int .i64 y.when_.den, .int .i64 y.when_.mode, .slice an y.when_.args.len cn, .string ⟨y.text.toArray⟩] 68)) := hBr.alloc hBr.size _
          have hcall := hcin.out y.group (wr.alloc (.cells #[.string ⟨y.name.toArray⟩, .bool y.hard, .int .i64 y.group, .int .i64 y.when_.op, .int .i64 y.when_.num, .int .i64 y.when_.den, .int .i64 y.when_.mode, .slice an y.when_.args.len cn, .string ⟨y.text.toArray⟩] 68)) (bthr hBw ((Below.refl _ _).alloc (Nat.le_refl _) _) (Nat.le_refl _))
          obtain ⟨d0, d1, d2, d3, d4, d5, d6, d7, d8⟩ := kx
          generalize ceF p y.group = z at hcy hadd hcall
          clear hcs hRr hinv hinv2
          go_wp2_with (go_at_call 22; refine hcall.mono ?_; clear hcall; rintro e w2 ⟨rfl, hb2⟩; have hb3 := bthr hal hb2 (Nat.le_refl _))
          exact ⟨⟨i + 1, n + z, (by first | rfl | go_num), (by first | rfl | go_num), hlt, hb3, by omega, by omega, hadd⟩, by simp only [intOf]; omega⟩
        · have hlt' : ¬ (i : Int) < (p.cks.length : Int) := by omega
          have hri := hinv.out
          rw [List.drop_eq_nil_of_le (by omega), List.map_nil, List.sum_nil, Int.add_zero] at hri
          obtain ⟨n2, hn2⟩ : ∃ n2, n = n2 := ⟨_, rfl⟩
          rw [hn2] at hri hn0 hn1 ⊢
          clear hinv hn2
          have hn0' : 0 ≤ n2 := by omega
          have hn1' : n2 ≤ 16000000 := by omega
          have hT3 : n2 + (p.grps.map rwF).sum = T3 := by rw [hri]; exact hT2.out
          have hBb := hBr
          clear hn0 hn1 hri hBa
          subst hT3
          go_wp2
          go_loopw [3, 41] (fun nv iv wr => ∃ (i : Nat) (n : Int), nv = .int .i64 n ∧ iv = .int .i64 (i : Int) ∧ i ≤ p.grps.length ∧ Below W1.heap.size W1 wr ∧ n2 ≤ n ∧ n ≤ n2 + 8 * (i : Int) ∧ Hid (n + ((p.grps.drop i).map rwF).sum = (n2 + (p.grps.map rwF).sum))) (fun _ iv _ => p.grps.length - (intOf iv).toNat)
          case atStart => exact ⟨0, n2, rfl, rfl, Nat.zero_le _, hBb, Int.le_refl _, by omega, ⟨by rw [List.drop_zero]⟩⟩
          case round =>
            obtain ⟨i, n, rfl, rfl, hi, hBr, hn0, hn1, hinv⟩ := hrel
            obtain ⟨p0, p1, p2, p3, p4, p5, p6⟩ := hP.out wr hBr
            have hBw := bthr hB1 hBr (Nat.le_refl _)
            have hlr : W.heap.size < wr.heap.size := World.block_lt_of_cell? _ _ p0
            by_cases hlt : i < p.grps.length
            · have hlt' : (i : Int) < (p.grps.length : Int) := by omega
              have hi0 : (0 : Int) ≤ (i : Int) := by omega
              have hRr := row_bel hR5 hBw (Nat.le_refl _)
              obtain ⟨ge, oe, hga⟩ := hRr.some hlt
              subst hga
              obtain ⟨cs, -, -, ⟨rfl, -⟩, hcs⟩ := hRr.item hlt
              have kx : wr.cell? ⟨ge, oe + i * 2, none⟩ = some (.string ⟨p.grps[i].1.toArray⟩) ∧ wr.cell? ⟨ge, oe + i * 2 + 1, none⟩ = some (.int .i64 p.grps[i].2) := ⟨hcs 0 (by decide), hcs 1 (by decide)⟩
              have hinv2 := hinv.out
              rw [List.drop_eq_getElem_cons hlt, List.map_cons, List.sum_cons] at hinv2
              generalize p.grps[i] = y at kx hinv2
              have hcy := rwF_b y
              have hadd : Hid ((n + rwF y) + ((p.grps.drop (i + 1)).map rwF).sum = (n2 + (p.grps.map rwF).sum)) := ⟨by rw [← hinv2, Int.add_assoc]⟩
              have hal : Below W1.heap.size W1 (wr.alloc (.cells #[.string ⟨y.1.toArray⟩, .int .i64 y.2] 70)) := hBr.alloc hBr.size _
              have hcall := rows_any y (wr.alloc (.cells #[.string ⟨y.1.toArray⟩, .int .i64 y.2] 70))
              obtain ⟨d0, d1⟩ := kx
              generalize rwF y = z at hcy hadd hcall
              clear hcs hRr hinv hinv2
              go_wp2_with (go_at_call 23; refine hcall.mono ?_; clear hcall; rintro e w2 ⟨rfl, hb2⟩; have hb3 := bthr hal hb2 (Nat.le_refl _))
              exact ⟨⟨i + 1, n + z, (by first | rfl | go_num), (by first | rfl | go_num), hlt, hb3, by omega, by omega, hadd⟩, by simp only [intOf]; omega⟩
            · have hlt' : ¬ (i : Int) < (p.grps.length : Int) := by omega
              have hri := hinv.out
              rw [List.drop_eq_nil_of_le (by omega), List.map_nil, List.sum_nil, Int.add_zero] at hri
              have hff : Lk (.int .i64 (n2 + (p.grps.map rwF).sum)) W (.returned (.int .i64 n)) wr := ⟨by rw [hri], hBw⟩
              clear hinv hri
              go_wp2
              go_ret
              exact hff



end Go.Proofs.Yteiplejamciddaa


namespace Go.Proofs.Yteiplejamciddaa
open Go.RowKit

theorem CkS.rowL {p : Pk} {a3 a4 a5 a6 a7 : Option Addr} {c3 c4 c5 c6 c7 : Nat} {cb s : Nat} {W : World} {seen : Sn} {sv : Value} (h : CkS p [.string ⟨p.name.toArray⟩, .int .i64 p.year, .slice a3 p.opts.length c3, .slice a4 p.tabs.length c4, .slice a5 p.grps.length c5, .slice a6 p.lns.length c6, .slice a7 p.cks.length c7] cb s W seen sv) : RowR eL W (fun b => b < cb) p.lns a6 := by
  obtain ⟨b3, d3, b4, d4, b5, d5, b6, d6, b7, d7, h0, h1, r3, r4, r5, r6, r7⟩ := h.pk
  simp only [List.cons.injEq, Value.slice.injEq, and_true, true_and] at h0
  obtain ⟨⟨rfl, rfl⟩, ⟨rfl, rfl⟩, ⟨rfl, rfl⟩, ⟨rfl, rfl⟩, rfl, rfl⟩ := h0
  exact r6
set_option maxRecDepth 20000 in
set_option maxHeartbeats 2000000 in
theorem cellP_any (p : Pk) (a3 a4 a5 a6 a7 : Option Addr) (c3 c4 c5 c6 c7 : Nat) (cb s : Nat) (W : World) (seen : Sn) (sv : Value) (h : CkS p [.string ⟨p.name.toArray⟩, .int .i64 p.year, .slice a3 p.opts.length c3, .slice a4 p.tabs.length c4, .slice a5 p.grps.length c5, .slice a6 p.lns.length c6, .slice a7 p.cks.length c7] cb s W seen sv) (h5 : p.grps.length ≤ 1000000) (h6 : p.lns.length ≤ 1000000) (h7 : p.cks.length ≤ 1000000) : Calls Try.prog 19 #[.pointer (some ⟨cb, 0, none⟩)] W (PtP p [.string ⟨p.name.toArray⟩, .int .i64 p.year, .slice a3 p.opts.length c3, .slice a4 p.tabs.length c4, .slice a5 p.grps.length c5, .slice a6 p.lns.length c6, .slice a7 p.cks.length c7] cb s sv (seen, celF p) W) := by
  have hcb := h.lt
  obtain ⟨W1, hW1⟩ : ∃ W1, W1 = W.alloc (.cells #[.int .i64 0, .int .i64 0, .int .i64 0, .slice none 0 0] 41) := ⟨_, rfl⟩
  have hB1 : Below W.heap.size W W1 := by rw [hW1]; exact (Below.refl _ _).alloc (Nat.le_refl _) _
  have hbz : Bx W1 W.heap.size [.int .i64 0, .int .i64 0, .int .i64 0, .slice none 0 0] := by rw [hW1]; exact bx_new _ _ _
  have hk1 := h.bel hB1
  have hrb3 : some W.heap.size ≠ sv.ownBlock := fun e => by
    have := (h.pg _ e.symm).2
    omega
  have hrb1 : cb + 1 ≤ W.heap.size := hcb
  have hrb2 : W.heap.size ≤ W.heap.size := Nat.le_refl _
  obtain ⟨R, hR⟩ : ∃ R, celF p = R := ⟨_, rfl⟩
  rw [hR]
  obtain ⟨QQ, hQQ⟩ : ∃ QQ, PtP p [.string ⟨p.name.toArray⟩, .int .i64 p.year, .slice a3 p.opts.length c3, .slice a4 p.tabs.length c4, .slice a5 p.grps.length c5, .slice a6 p.lns.length c6, .slice a7 p.cks.length c7] cb s sv (seen, R) W = QQ := ⟨_, rfl⟩
  rw [hQQ]
  have hQH := Hid.mk hQQ
  have hW1H := Hid.mk hW1
  obtain ⟨q0, q1, q2, q3, q4, q5, q6⟩ := h.cells
  have hSt : Hid (∀ w, Below W1.heap.size W1 w → Bx w W.heap.size [.int .i64 0, .int .i64 0, .int .i64 0, .slice none 0 0] ∧ (CkS p [.string ⟨p.name.toArray⟩, .int .i64 p.year, .slice a3 p.opts.length c3, .slice a4 p.tabs.length c4, .slice a5 p.grps.length c5, .slice a6 p.lns.length c6, .slice a7 p.cks.length c7] cb s w seen sv ∧ Fr cb W sv w sv)) := ⟨fun w hw => ⟨hbz.bel hw hbz.1, hk1.bel hw, (Fr.bel hB1 _).trans (Fr.bel hw _)⟩⟩
  clear hQQ hW1
  have hce := Cells_any p a3 a4 a5 a6 a7 c3 c4 c5 c6 c7 W1 (hk1.rows.2.2.1.mo (fun _ _ _ => trivial)) (hk1.rowL.mo (fun _ _ _ => trivial)) (hk1.rows.2.2.2.2.mo (fun _ _ _ => trivial)) h5 h6 h7
  unfold celF at hR
  obtain ⟨n, hn⟩ : ∃ n, cesF p = n := ⟨_, rfl⟩
  rw [hn] at hce hR
  clear hn
  by_cases hb : 256 < n
  · rw [if_pos hb] at hR
    have hRH := Hid.mk hR.symm
    clear hR hk1 hbz
    go_enter Try.func19, Try.ntmps19
    go_wp2_with fail
    rw [← hW1H.out]
    refine hce.mono ?_
    clear hce
    rintro e w1 ⟨rfl, hb1⟩
    obtain ⟨hbr3, hk_st⟩ := hSt.out w1 hb1
    have hq0 := hbr3
    have kg0 : w1.cell? ⟨W.heap.size, 0, none⟩ = some (.int .i64 0) := hq0.2.1 0 (by simp)
    have kh0 := hq0.2.2 0; have kl0 := hq0.1
    obtain ⟨X1, hx0⟩ : ∃ X1, w1.setCell ⟨W.heap.size, 0, none⟩ (.int .i64 1) = X1 := ⟨_, rfl⟩
    have hq1 : Bx X1 W.heap.size [(.int .i64 1), (.int .i64 0), (.int .i64 0), (.slice none 0 0)] := (by rw [← hx0]; exact hq0.set 0 (.int .i64 1))
    have kg1 : X1.cell? ⟨W.heap.size, 1, none⟩ = some (.int .i64 0) := hq1.2.1 1 (by simp)
    have kh1 := hq1.2.2 1; have kl1 := hq1.1
    obtain ⟨X2, hx1⟩ : ∃ X2, X1.setCell ⟨W.heap.size, 1, none⟩ (.int .i64 0) = X2 := ⟨_, rfl⟩
    have hq2 : Bx X2 W.heap.size [(.int .i64 1), (.int .i64 0), (.int .i64 0), (.slice none 0 0)] := (by rw [← hx1]; exact hq1.set 1 (.int .i64 0))
    have kg2 : X2.cell? ⟨W.heap.size, 2, none⟩ = some (.int .i64 0) := hq2.2.1 2 (by simp)
    have kh2 := hq2.2.2 2; have kl2 := hq2.1
    obtain ⟨X3, hx2⟩ : ∃ X3, X2.setCell ⟨W.heap.size, 2, none⟩ (.int .i64 (-1)) = X3 := ⟨_, rfl⟩
    have hq3 : Bx X3 W.heap.size [(.int .i64 1), (.int .i64 0), (.int .i64 (-1)), (.slice none 0 0)] := (by rw [← hx2]; exact hq2.set 2 (.int .i64 (-1)))
    have kg3 : X3.cell? ⟨W.heap.size, 3, none⟩ = some (.slice none 0 0) := hq3.2.1 3 (by simp)
    have kh3 := hq3.2.2 3; have kl3 := hq3.1
    obtain ⟨X4, hx3⟩ : ∃ X4, X3.setCell ⟨W.heap.size, 3, none⟩ (.slice none 0 0) = X4 := ⟨_, rfl⟩
    have hq4 : Bx X4 W.heap.size [(.int .i64 1), (.int .i64 0), (.int .i64 (-1)), (.slice none 0 0)] := (by rw [← hx3]; exact hq3.set 3 (.slice none 0 0))
    have ht0 := hk_st
    have ht1 : CkS p [.string ⟨p.name.toArray⟩, .int .i64 p.year, .slice a3 p.opts.length c3, .slice a4 p.tabs.length c4, .slice a5 p.grps.length c5, .slice a6 p.lns.length c6, .slice a7 p.cks.length c7] cb s X1 seen sv ∧ Fr cb W sv X1 sv := (by rw [← hx0]; exact ck_set ht0 hrb1 hrb2 hrb3 0 (.int .i64 1))
    have ht2 : CkS p [.string ⟨p.name.toArray⟩, .int .i64 p.year, .slice a3 p.opts.length c3, .slice a4 p.tabs.length c4, .slice a5 p.grps.length c5, .slice a6 p.lns.length c6, .slice a7 p.cks.length c7] cb s X2 seen sv ∧ Fr cb W sv X2 sv := (by rw [← hx1]; exact ck_set ht1 hrb1 hrb2 hrb3 1 (.int .i64 0))
    have ht3 : CkS p [.string ⟨p.name.toArray⟩, .int .i64 p.year, .slice a3 p.opts.length c3, .slice a4 p.tabs.length c4, .slice a5 p.grps.length c5, .slice a6 p.lns.length c6, .slice a7 p.cks.length c7] cb s X3 seen sv ∧ Fr cb W sv X3 sv := (by rw [← hx2]; exact ck_set ht2 hrb1 hrb2 hrb3 2 (.int .i64 (-1)))
    have ht4 : CkS p [.string ⟨p.name.toArray⟩, .int .i64 p.year, .slice a3 p.opts.length c3, .slice a4 p.tabs.length c4, .slice a5 p.grps.length c5, .slice a6 p.lns.length c6, .slice a7 p.cks.length c7] cb s X4 seen sv ∧ Fr cb W sv X4 sv := (by rw [← hx3]; exact ck_set ht3 hrb1 hrb2 hrb3 3 (.slice none 0 0))
    have hB5 : Below X4.heap.size X4 (X4.alloc (.cells #[.int .i64 1, .int .i64 0, .int .i64 (-1), .slice none 0 0] 41)) := ((Below.refl X4.heap.size X4).alloc (Nat.le_refl _) _)
    have hff : QQ (.returned (.tuple #[.agg #[.int .i64 1, .int .i64 0, .int .i64 (-1), .slice none 0 0], .int .i64 60])) (X4.alloc (.cells #[.int .i64 1, .int .i64 0, .int .i64 (-1), .slice none 0 0] 41)) := by
      rw [← hQH.out, hRH.out]
      exact ⟨rfl, sv, ht4.1.bel hB5, ht4.2.trans (Fr.bel hB5 _)⟩
    have hq5 := hq4.bel hB5 hq4.1
    have f0 := hq5.2.1 0 (by simp)
    have f1 := hq5.2.1 1 (by simp)
    have f2 := hq5.2.1 2 (by simp)
    have f3 := hq5.2.1 3 (by simp)
    have l4 := hq4.1
    clear hq0 hq1 hq2 hq3 hq4 hq5 ht0 ht1 ht2 ht3 ht4 hk_st hbr3
    go_wp2_with (go_at_call 37; refine (itemAt_any _ _ _).mono ?_; rintro e w9 ⟨rfl, rfl⟩)
    exact bodyPost_ret (v := .tuple #[.agg #[.int .i64 1, .int .i64 0, .int .i64 (-1), .slice none 0 0], .int .i64 60]) (by simp [results, Try.results19, go_sem, f0, f1, f2, f3]) rfl hff
  · rw [if_neg hb] at hR
    have hRH := Hid.mk hR.symm
    clear hR hk1 hbz
    go_enter Try.func19, Try.ntmps19
    go_wp2_with fail
    rw [← hW1H.out]
    refine hce.mono ?_
    clear hce
    rintro e w1 ⟨rfl, hb1⟩
    obtain ⟨hbr3, hk_st⟩ := hSt.out w1 hb1
    have hff : QQ (.returned (.tuple #[.agg #[.int .i64 0, .int .i64 0, .int .i64 0, .slice none 0 0], .int .i64 0])) w1 := by
      rw [← hQH.out, hRH.out]
      exact ⟨rfl, sv, hk_st.1, hk_st.2⟩
    have f0 := hbr3.2.1 0 (by simp)
    have z0 := hbr3.2.2 0
    have f1 := hbr3.2.1 1 (by simp)
    have z1 := hbr3.2.2 1
    have f2 := hbr3.2.1 2 (by simp)
    have z2 := hbr3.2.2 2
    have f3 := hbr3.2.1 3 (by simp)
    have z3 := hbr3.2.2 3
    have j0 := set_id f0
    have j1 := set_id f1
    have j2 := set_id f2
    have j3 := set_id f3
    clear hbr3 hk_st
    go_wp2
    exact bodyPost_ret (v := .tuple #[.agg #[.int .i64 0, .int .i64 0, .int .i64 0, .slice none 0 0], .int .i64 0]) (by simp at f0 f1 f2 f3; simp [results, Try.results19, go_sem, f0, f1, f2, f3]) rfl hff
end Go.Proofs.Yteiplejamciddaa


namespace Go.Proofs.Yteiplejamciddaa
open Go.RowKit

/-- What any part answers. -/
def StP (p : Pk) (pc : List Value) (cb s : Nat) (sv : Value) (R : Sn × Option (Sp × Nat)) (W : World) (e : Ending) (W' : World) : Prop := (match R.2 with
  | none => e = .returned (.tuple #[.agg #[.int .i64 0, .int .i64 0, .int .i64 0, .slice none 0 0], .int .i64 0])
  | some f => ∃ pv, e = .returned (.tuple #[.agg #[.int .i64 f.1.part, .int .i64 f.1.at_, .int .i64 f.1.clause, pv], .int .i64 (f.2 : Int)]) ∧ W'.ownsRow W.heap.size 3 1 pv f.1.path.length (ptC f.1.path)) ∧ ∃ sv', CkS p pc cb s W' R.1 sv' ∧ Fr cb W sv W' sv'
theorem pt_st {p : Pk} {pc : List Value} {cb s : Nat} {sv : Value} {R : Sn × Option (Sp × Nat)} {W : World} {e : Ending} {W' : World} (hp : ∀ f, R.2 = some f → f.1.path = []) (h : PtP p pc cb s sv R W e W') : StP p pc cb s sv R W e W' := by
  obtain ⟨s1, o⟩ := R
  obtain ⟨rfl, h2⟩ := h
  cases o with
  | none => exact ⟨rfl, h2⟩
  | some f =>
    have := hp f rfl
    exact ⟨⟨.slice none 0 0, rfl, by rw [this]; exact World.ownsRow_nil _ _ _ _⟩, h2⟩
theorem pe_st {p : Pk} {pc : List Value} {cb s : Nat} {sv : Value} {seen : Sn} {o : Option (Sp × Nat)} {W : World} {e : Ending} {W' : World} (h : PeP p pc cb s sv seen o W e W') : StP p pc cb s sv (seen, o) W e W' := ⟨h.1, sv, h.2.1, h.2.2⟩
/-- The parts in their order. -/
def stg (p : Pk) (k : Nat) (seen : Sn) : Sn × Option (Sp × Nat) := match k with
  | 0 => (seen, szF p)
  | 1 => (seen, hdF p)
  | 2 => ((frF opF p.opts 0 seen).1, itO 2 (frF opF p.opts 0 seen).2)
  | 3 => ((frF tbF p.tabs 0 seen).1, itO 3 (frF tbF p.tabs 0 seen).2)
  | 4 => ((frF gpF p.grps 0 seen).1, itO 4 (frF gpF p.grps 0 seen).2)
  | 5 => lsF p p.lns 0 seen
  | 6 => ((frF (ckF p) p.cks 0 seen).1, itO 6 (frF (ckF p) p.cks 0 seen).2)
  | 7 => (seen, celF p)
  | 8 => (seen, leF p p.lns 0)
  | _ => (seen, keF p p.cks 0)
def chR (p : Pk) : Nat → Sn → Option (Sp × Nat)
  | 0, _ => none
  | m + 1, s => match stg p (9 - m) s with
    | (_, some f) => some f
    | (s', none) => chR p m s'
/-- The first fault of a pack, or none. -/
def ckP (p : Pk) : Option (Sp × Nat) := chR p 10 []
theorem fr_len {α : Type} {f : α → Sn → Sn × Nat} {nm : α → List UInt8} (hf : ∀ x s, (f x s).1 = s ++ [nm x]) : ∀ (l : List α) (i : Nat) (s s' : Sn), frF f l i s = (s', none) → s'.length = s.length + l.length
  | [], i, s, s', h => by
    injection h with h
    subst h
    rfl
  | x :: l, i, s, s', h => by
    unfold frF at h
    rcases hx : f x s with ⟨s1, _ | e⟩
    · rw [hx] at h
      have h1 := fr_len hf l (i + 1) s1 s' h
      have h2 := hf x s
      rw [hx] at h2
      simp only at h2
      rw [h1, h2, List.length_append, List.length_singleton, List.length_cons]
      omega
    · rw [hx] at h
      injection h with _ h
      cases h
theorem ls_none (p : Pk) : ∀ (l : List Ln) (i : Nat) (s s' : Sn), lsF p l i s = (s', none) → s'.length = s.length + l.length ∧ ∀ y ∈ l, y.cls.length ≤ 6
  | [], i, s, s', h => by
    injection h with h
    subst h
    exact ⟨rfl, fun _ h => by cases h⟩
  | y :: l, i, s, s', h => by
    unfold lsF at h
    rcases hx : lnE p y s with ⟨s1, _ | e⟩
    · rw [hx] at h
      simp only at h
      cases hc : clF y.cls y.cls 0 with
      | some j =>
        rw [hc] at h
        injection h with _ h
        cases h
      | none =>
        rw [hc] at h
        have h1 := ls_none p l (i + 1) s1 s' h
        have h2 : (lnE p y s).1 = s ++ [y.name] := rfl
        rw [hx] at h2
        simp only at h2
        refine ⟨by rw [h1.1, h2, List.length_append, List.length_singleton, List.length_cons]; omega, fun z hz => ?_⟩
        rcases List.mem_cons.1 hz with rfl | hz
        · exact lnE_len hx
        · exact h1.2 z hz
    · rw [hx] at h
      injection h with _ h
      cases h
theorem ls_path (p : Pk) : ∀ (l : List Ln) (i : Nat) (s : Sn) (f : Sp × Nat), (lsF p l i s).2 = some f → f.1.path = []
  | [], i, s, f, h => by cases h
  | y :: l, i, s, f, h => by
    unfold lsF at h
    rcases hx : lnE p y s with ⟨s1, _ | e⟩
    · rw [hx] at h
      simp only at h
      cases hc : clF y.cls y.cls 0 with
      | some j =>
        rw [hc] at h
        injection h with h
        subst h
        rfl
      | none =>
        rw [hc] at h
        exact ls_path p l (i + 1) s1 f h
    · rw [hx] at h
      injection h with h
      subst h
      rfl
theorem sz_none {p : Pk} (h : szF p = none) : p.opts.length ≤ 4 ∧ p.tabs.length ≤ 4 ∧ p.grps.length ≤ 4 ∧ p.lns.length ≤ 48 ∧ p.cks.length ≤ 16 := by
  unfold szF at h
  by_cases h1 : 4 < p.opts.length
  · rw [if_pos h1] at h; cases h
  rw [if_neg h1] at h
  by_cases h2 : 4 < p.tabs.length
  · rw [if_pos h2] at h; cases h
  rw [if_neg h2] at h
  by_cases h3 : 4 < p.grps.length
  · rw [if_pos h3] at h; cases h
  rw [if_neg h3] at h
  by_cases h4 : p.lns.length < 1 ∨ 48 < p.lns.length
  · rw [if_pos h4] at h; cases h
  rw [if_neg h4] at h
  by_cases h5 : 16 < p.cks.length
  · rw [if_pos h5] at h; cases h
  omega
/-- What stands behind the first parts. -/
structure Cnd (p : Pk) (k : Nat) (seen : Sn) : Prop where
  sz : 1 ≤ k → szF p = none
  len : seen.length ≤ 48 * k
  cl : 6 ≤ k → ∀ y ∈ p.lns, y.cls.length ≤ 6
def fnOf (k : Nat) : Nat := [12, 13, 14, 15, 16, 17, 18, 19, 20, 21].getD k 0
theorem cnd_step {p : Pk} {k : Nat} {seen s' : Sn} (hk : k < 10) (h : Cnd p k seen) (hs : stg p k seen = (s', none)) : Cnd p (k + 1) s' := by
  have hl := h.len
  have same : s' = seen → szF p = none → (6 ≤ k + 1 → ∀ y ∈ p.lns, y.cls.length ≤ 6) → Cnd p (k + 1) s' := fun e hz hc => ⟨fun _ => hz, by rw [e]; omega, hc⟩
  have grow : ∀ n, s'.length = seen.length + n → n ≤ 48 → szF p = none → (6 ≤ k + 1 → ∀ y ∈ p.lns, y.cls.length ≤ 6) → Cnd p (k + 1) s' := fun n e hn hz hc => ⟨fun _ => hz, by rw [e]; omega, hc⟩
  rcases (show k = 0 ∨ k = 1 ∨ k = 2 ∨ k = 3 ∨ k = 4 ∨ k = 5 ∨ k = 6 ∨ k = 7 ∨ k = 8 ∨ k = 9 by omega) with rfl | rfl | rfl | rfl | rfl | rfl | rfl | rfl | rfl | rfl
  · injection hs with h1 h2
    exact same h1.symm h2 (fun h => by omega)
  · injection hs with h1 h2
    exact same h1.symm (h.sz (by decide)) (fun h => by omega)
  · injection hs with h1 h2
    have hz := h.sz (by decide)
    have hr : frF opF p.opts 0 seen = (s', none) := by
      rcases hf : frF opF p.opts 0 seen with ⟨a, _ | ie⟩
      · rw [hf] at h1; rw [← h1]
      · rw [hf] at h2; cases h2
    exact grow _ (fr_len (nm := fun x => x.1) (fun _ _ => rfl) _ _ _ _ hr) (by have := (sz_none hz).1; omega) hz (fun h => by omega)
  · injection hs with h1 h2
    have hz := h.sz (by decide)
    have hr : frF tbF p.tabs 0 seen = (s', none) := by
      rcases hf : frF tbF p.tabs 0 seen with ⟨a, _ | ie⟩
      · rw [hf] at h1; rw [← h1]
      · rw [hf] at h2; cases h2
    exact grow _ (fr_len (nm := fun x => x.1) (fun _ _ => rfl) _ _ _ _ hr) (by have := (sz_none hz).2.1; omega) hz (fun h => by omega)
  · injection hs with h1 h2
    have hz := h.sz (by decide)
    have hr : frF gpF p.grps 0 seen = (s', none) := by
      rcases hf : frF gpF p.grps 0 seen with ⟨a, _ | ie⟩
      · rw [hf] at h1; rw [← h1]
      · rw [hf] at h2; cases h2
    exact grow _ (fr_len (nm := fun x => x.1) (fun _ _ => rfl) _ _ _ _ hr) (by have := (sz_none hz).2.2.1; omega) hz (fun h => by omega)
  · have hz := h.sz (by decide)
    have hn := ls_none p p.lns 0 seen s' hs
    exact grow _ hn.1 (by have := (sz_none hz).2.2.2.1; omega) hz (fun _ => hn.2)
  · injection hs with h1 h2
    have hz := h.sz (by decide)
    have hr : frF (ckF p) p.cks 0 seen = (s', none) := by
      rcases hf : frF (ckF p) p.cks 0 seen with ⟨a, _ | ie⟩
      · rw [hf] at h1; rw [← h1]
      · rw [hf] at h2; cases h2
    exact grow _ (fr_len (nm := fun x => x.name) (fun _ _ => rfl) _ _ _ _ hr) (by have := (sz_none hz).2.2.2.2; omega) hz (fun _ => h.cl (by decide))
  · injection hs with h1 h2
    exact same h1.symm (h.sz (by decide)) (fun _ => h.cl (by decide))
  · injection hs with h1 h2
    exact same h1.symm (h.sz (by decide)) (fun _ => h.cl (by decide))
  · injection hs with h1 h2
    exact same h1.symm (h.sz (by decide)) (fun _ => h.cl (by decide))
theorem ito_path (n : Nat) (o : Option (Nat × Nat)) (f : Sp × Nat) (h : itO n o = some f) : f.1.path = [] := by
  cases o with
  | none => cases h
  | some ie =>
    injection h with h
    subst h
    rfl
theorem sz_path (p : Pk) (f : Sp × Nat) (h : szF p = some f) : f.1.path = [] := by
  unfold szF at h
  repeat (split at h; (injection h with h; subst h; rfl))
  cases h
theorem hd_path (p : Pk) (f : Sp × Nat) (h : hdF p = some f) : f.1.path = [] := by
  unfold hdF at h
  split at h
  · split at h
    · injection h with h; subst h; rfl
    · cases h
  · injection h with h; subst h; rfl
theorem ce_path (p : Pk) (f : Sp × Nat) (h : celF p = some f) : f.1.path = [] := by
  unfold celF at h
  split at h
  · injection h with h; subst h; rfl
  · cases h
theorem stage_any (p : Pk) (a3 a4 a5 a6 a7 : Option Addr) (c3 c4 c5 c6 c7 : Nat) (cb s k : Nat) (hk : k < 10) (W : World) (seen : Sn) (sv : Value) (h : CkS p [.string ⟨p.name.toArray⟩, .int .i64 p.year, .slice a3 p.opts.length c3, .slice a4 p.tabs.length c4, .slice a5 p.grps.length c5, .slice a6 p.lns.length c6, .slice a7 p.cks.length c7] cb s W seen sv) (hc : Cnd p k seen) (hz : SzP p) : Calls Try.prog (fnOf k) #[.pointer (some ⟨cb, 0, none⟩)] W (StP p [.string ⟨p.name.toArray⟩, .int .i64 p.year, .slice a3 p.opts.length c3, .slice a4 p.tabs.length c4, .slice a5 p.grps.length c5, .slice a6 p.lns.length c6, .slice a7 p.cks.length c7] cb s sv (stg p k seen) W) := by
  have hl := hc.len
  rcases (show k = 0 ∨ k = 1 ∨ k = 2 ∨ k = 3 ∨ k = 4 ∨ k = 5 ∨ k = 6 ∨ k = 7 ∨ k = 8 ∨ k = 9 by omega) with rfl | rfl | rfl | rfl | rfl | rfl | rfl | rfl | rfl | rfl
  · exact (sizP_any p a3 a4 a5 a6 a7 c3 c4 c5 c6 c7 cb s W seen sv h).mono (fun e w hh => pt_st (fun f hf => sz_path p f hf) hh)
  · exact (headP_any p a3 a4 a5 a6 a7 c3 c4 c5 c6 c7 cb s W seen sv h).mono (fun e w hh => pt_st (fun f hf => hd_path p f hf) hh)
  · exact (optP_any p a3 a4 a5 a6 a7 c3 c4 c5 c6 c7 cb s W seen sv h (by have := (sz_none (hc.sz (by decide))).1; omega)).mono (fun e w hh => pt_st (fun f hf => ito_path 2 _ f hf) hh)
  · exact (tabP_any p a3 a4 a5 a6 a7 c3 c4 c5 c6 c7 cb s W seen sv h (by have := (sz_none (hc.sz (by decide))).2.1; omega)).mono (fun e w hh => pt_st (fun f hf => ito_path 3 _ f hf) hh)
  · exact (grpP_any p a3 a4 a5 a6 a7 c3 c4 c5 c6 c7 cb s W seen sv h (by have := (sz_none (hc.sz (by decide))).2.2.1; omega)).mono (fun e w hh => pt_st (fun f hf => ito_path 4 _ f hf) hh)
  · exact (linP_any p a3 a4 a5 a6 a7 c3 c4 c5 c6 c7 cb s W seen sv h (by have := (sz_none (hc.sz (by decide))).2.2.2.1; omega)).mono (fun e w hh => pt_st (fun f hf => ls_path p _ _ _ f hf) hh)
  · exact (chkP_any p a3 a4 a5 a6 a7 c3 c4 c5 c6 c7 cb s W seen sv h (by have := (sz_none (hc.sz (by decide))).2.2.2.2; omega)).mono (fun e w hh => pt_st (fun f hf => ito_path 6 _ f hf) hh)
  · have h1 := sz_none (hc.sz (by decide))
    exact (cellP_any p a3 a4 a5 a6 a7 c3 c4 c5 c6 c7 cb s W seen sv h (by omega) (by omega) (by omega)).mono (fun e w hh => pt_st (fun f hf => ce_path p f hf) hh)
  · have h1 := sz_none (hc.sz (by decide))
    exact (leP_any p a3 a4 a5 a6 a7 c3 c4 c5 c6 c7 cb s W seen sv h (by omega) (fun l hm => by have := hc.cl (by decide) l hm; omega) (fun l hm c hcm => (hz.lns.2 l hm).2.2 c hcm)).mono (fun e w hh => pe_st hh)
  · have h1 := sz_none (hc.sz (by decide))
    exact (keP_any p a3 a4 a5 a6 a7 c3 c4 c5 c6 c7 cb s W seen sv h (by omega) (fun k hm => (hz.cks.2 k hm).2.2)).mono (fun e w hh => pe_st hh)
end Go.Proofs.Yteiplejamciddaa
