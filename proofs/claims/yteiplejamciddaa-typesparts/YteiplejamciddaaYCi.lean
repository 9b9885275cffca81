import Derived.Test.YteiplejamciddaaYCh
namespace Go.Proofs.Yteiplejamciddaa
open Go.RowKit

set_option maxRecDepth 20000 in
set_option maxHeartbeats 2000000 in
theorem tabP_any (p : Pk) (a3 a4 a5 a6 a7 : Option Addr) (c3 c4 c5 c6 c7 : Nat) (cb s : Nat) (W : World) (seen : Sn) (sv : Value) (h : CkS p [.string ⟨p.name.toArray⟩, .int .i64 p.year, .slice a3 p.opts.length c3, .slice a4 p.tabs.length c4, .slice a5 p.grps.length c5, .slice a6 p.lns.length c6, .slice a7 p.cks.length c7] cb s W seen sv) (hl : seen.length + p.tabs.length ≤ 1000000) : Calls Try.prog 15 #[.pointer (some ⟨cb, 0, none⟩)] W (PtP p [.string ⟨p.name.toArray⟩, .int .i64 p.year, .slice a3 p.opts.length c3, .slice a4 p.tabs.length c4, .slice a5 p.grps.length c5, .slice a6 p.lns.length c6, .slice a7 p.cks.length c7] cb s sv ((frF tbF p.tabs 0 seen).1, itO 3 (frF tbF p.tabs 0 seen).2) W) := by
  have hcb := h.lt
  obtain ⟨W2, hW2⟩ : ∃ W2, W2 = (W.alloc (.cells #[.pointer (some ⟨cb, 0, none⟩)] 60)).alloc (.cells #[.int .i64 0, .int .i64 0, .int .i64 0, .slice none 0 0] 41) := ⟨_, rfl⟩
  have hB2 : Below W.heap.size W W2 := by rw [hW2]; exact ((Below.refl _ _).alloc (Nat.le_refl _) _).alloc (by simp) _
  have hbx : Bx W2 W.heap.size [.pointer (some ⟨cb, 0, none⟩)] := by rw [hW2]; exact (bx_new W #[.pointer (some ⟨cb, 0, none⟩)] 60).kept (World.grownBy_alloc _ (.cells #[.int .i64 0, .int .i64 0, .int .i64 0, .slice none 0 0] 41) none) (by simp)
  have hbz : Bx W2 (W.heap.size + 1) [.int .i64 0, .int .i64 0, .int .i64 0, .slice none 0 0] := by
    have := bx_new (W.alloc (.cells #[.pointer (some ⟨cb, 0, none⟩)] 60)) #[.int .i64 0, .int .i64 0, .int .i64 0, .slice none 0 0] 41
    rw [show (W.alloc (.cells #[.pointer (some ⟨cb, 0, none⟩)] 60)).heap.size = W.heap.size + 1 by simp, ← hW2] at this
    exact this
  have hk2 := h.bel hB2
  have hsx : some W.heap.size ≠ sv.ownBlock := fun e => by
    have := (h.pg _ e.symm).2
    omega
  have hsz : some (W.heap.size + 1) ≠ sv.ownBlock := fun e => by
    have := (h.pg _ e.symm).2
    omega
  have hfo := first_tab p a3 a4 a5 a6 a7 c3 c4 c5 c6 c7 cb s W.heap.size 3 p.tabs a4 c4 W2 seen sv hk2 hl (hbx.2.1 0 (by simp)) (by omega) hsx hk2.rows.2.1
  obtain ⟨R, hRe⟩ : ∃ R, frF tbF p.tabs 0 seen = R := ⟨_, rfl⟩
  rw [hRe] at hfo ⊢
  have q := h.ce 3 (by decide)
  obtain ⟨QQ, hQQ⟩ : ∃ QQ, PtP p [.string ⟨p.name.toArray⟩, .int .i64 p.year, .slice a3 p.opts.length c3, .slice a4 p.tabs.length c4, .slice a5 p.grps.length c5, .slice a6 p.lns.length c6, .slice a7 p.cks.length c7] cb s sv (R.1, itO 3 R.2) W = QQ := ⟨_, rfl⟩
  rw [hQQ]
  have hQH := Hid.mk hQQ
  have hF01 : Hid (∀ w3 sv3, Fr cb W2 sv w3 sv3 → Bx w3 (W.heap.size + 1) [.int .i64 0, .int .i64 0, .int .i64 0, .slice none 0 0] ∧ some (W.heap.size + 1) ≠ sv3.ownBlock) := ⟨fun w3 sv3 hF3 => ⟨hF3.box hbz (by omega) hsz, by
    rcases hF3.new with e | ⟨c, e, hc⟩
    · rw [e]; exact hsz
    · rw [e]; intro e2; injection e2 with e2; have := hbz.1; omega⟩⟩
  have hW2H := Hid.mk hW2
  have hrb1 : cb + 1 ≤ W.heap.size + 1 := by omega
  have hrb2 : W.heap.size ≤ W.heap.size + 1 := by omega
  clear hQQ hRe hW2 hbx hbz hk2
  go_enter Try.func15, Try.ntmps15
  go_wp2_with fail
  rw [← hW2H.out]
  clear hW2H
  obtain ⟨s2, o2⟩ := R
  cases o2 with
  | none =>
    refine hfo.mono ?_
    clear hfo
    rintro e w3 ⟨rfl, sv3, hk3, hF3⟩
    obtain ⟨hbr, hrb3⟩ := hF01.out w3 sv3 hF3
    have hff : QQ (.returned (.tuple #[.agg #[.int .i64 0, .int .i64 0, .int .i64 0, .slice none 0 0], .int .i64 0])) w3 := by
      rw [← hQH.out]
      exact ⟨rfl, sv3, hk3, (Fr.bel hB2 _).trans hF3⟩
    simp only [itO, fsV]
    have f0 := hbr.2.1 0 (by simp)
    have f1 := hbr.2.1 1 (by simp)
    have f2 := hbr.2.1 2 (by simp)
    have f3 := hbr.2.1 3 (by simp)
    have z0 := hbr.2.2 0
    have z1 := hbr.2.2 1
    have z2 := hbr.2.2 2
    have z3 := hbr.2.2 3
    have j0 := set_id f0
    have j1 := set_id f1
    have j2 := set_id f2
    have j3 := set_id f3
    go_wp2
    exact bodyPost_ret (v := .tuple #[.agg #[.int .i64 0, .int .i64 0, .int .i64 0, .slice none 0 0], .int .i64 0]) (by simp at f0 f1 f2 f3; simp [results, Try.results15, go_sem, f0, f1, f2, f3]) rfl hff
  | some ie =>
    obtain ⟨i, er⟩ := ie
    refine hfo.mono ?_
    clear hfo
    rintro e w3 ⟨rfl, sv3, hk3, hF3⟩
    obtain ⟨hbr3, hrb3⟩ := hF01.out w3 sv3 hF3
    have hk_st : CkS p [.string ⟨p.name.toArray⟩, .int .i64 p.year, .slice a3 p.opts.length c3, .slice a4 p.tabs.length c4, .slice a5 p.grps.length c5, .slice a6 p.lns.length c6, .slice a7 p.cks.length c7] cb s w3 s2 sv3 ∧ Fr cb W sv w3 sv3 := ⟨hk3, (Fr.bel hB2 _).trans hF3⟩
    have hq0 := hbr3
    have kg0 : w3.cell? ⟨(W.heap.size + 1), 0, none⟩ = some (.int .i64 0) := hq0.2.1 0 (by simp)
    have kh0 := hq0.2.2 0; have kl0 := hq0.1
    obtain ⟨X1, hx0⟩ : ∃ X1, w3.setCell ⟨(W.heap.size + 1), 0, none⟩ (.int .i64 3) = X1 := ⟨_, rfl⟩
    have hq1 : Bx X1 (W.heap.size + 1) [(.int .i64 3), (.int .i64 0), (.int .i64 0), (.slice none 0 0)] := (by rw [← hx0]; exact hq0.set 0 (.int .i64 3))
    have kg1 : X1.cell? ⟨(W.heap.size + 1), 1, none⟩ = some (.int .i64 0) := hq1.2.1 1 (by simp)
    have kh1 := hq1.2.2 1; have kl1 := hq1.1
    obtain ⟨X2, hx1⟩ : ∃ X2, X1.setCell ⟨(W.heap.size + 1), 1, none⟩ (.int .i64 (i : Int)) = X2 := ⟨_, rfl⟩
    have hq2 : Bx X2 (W.heap.size + 1) [(.int .i64 3), (.int .i64 (i : Int)), (.int .i64 0), (.slice none 0 0)] := (by rw [← hx1]; exact hq1.set 1 (.int .i64 (i : Int)))
    have kg2 : X2.cell? ⟨(W.heap.size + 1), 2, none⟩ = some (.int .i64 0) := hq2.2.1 2 (by simp)
    have kh2 := hq2.2.2 2; have kl2 := hq2.1
    obtain ⟨X3, hx2⟩ : ∃ X3, X2.setCell ⟨(W.heap.size + 1), 2, none⟩ (.int .i64 (-1)) = X3 := ⟨_, rfl⟩
    have hq3 : Bx X3 (W.heap.size + 1) [(.int .i64 3), (.int .i64 (i : Int)), (.int .i64 (-1)), (.slice none 0 0)] := (by rw [← hx2]; exact hq2.set 2 (.int .i64 (-1)))
    have kg3 : X3.cell? ⟨(W.heap.size + 1), 3, none⟩ = some (.slice none 0 0) := hq3.2.1 3 (by simp)
    have kh3 := hq3.2.2 3; have kl3 := hq3.1
    obtain ⟨X4, hx3⟩ : ∃ X4, X3.setCell ⟨(W.heap.size + 1), 3, none⟩ (.slice none 0 0) = X4 := ⟨_, rfl⟩
    have hq4 : Bx X4 (W.heap.size + 1) [(.int .i64 3), (.int .i64 (i : Int)), (.int .i64 (-1)), (.slice none 0 0)] := (by rw [← hx3]; exact hq3.set 3 (.slice none 0 0))
    have ht0 := hk_st
    have ht1 : CkS p [.string ⟨p.name.toArray⟩, .int .i64 p.year, .slice a3 p.opts.length c3, .slice a4 p.tabs.length c4, .slice a5 p.grps.length c5, .slice a6 p.lns.length c6, .slice a7 p.cks.length c7] cb s X1 s2 sv3 ∧ Fr cb W sv X1 sv3 := (by rw [← hx0]; exact ck_set ht0 hrb1 hrb2 hrb3 0 (.int .i64 3))
    have ht2 : CkS p [.string ⟨p.name.toArray⟩, .int .i64 p.year, .slice a3 p.opts.length c3, .slice a4 p.tabs.length c4, .slice a5 p.grps.length c5, .slice a6 p.lns.length c6, .slice a7 p.cks.length c7] cb s X2 s2 sv3 ∧ Fr cb W sv X2 sv3 := (by rw [← hx1]; exact ck_set ht1 hrb1 hrb2 hrb3 1 (.int .i64 (i : Int)))
    have ht3 : CkS p [.string ⟨p.name.toArray⟩, .int .i64 p.year, .slice a3 p.opts.length c3, .slice a4 p.tabs.length c4, .slice a5 p.grps.length c5, .slice a6 p.lns.length c6, .slice a7 p.cks.length c7] cb s X3 s2 sv3 ∧ Fr cb W sv X3 sv3 := (by rw [← hx2]; exact ck_set ht2 hrb1 hrb2 hrb3 2 (.int .i64 (-1)))
    have ht4 : CkS p [.string ⟨p.name.toArray⟩, .int .i64 p.year, .slice a3 p.opts.length c3, .slice a4 p.tabs.length c4, .slice a5 p.grps.length c5, .slice a6 p.lns.length c6, .slice a7 p.cks.length c7] cb s X4 s2 sv3 ∧ Fr cb W sv X4 sv3 := (by rw [← hx3]; exact ck_set ht3 hrb1 hrb2 hrb3 3 (.slice none 0 0))
    have hff : QQ (.returned (.tuple #[.agg #[.int .i64 3, .int .i64 (i : Int), .int .i64 (-1), .slice none 0 0], .int .i64 (er : Int)])) X4 := by
      rw [← hQH.out]
      exact ⟨rfl, sv3, ht4.1, ht4.2⟩
    simp only [itO, fsV, itF]
    have f0 := hq4.2.1 0 (by simp)
    have f1 := hq4.2.1 1 (by simp)
    have f2 := hq4.2.1 2 (by simp)
    have f3 := hq4.2.1 3 (by simp)
    clear hq0 hq1 hq2 hq3 hq4 ht0 ht1 ht2 ht3 ht4 hk_st
    go_wp2
    exact bodyPost_ret (v := .tuple #[.agg #[.int .i64 3, .int .i64 (i : Int), .int .i64 (-1), .slice none 0 0], .int .i64 (er : Int)]) (by simp [results, Try.results15, go_sem, f0, f1, f2, f3]) rfl hff
set_option maxRecDepth 20000 in
set_option maxHeartbeats 2000000 in
theorem grpP_any (p : Pk) (a3 a4 a5 a6 a7 : Option Addr) (c3 c4 c5 c6 c7 : Nat) (cb s : Nat) (W : World) (seen : Sn) (sv : Value) (h : CkS p [.string ⟨p.name.toArray⟩, .int .i64 p.year, .slice a3 p.opts.length c3, .slice a4 p.tabs.length c4, .slice a5 p.grps.length c5, .slice a6 p.lns.length c6, .slice a7 p.cks.length c7] cb s W seen sv) (hl : seen.length + p.grps.length ≤ 1000000) : Calls Try.prog 16 #[.pointer (some ⟨cb, 0, none⟩)] W (PtP p [.string ⟨p.name.toArray⟩, .int .i64 p.year, .slice a3 p.opts.length c3, .slice a4 p.tabs.length c4, .slice a5 p.grps.length c5, .slice a6 p.lns.length c6, .slice a7 p.cks.length c7] cb s sv ((frF gpF p.grps 0 seen).1, itO 4 (frF gpF p.grps 0 seen).2) W) := by
  have hcb := h.lt
  obtain ⟨W2, hW2⟩ : ∃ W2, W2 = (W.alloc (.cells #[.pointer (some ⟨cb, 0, none⟩)] 60)).alloc (.cells #[.int .i64 0, .int .i64 0, .int .i64 0, .slice none 0 0] 41) := ⟨_, rfl⟩
  have hB2 : Below W.heap.size W W2 := by rw [hW2]; exact ((Below.refl _ _).alloc (Nat.le_refl _) _).alloc (by simp) _
  have hbx : Bx W2 W.heap.size [.pointer (some ⟨cb, 0, none⟩)] := by rw [hW2]; exact (bx_new W #[.pointer (some ⟨cb, 0, none⟩)] 60).kept (World.grownBy_alloc _ (.cells #[.int .i64 0, .int .i64 0, .int .i64 0, .slice none 0 0] 41) none) (by simp)
  have hbz : Bx W2 (W.heap.size + 1) [.int .i64 0, .int .i64 0, .int .i64 0, .slice none 0 0] := by
    have := bx_new (W.alloc (.cells #[.pointer (some ⟨cb, 0, none⟩)] 60)) #[.int .i64 0, .int .i64 0, .int .i64 0, .slice none 0 0] 41
    rw [show (W.alloc (.cells #[.pointer (some ⟨cb, 0, none⟩)] 60)).heap.size = W.heap.size + 1 by simp, ← hW2] at this
    exact this
  have hk2 := h.bel hB2
  have hsx : some W.heap.size ≠ sv.ownBlock := fun e => by
    have := (h.pg _ e.symm).2
    omega
  have hsz : some (W.heap.size + 1) ≠ sv.ownBlock := fun e => by
    have := (h.pg _ e.symm).2
    omega
  have hfo := first_grp p a3 a4 a5 a6 a7 c3 c4 c5 c6 c7 cb s W.heap.size 4 p.grps a5 c5 W2 seen sv hk2 hl (hbx.2.1 0 (by simp)) (by omega) hsx hk2.rows.2.2.1
  obtain ⟨R, hRe⟩ : ∃ R, frF gpF p.grps 0 seen = R := ⟨_, rfl⟩
  rw [hRe] at hfo ⊢
  have q := h.ce 4 (by decide)
  obtain ⟨QQ, hQQ⟩ : ∃ QQ, PtP p [.string ⟨p.name.toArray⟩, .int .i64 p.year, .slice a3 p.opts.length c3, .slice a4 p.tabs.length c4, .slice a5 p.grps.length c5, .slice a6 p.lns.length c6, .slice a7 p.cks.length c7] cb s sv (R.1, itO 4 R.2) W = QQ := ⟨_, rfl⟩
  rw [hQQ]
  have hQH := Hid.mk hQQ
  have hF01 : Hid (∀ w3 sv3, Fr cb W2 sv w3 sv3 → Bx w3 (W.heap.size + 1) [.int .i64 0, .int .i64 0, .int .i64 0, .slice none 0 0] ∧ some (W.heap.size + 1) ≠ sv3.ownBlock) := ⟨fun w3 sv3 hF3 => ⟨hF3.box hbz (by omega) hsz, by
    rcases hF3.new with e | ⟨c, e, hc⟩
    · rw [e]; exact hsz
    · rw [e]; intro e2; injection e2 with e2; have := hbz.1; omega⟩⟩
  have hW2H := Hid.mk hW2
  have hrb1 : cb + 1 ≤ W.heap.size + 1 := by omega
  have hrb2 : W.heap.size ≤ W.heap.size + 1 := by omega
  clear hQQ hRe hW2 hbx hbz hk2
  go_enter Try.func16, Try.ntmps16
  go_wp2_with fail
  rw [← hW2H.out]
  clear hW2H
  obtain ⟨s2, o2⟩ := R
  cases o2 with
  | none =>
    refine hfo.mono ?_
    clear hfo
    rintro e w3 ⟨rfl, sv3, hk3, hF3⟩
    obtain ⟨hbr, hrb3⟩ := hF01.out w3 sv3 hF3
    have hff : QQ (.returned (.tuple #[.agg #[.int .i64 0, .int .i64 0, .int .i64 0, .slice none 0 0], .int .i64 0])) w3 := by
      rw [← hQH.out]
      exact ⟨rfl, sv3, hk3, (Fr.bel hB2 _).trans hF3⟩
    simp only [itO, fsV]
    have f0 := hbr.2.1 0 (by simp)
    have f1 := hbr.2.1 1 (by simp)
    have f2 := hbr.2.1 2 (by simp)
    have f3 := hbr.2.1 3 (by simp)
    have z0 := hbr.2.2 0
    have z1 := hbr.2.2 1
    have z2 := hbr.2.2 2
    have z3 := hbr.2.2 3
    have j0 := set_id f0
    have j1 := set_id f1
    have j2 := set_id f2
    have j3 := set_id f3
    go_wp2
    exact bodyPost_ret (v := .tuple #[.agg #[.int .i64 0, .int .i64 0, .int .i64 0, .slice none 0 0], .int .i64 0]) (by simp at f0 f1 f2 f3; simp [results, Try.results16, go_sem, f0, f1, f2, f3]) rfl hff
  | some ie =>
    obtain ⟨i, er⟩ := ie
    refine hfo.mono ?_
    clear hfo
    rintro e w3 ⟨rfl, sv3, hk3, hF3⟩
    obtain ⟨hbr3, hrb3⟩ := hF01.out w3 sv3 hF3
    have hk_st : CkS p [.string ⟨p.name.toArray⟩, .int .i64 p.year, .slice a3 p.opts.length c3, .slice a4 p.tabs.length c4, .slice a5 p.grps.length c5, .slice a6 p.lns.length c6, .slice a7 p.cks.length c7] cb s w3 s2 sv3 ∧ Fr cb W sv w3 sv3 := ⟨hk3, (Fr.bel hB2 _).trans hF3⟩
    have hq0 := hbr3
    have kg0 : w3.cell? ⟨(W.heap.size + 1), 0, none⟩ = some (.int .i64 0) := hq0.2.1 0 (by simp)
    have kh0 := hq0.2.2 0; have kl0 := hq0.1
    obtain ⟨X1, hx0⟩ : ∃ X1, w3.setCell ⟨(W.heap.size + 1), 0, none⟩ (.int .i64 4) = X1 := ⟨_, rfl⟩
    have hq1 : Bx X1 (W.heap.size + 1) [(.int .i64 4), (.int .i64 0), (.int .i64 0), (.slice none 0 0)] := (by rw [← hx0]; exact hq0.set 0 (.int .i64 4))
    have kg1 : X1.cell? ⟨(W.heap.size + 1), 1, none⟩ = some (.int .i64 0) := hq1.2.1 1 (by simp)
    have kh1 := hq1.2.2 1; have kl1 := hq1.1
    obtain ⟨X2, hx1⟩ : ∃ X2, X1.setCell ⟨(W.heap.size + 1), 1, none⟩ (.int .i64 (i : Int)) = X2 := ⟨_, rfl⟩
    have hq2 : Bx X2 (W.heap.size + 1) [(.int .i64 4), (.int .i64 (i : Int)), (.int .i64 0), (.slice none 0 0)] := (by rw [← hx1]; exact hq1.set 1 (.int .i64 (i : Int)))
    have kg2 : X2.cell? ⟨(W.heap.size + 1), 2, none⟩ = some (.int .i64 0) := hq2.2.1 2 (by simp)
    have kh2 := hq2.2.2 2; have kl2 := hq2.1
    obtain ⟨X3, hx2⟩ : ∃ X3, X2.setCell ⟨(W.heap.size + 1), 2, none⟩ (.int .i64 (-1)) = X3 := ⟨_, rfl⟩
    have hq3 : Bx X3 (W.heap.size + 1) [(.int .i64 4), (.int .i64 (i : Int)), (.int .i64 (-1)), (.slice none 0 0)] := (by rw [← hx2]; exact hq2.set 2 (.int .i64 (-1)))
    have kg3 : X3.cell? ⟨(W.heap.size + 1), 3, none⟩ = some (.slice none 0 0) := hq3.2.1 3 (by simp)
    have kh3 := hq3.2.2 3; have kl3 := hq3.1
    obtain ⟨X4, hx3⟩ : ∃ X4, X3.setCell ⟨(W.heap.size + 1), 3, none⟩ (.slice none 0 0) = X4 := ⟨_, rfl⟩
    have hq4 : Bx X4 (W.heap.size + 1) [(.int .i64 4), (.int .i64 (i : Int)), (.int .i64 (-1)), (.slice none 0 0)] := (by rw [← hx3]; exact hq3.set 3 (.slice none 0 0))
    have ht0 := hk_st
    have ht1 : CkS p [.string ⟨p.name.toArray⟩, .int .i64 p.year, .slice a3 p.opts.length c3, .slice a4 p.tabs.length c4, .slice a5 p.grps.length c5, .slice a6 p.lns.length c6, .slice a7 p.cks.length c7] cb s X1 s2 sv3 ∧ Fr cb W sv X1 sv3 := (by rw [← hx0]; exact ck_set ht0 hrb1 hrb2 hrb3 0 (.int .i64 4))
    have ht2 : CkS p [.string ⟨p.name.toArray⟩, .int .i64 p.year, .slice a3 p.opts.length c3, .slice a4 p.tabs.length c4, .slice a5 p.grps.length c5, .slice a6 p.lns.length c6, .slice a7 p.cks.length c7] cb s X2 s2 sv3 ∧ Fr cb W sv X2 sv3 := (by rw [← hx1]; exact ck_set ht1 hrb1 hrb2 hrb3 1 (.int .i64 (i : Int)))
    have ht3 : CkS p [.string ⟨p.name.toArray⟩, .int .i64 p.year, .slice a3 p.opts.length c3, .slice a4 p.tabs.length c4, .slice a5 p.grps.length c5, .slice a6 p.lns.length c6, .slice a7 p.cks.length c7] cb s X3 s2 sv3 ∧ Fr cb W sv X3 sv3 := (by rw [← hx2]; exact ck_set ht2 hrb1 hrb2 hrb3 2 (.int .i64 (-1)))
    have ht4 : CkS p [.string ⟨p.name.toArray⟩, .int .i64 p.year, .slice a3 p.opts.length c3, .slice a4 p.tabs.length c4, .slice a5 p.grps.length c5, .slice a6 p.lns.length c6, .slice a7 p.cks.length c7] cb s X4 s2 sv3 ∧ Fr cb W sv X4 sv3 := (by rw [← hx3]; exact ck_set ht3 hrb1 hrb2 hrb3 3 (.slice none 0 0))
    have hff : QQ (.returned (.tuple #[.agg #[.int .i64 4, .int .i64 (i : Int), .int .i64 (-1), .slice none 0 0], .int .i64 (er : Int)])) X4 := by
      rw [← hQH.out]
      exact ⟨rfl, sv3, ht4.1, ht4.2⟩
    simp only [itO, fsV, itF]
    have f0 := hq4.2.1 0 (by simp)
    have f1 := hq4.2.1 1 (by simp)
    have f2 := hq4.2.1 2 (by simp)
    have f3 := hq4.2.1 3 (by simp)
    clear hq0 hq1 hq2 hq3 hq4 ht0 ht1 ht2 ht3 ht4 hk_st
    go_wp2
    exact bodyPost_ret (v := .tuple #[.agg #[.int .i64 4, .int .i64 (i : Int), .int .i64 (-1), .slice none 0 0], .int .i64 (er : Int)]) (by simp [results, Try.results16, go_sem, f0, f1, f2, f3]) rfl hff
set_option maxRecDepth 20000 in
set_option maxHeartbeats 2000000 in
theorem chkP_any (p : Pk) (a3 a4 a5 a6 a7 : Option Addr) (c3 c4 c5 c6 c7 : Nat) (cb s : Nat) (W : World) (seen : Sn) (sv : Value) (h : CkS p [.string ⟨p.name.toArray⟩, .int .i64 p.year, .slice a3 p.opts.length c3, .slice a4 p.tabs.length c4, .slice a5 p.grps.length c5, .slice a6 p.lns.length c6, .slice a7 p.cks.length c7] cb s W seen sv) (hl : seen.length + p.cks.length ≤ 1000000) : Calls Try.prog 18 #[.pointer (some ⟨cb, 0, none⟩)] W (PtP p [.string ⟨p.name.toArray⟩, .int .i64 p.year, .slice a3 p.opts.length c3, .slice a4 p.tabs.length c4, .slice a5 p.grps.length c5, .slice a6 p.lns.length c6, .slice a7 p.cks.length c7] cb s sv ((frF (ckF p) p.cks 0 seen).1, itO 6 (frF (ckF p) p.cks 0 seen).2) W) := by
  have hcb := h.lt
  obtain ⟨W2, hW2⟩ : ∃ W2, W2 = (W.alloc (.cells #[.pointer (some ⟨cb, 0, none⟩)] 60)).alloc (.cells #[.int .i64 0, .int .i64 0, .int .i64 0, .slice none 0 0] 41) := ⟨_, rfl⟩
  have hB2 : Below W.heap.size W W2 := by rw [hW2]; exact ((Below.refl _ _).alloc (Nat.le_refl _) _).alloc (by simp) _
  have hbx : Bx W2 W.heap.size [.pointer (some ⟨cb, 0, none⟩)] := by rw [hW2]; exact (bx_new W #[.pointer (some ⟨cb, 0, none⟩)] 60).kept (World.grownBy_alloc _ (.cells #[.int .i64 0, .int .i64 0, .int .i64 0, .slice none 0 0] 41) none) (by simp)
  have hbz : Bx W2 (W.heap.size + 1) [.int .i64 0, .int .i64 0, .int .i64 0, .slice none 0 0] := by
    have := bx_new (W.alloc (.cells #[.pointer (some ⟨cb, 0, none⟩)] 60)) #[.int .i64 0, .int .i64 0, .int .i64 0, .slice none 0 0] 41
    rw [show (W.alloc (.cells #[.pointer (some ⟨cb, 0, none⟩)] 60)).heap.size = W.heap.size + 1 by simp, ← hW2] at this
    exact this
  have hk2 := h.bel hB2
  have hsx : some W.heap.size ≠ sv.ownBlock := fun e => by
    have := (h.pg _ e.symm).2
    omega
  have hsz : some (W.heap.size + 1) ≠ sv.ownBlock := fun e => by
    have := (h.pg _ e.symm).2
    omega
  have hfo := first_chk p a3 a4 a5 a6 a7 c3 c4 c5 c6 c7 cb s W.heap.size 6 p.cks a7 c7 W2 seen sv hk2 hl (hbx.2.1 0 (by simp)) (by omega) hsx hk2.rows.2.2.2.2
  obtain ⟨R, hRe⟩ : ∃ R, frF (ckF p) p.cks 0 seen = R := ⟨_, rfl⟩
  rw [hRe] at hfo ⊢
  have q := h.ce 6 (by decide)
  obtain ⟨QQ, hQQ⟩ : ∃ QQ, PtP p [.string ⟨p.name.toArray⟩, .int .i64 p.year, .slice a3 p.opts.length c3, .slice a4 p.tabs.length c4, .slice a5 p.grps.length c5, .slice a6 p.lns.length c6, .slice a7 p.cks.length c7] cb s sv (R.1, itO 6 R.2) W = QQ := ⟨_, rfl⟩
  rw [hQQ]
  have hQH := Hid.mk hQQ
  have hF01 : Hid (∀ w3 sv3, Fr cb W2 sv w3 sv3 → Bx w3 (W.heap.size + 1) [.int .i64 0, .int .i64 0, .int .i64 0, .slice none 0 0] ∧ some (W.heap.size + 1) ≠ sv3.ownBlock) := ⟨fun w3 sv3 hF3 => ⟨hF3.box hbz (by omega) hsz, by
    rcases hF3.new with e | ⟨c, e, hc⟩
    · rw [e]; exact hsz
    · rw [e]; intro e2; injection e2 with e2; have := hbz.1; omega⟩⟩
  have hW2H := Hid.mk hW2
  have hrb1 : cb + 1 ≤ W.heap.size + 1 := by omega
  have hrb2 : W.heap.size ≤ W.heap.size + 1 := by omega
  clear hQQ hRe hW2 hbx hbz hk2
  go_enter Try.func18, Try.ntmps18
  go_wp2_with fail
  rw [← hW2H.out]
  clear hW2H
  obtain ⟨s2, o2⟩ := R
  cases o2 with
  | none =>
    refine hfo.mono ?_
    clear hfo
    rintro e w3 ⟨rfl, sv3, hk3, hF3⟩
    obtain ⟨hbr, hrb3⟩ := hF01.out w3 sv3 hF3
    have hff : QQ (.returned (.tuple #[.agg #[.int .i64 0, .int .i64 0, .int .i64 0, .slice none 0 0], .int .i64 0])) w3 := by
      rw [← hQH.out]
      exact ⟨rfl, sv3, hk3, (Fr.bel hB2 _).trans hF3⟩
    simp only [itO, fsV]
    have f0 := hbr.2.1 0 (by simp)
    have f1 := hbr.2.1 1 (by simp)
    have f2 := hbr.2.1 2 (by simp)
    have f3 := hbr.2.1 3 (by simp)
    have z0 := hbr.2.2 0
    have z1 := hbr.2.2 1
    have z2 := hbr.2.2 2
    have z3 := hbr.2.2 3
    have j0 := set_id f0
    have j1 := set_id f1
    have j2 := set_id f2
    have j3 := set_id f3
    go_wp2
    exact bodyPost_ret (v := .tuple #[.agg #[.int .i64 0, .int .i64 0, .int .i64 0, .slice none 0 0], .int .i64 0]) (by simp at f0 f1 f2 f3; simp [results, Try.results18, go_sem, f0, f1, f2, f3]) rfl hff
  | some ie =>
    obtain ⟨i, er⟩ := ie
    refine hfo.mono ?_
    clear hfo
    rintro e w3 ⟨rfl, sv3, hk3, hF3⟩
    obtain ⟨hbr3, hrb3⟩ := hF01.out w3 sv3 hF3
    have hk_st : CkS p [.string ⟨p.name.toArray⟩, .int .i64 p.year, .slice a3 p.opts.length c3, .slice a4 p.tabs.length c4, .slice a5 p.grps.length c5, .slice a6 p.lns.length c6, .slice a7 p.cks.length c7] cb s w3 s2 sv3 ∧ Fr cb W sv w3 sv3 := ⟨hk3, (Fr.bel hB2 _).trans hF3⟩
    have hq0 := hbr3
    have kg0 : w3.cell? ⟨(W.heap.size + 1), 0, none⟩ = some (.int .i64 0) := hq0.2.1 0 (by simp)
    have kh0 := hq0.2.2 0; have kl0 := hq0.1
    obtain ⟨X1, hx0⟩ : ∃ X1, w3.setCell ⟨(W.heap.size + 1), 0, none⟩ (.int .i64 6) = X1 := ⟨_, rfl⟩
    have hq1 : Bx X1 (W.heap.size + 1) [(.int .i64 6), (.int .i64 0), (.int .i64 0), (.slice none 0 0)] := (by rw [← hx0]; exact hq0.set 0 (.int .i64 6))
    have kg1 : X1.cell? ⟨(W.heap.size + 1), 1, none⟩ = some (.int .i64 0) := hq1.2.1 1 (by simp)
    have kh1 := hq1.2.2 1; have kl1 := hq1.1
    obtain ⟨X2, hx1⟩ : ∃ X2, X1.setCell ⟨(W.heap.size + 1), 1, none⟩ (.int .i64 (i : Int)) = X2 := ⟨_, rfl⟩
    have hq2 : Bx X2 (W.heap.size + 1) [(.int .i64 6), (.int .i64 (i : Int)), (.int .i64 0), (.slice none 0 0)] := (by rw [← hx1]; exact hq1.set 1 (.int .i64 (i : Int)))
    have kg2 : X2.cell? ⟨(W.heap.size + 1), 2, none⟩ = some (.int .i64 0) := hq2.2.1 2 (by simp)
    have kh2 := hq2.2.2 2; have kl2 := hq2.1
    obtain ⟨X3, hx2⟩ : ∃ X3, X2.setCell ⟨(W.heap.size + 1), 2, none⟩ (.int .i64 (-1)) = X3 := ⟨_, rfl⟩
    have hq3 : Bx X3 (W.heap.size + 1) [(.int .i64 6), (.int .i64 (i : Int)), (.int .i64 (-1)), (.slice none 0 0)] := (by rw [← hx2]; exact hq2.set 2 (.int .i64 (-1)))
    have kg3 : X3.cell? ⟨(W.heap.size + 1), 3, none⟩ = some (.slice none 0 0) := hq3.2.1 3 (by simp)
    have kh3 := hq3.2.2 3; have kl3 := hq3.1
    obtain ⟨X4, hx3⟩ : ∃ X4, X3.setCell ⟨(W.heap.size + 1), 3, none⟩ (.slice none 0 0) = X4 := ⟨_, rfl⟩
    have hq4 : Bx X4 (W.heap.size + 1) [(.int .i64 6), (.int .i64 (i : Int)), (.int .i64 (-1)), (.slice none 0 0)] := (by rw [← hx3]; exact hq3.set 3 (.slice none 0 0))
    have ht0 := hk_st
    have ht1 : CkS p [.string ⟨p.name.toArray⟩, .int .i64 p.year, .slice a3 p.opts.length c3, .slice a4 p.tabs.length c4, .slice a5 p.grps.length c5, .slice a6 p.lns.length c6, .slice a7 p.cks.length c7] cb s X1 s2 sv3 ∧ Fr cb W sv X1 sv3 := (by rw [← hx0]; exact ck_set ht0 hrb1 hrb2 hrb3 0 (.int .i64 6))
    have ht2 : CkS p [.string ⟨p.name.toArray⟩, .int .i64 p.year, .slice a3 p.opts.length c3, .slice a4 p.tabs.length c4, .slice a5 p.grps.length c5, .slice a6 p.lns.length c6, .slice a7 p.cks.length c7] cb s X2 s2 sv3 ∧ Fr cb W sv X2 sv3 := (by rw [← hx1]; exact ck_set ht1 hrb1 hrb2 hrb3 1 (.int .i64 (i : Int)))
    have ht3 : CkS p [.string ⟨p.name.toArray⟩, .int .i64 p.year, .slice a3 p.opts.length c3, .slice a4 p.tabs.length c4, .slice a5 p.grps.length c5, .slice a6 p.lns.length c6, .slice a7 p.cks.length c7] cb s X3 s2 sv3 ∧ Fr cb W sv X3 sv3 := (by rw [← hx2]; exact ck_set ht2 hrb1 hrb2 hrb3 2 (.int .i64 (-1)))
    have ht4 : CkS p [.string ⟨p.name.toArray⟩, .int .i64 p.year, .slice a3 p.opts.length c3, .slice a4 p.tabs.length c4, .slice a5 p.grps.length c5, .slice a6 p.lns.length c6, .slice a7 p.cks.length c7] cb s X4 s2 sv3 ∧ Fr cb W sv X4 sv3 := (by rw [← hx3]; exact ck_set ht3 hrb1 hrb2 hrb3 3 (.slice none 0 0))
    have hff : QQ (.returned (.tuple #[.agg #[.int .i64 6, .int .i64 (i : Int), .int .i64 (-1), .slice none 0 0], .int .i64 (er : Int)])) X4 := by
      rw [← hQH.out]
      exact ⟨rfl, sv3, ht4.1, ht4.2⟩
    simp only [itO, fsV, itF]
    have f0 := hq4.2.1 0 (by simp)
    have f1 := hq4.2.1 1 (by simp)
    have f2 := hq4.2.1 2 (by simp)
    have f3 := hq4.2.1 3 (by simp)
    clear hq0 hq1 hq2 hq3 hq4 ht0 ht1 ht2 ht3 ht4 hk_st
    go_wp2
    exact bodyPost_ret (v := .tuple #[.agg #[.int .i64 6, .int .i64 (i : Int), .int .i64 (-1), .slice none 0 0], .int .i64 (er : Int)]) (by simp [results, Try.results18, go_sem, f0, f1, f2, f3]) rfl hff
end Go.Proofs.Yteiplejamciddaa
