import Derived.Test.YthnmjafoplfikaaGreatDoorJoin43
namespace Go.Proofs.YthnmjafoplfikaaGreatDoor
open Go.RowKit

set_option maxRecDepth 20000 in
set_option maxHeartbeats 2000000 in
theorem first_tab (p : Pk) (a3 a4 a5 a6 a7 : Option Addr) (c3 c4 c5 c6 c7 : Nat) (cb s xb : Nat) (part : Nat) (l : List (List UInt8 × List (Int × Int))) (al : Option Addr) (cl : Nat) (W : World) (seen : Sn) (sv : Value) (h : CkS p (scP p a3 a4 a5 a6 a7 c3 c4 c5 c6 c7) cb s W seen sv) (hl : seen.length + l.length ≤ 1000000) (hx : W.cell? ⟨xb, 0, none⟩ = some (.pointer (some ⟨cb, 0, none⟩))) (hxn : xb ≠ cb) (hxs : some xb ≠ sv.ownBlock) (hR : RowR eT W (fun b => b < cb) l al) : Calls Tryz.prog 102 #[.int .i64 (part : Int), .slice al l.length cl, .func (Fn.func 103) #[] #[.pointer (some ⟨xb, 0, none⟩)]] W (PtP p (scP p a3 a4 a5 a6 a7 c3 c4 c5 c6 c7) cb s sv ((frF tbF l 0 seen).1, itO part (frF tbF l 0 seen).2) W) := by
  obtain ⟨R, hRe⟩ : ∃ R, R = frF tbF l 0 seen := ⟨_, rfl⟩
  rw [← hRe]
  have hst : Hid (frF tbF (l.drop 0) 0 seen = R) := ⟨by rw [hRe]; rfl⟩
  have hxl := World.block_lt_of_cell? _ _ hx
  have hcb := h.lt
  obtain ⟨W1, hW1⟩ : ∃ W1, W1 = W.alloc (.cells #[.int .i64 0, .int .i64 0, .int .i64 0, .slice none 0 0] 105) := ⟨_, rfl⟩
  have hB1 : Below W.heap.size W W1 := by rw [hW1]; exact (Below.refl _ _).alloc (Nat.le_refl _) _
  have hbz : Bx W1 W.heap.size [.int .i64 0, .int .i64 0, .int .i64 0, .slice none 0 0] := by rw [hW1]; exact bx_new _ _ _
  obtain ⟨Q, hQ⟩ : ∃ Q, PtP p (scP p a3 a4 a5 a6 a7 c3 c4 c5 c6 c7) cb s sv (R.1, itO part R.2) W = Q := ⟨_, rfl⟩
  rw [hQ]
  have hQH := Hid.mk hQ
  have hW1H := Hid.mk hW1
  clear hRe hQ hW1
  go_enter Tryz.func102, Tryz.ntmps102
  go_wp2
  rw [← hW1H.out]
  clear hW1H
  go_loopw [13] (fun iv wr => ∃ (i : Nat) (sn : Sn) (sv2 : Value), iv = .int .i64 (i : Int) ∧ i ≤ l.length ∧ Hid (sn.length = seen.length + i) ∧ CkS p (scP p a3 a4 a5 a6 a7 c3 c4 c5 c6 c7) cb s wr sn sv2 ∧ Fr cb W1 sv wr sv2 ∧ Hid (frF tbF (l.drop i) i sn = R)) (fun iv _ => l.length - (intOf iv).toNat)
  case atStart => exact ⟨0, seen, sv, rfl, Nat.zero_le _, ⟨rfl⟩, h.bel hB1, Fr.refl _ _ _, hst⟩
  case round =>
    obtain ⟨i, sn, sv2, rfl, hi, hsn, hkr, hFr, hinv⟩ := hrel
    have hsv : ∀ b, b < W1.heap.size → b ≠ cb → some b ≠ sv.ownBlock → some b ≠ sv2.ownBlock := fun b hb h1 h2 => by
      rcases hFr.new with e | ⟨c, e, hc⟩
      · rw [e]; exact h2
      · rw [e]; intro e2; injection e2 with e2; omega
    have hrz : some W.heap.size ≠ sv.ownBlock := fun e => by
      have := (h.pg _ e.symm).2
      omega
    have hW1s : W.heap.size < W1.heap.size := hbz.1
    have hFW : Fr cb W sv wr sv2 := (Fr.bel hB1 _).trans hFr
    have hbr := hFr.box hbz (by omega) hrz
    by_cases hlt : i < l.length
    · have hlt' : (i : Int) < (l.length : Int) := by omega
      have hi0 : (0 : Int) ≤ (i : Int) := by omega
      have hRr : RowR eT wr (fun b => b < cb) l al := hR.fr hFW.size (fun b hb hbl => hFW.blk b hbl (by omega) (fun e => by have := (h.pg b e.symm).1; omega))
      obtain ⟨ge, oe, rfl⟩ := hRr.some hlt
      obtain ⟨cs, -, hge, ⟨an, cn, rfl, hRn⟩, hcs⟩ := hRr.item hlt
      have kx : wr.cell? ⟨ge, oe + i * 2, none⟩ = some (.string ⟨l[i].1.toArray⟩) ∧ wr.cell? ⟨ge, oe + i * 2 + 1, none⟩ = some (.slice an l[i].2.length cn) := ⟨hcs 0 (by decide), hcs 1 (by decide)⟩
      have hinv2 := hinv.out
      rw [fr_step tbF l hlt] at hinv2
      have hxr : wr.cell? ⟨xb, 0, none⟩ = some (.pointer (some ⟨cb, 0, none⟩)) := (World.cell?_of_block (a := ⟨xb, 0, none⟩) (hFW.blk xb hxl hxn hxs)).trans hx
      have hsx := hsv xb (Nat.lt_of_lt_of_le hxl hB1.size) hxn hxs
      have hsr := hsv W.heap.size hW1s (by omega) hrz
      have hls : sn.length ≤ 1000000 := by have := hsn.out; omega
      generalize l[i] = y at kx hinv2 hRn
      obtain ⟨X0, hX0⟩ : ∃ X0, X0 = wr.alloc (.cells #[.string ⟨y.1.toArray⟩, .slice an y.2.length cn] 69) := ⟨_, rfl⟩
      have hB0 : Below wr.heap.size wr X0 := by rw [hX0]; exact (Below.refl _ _).alloc (Nat.le_refl _) _
      have hk0 := hkr.bel hB0
      have hxl2 := World.block_lt_of_cell? _ _ hxr
      have hx0 := (bel_cell hB0 hxl2 0).trans hxr
      have hby : Bx X0 wr.heap.size [.string ⟨y.1.toArray⟩, .slice an y.2.length cn] := by rw [hX0]; exact bx_new _ _ _
      skip
      have hcall := tab1_any p (scP p a3 a4 a5 a6 a7 c3 c4 c5 c6 c7) cb s xb y.1 y.2 an cn X0 sn sv2 hk0 hls hx0 (hRn.fr hB0.size (fun b _ hlt => hB0.block b hlt))
      obtain ⟨d0, d1⟩ := kx
      have hX0H := Hid.mk hX0
      clear hcs hRr hinv hX0
      go_wp2_with fail
      rw [← hX0H.out]
      clear hX0H
      have hFW0 : Fr cb W sv X0 sv2 := hFW.trans (Fr.bel hB0 _)
      have hbr0 := hbr.bel hB0 hbr.1
      have hne1 : W.heap.size ≠ cb := by omega
      have hF01 : ∀ w3 sv3, Fr cb X0 sv2 w3 sv3 → Bx w3 W.heap.size [.int .i64 0, .int .i64 0, .int .i64 0, .slice none 0 0] ∧ some W.heap.size ≠ sv3.ownBlock := fun w3 sv3 hF3 => ⟨hF3.box hbr0 hne1 hsr, by
        rcases hF3.new with e | ⟨c, e, hc⟩
        · rw [e]; exact hsr
        · rw [e]; intro e2; injection e2 with e2; have := hbr0.1; omega⟩
      have hF01H := Hid.mk hF01
      have hrb1 : cb + 1 ≤ W.heap.size := hcb
      have hrb2 : W.heap.size ≤ W.heap.size := Nat.le_refl _
      obtain ⟨rr, hrr⟩ : ∃ rr, tbF y sn = rr := ⟨_, rfl⟩
      have hfst : rr.1.length = sn.length + 1 := by rw [← hrr]; show (sn ++ [_]).length = _; rw [List.length_append, List.length_singleton]
      rw [hrr] at hinv2 hcall
      clear hrr hF01
      obtain ⟨s2, e2⟩ := rr
      have hfH := Hid.mk hfst
      clear hfst
      cases e2 with
      | zero =>
        have hs2 := Hid.mk hinv2
        clear hinv2
        refine hcall.mono ?_
        clear hcall
        rintro e w3 ⟨rfl, sv3, hk3, hF3⟩
        have hFf : Fr cb W1 sv w3 sv3 := (hFr.trans (Fr.bel hB0 _)).trans hF3
        go_wp2
        exact ⟨⟨i + 1, s2, sv3, rfl, hlt, ⟨by have h1 : s2.length = sn.length + 1 := hfH.out; have h2 := hsn.out; omega⟩, hk3, hFf, hs2⟩, by simp only [intOf]; omega⟩
      | succ e3 =>
        have hs2 := Hid.mk hinv2
        clear hinv2
        have hne : (((e3 + 1 : Nat) : Int) != 0) = true := by simp; omega
        refine hcall.mono ?_
        clear hcall
        rintro e w3 ⟨rfl, sv3, hk3, hF3⟩
        obtain ⟨hbr3, hrb3⟩ := hF01H.out w3 sv3 hF3
        have hk_st : CkS p (scP p a3 a4 a5 a6 a7 c3 c4 c5 c6 c7) cb s w3 s2 sv3 ∧ Fr cb W sv w3 sv3 := ⟨hk3, hFW0.trans hF3⟩
        have hq0 := hbr3
        have kg0 : w3.cell? ⟨W.heap.size, 0, none⟩ = some (.int .i64 0) := hq0.2.1 0 (by simp)
        have kh0 := hq0.2.2 0; have kl0 := hq0.1
        obtain ⟨X1, hx0⟩ : ∃ X1, w3.setCell ⟨W.heap.size, 0, none⟩ (.int .i64 (part : Int)) = X1 := ⟨_, rfl⟩
        have hq1 : Bx X1 W.heap.size [(.int .i64 (part : Int)), (.int .i64 0), (.int .i64 0), (.slice none 0 0)] := (by rw [← hx0]; exact hq0.set 0 (.int .i64 (part : Int)))
        have kg1 : X1.cell? ⟨W.heap.size, 1, none⟩ = some (.int .i64 0) := hq1.2.1 1 (by simp)
        have kh1 := hq1.2.2 1; have kl1 := hq1.1
        obtain ⟨X2, hx1⟩ : ∃ X2, X1.setCell ⟨W.heap.size, 1, none⟩ (.int .i64 (i : Int)) = X2 := ⟨_, rfl⟩
        have hq2 : Bx X2 W.heap.size [(.int .i64 (part : Int)), (.int .i64 (i : Int)), (.int .i64 0), (.slice none 0 0)] := (by rw [← hx1]; exact hq1.set 1 (.int .i64 (i : Int)))
        have kg2 : X2.cell? ⟨W.heap.size, 2, none⟩ = some (.int .i64 0) := hq2.2.1 2 (by simp)
        have kh2 := hq2.2.2 2; have kl2 := hq2.1
        obtain ⟨X3, hx2⟩ : ∃ X3, X2.setCell ⟨W.heap.size, 2, none⟩ (.int .i64 (-1)) = X3 := ⟨_, rfl⟩
        have hq3 : Bx X3 W.heap.size [(.int .i64 (part : Int)), (.int .i64 (i : Int)), (.int .i64 (-1)), (.slice none 0 0)] := (by rw [← hx2]; exact hq2.set 2 (.int .i64 (-1)))
        have kg3 : X3.cell? ⟨W.heap.size, 3, none⟩ = some (.slice none 0 0) := hq3.2.1 3 (by simp)
        have kh3 := hq3.2.2 3; have kl3 := hq3.1
        obtain ⟨X4, hx3⟩ : ∃ X4, X3.setCell ⟨W.heap.size, 3, none⟩ (.slice none 0 0) = X4 := ⟨_, rfl⟩
        have hq4 : Bx X4 W.heap.size [(.int .i64 (part : Int)), (.int .i64 (i : Int)), (.int .i64 (-1)), (.slice none 0 0)] := (by rw [← hx3]; exact hq3.set 3 (.slice none 0 0))
        have ht0 := hk_st
        have ht1 : CkS p (scP p a3 a4 a5 a6 a7 c3 c4 c5 c6 c7) cb s X1 s2 sv3 ∧ Fr cb W sv X1 sv3 := (by rw [← hx0]; exact ck_set ht0 hrb1 hrb2 hrb3 0 (.int .i64 (part : Int)))
        have ht2 : CkS p (scP p a3 a4 a5 a6 a7 c3 c4 c5 c6 c7) cb s X2 s2 sv3 ∧ Fr cb W sv X2 sv3 := (by rw [← hx1]; exact ck_set ht1 hrb1 hrb2 hrb3 1 (.int .i64 (i : Int)))
        have ht3 : CkS p (scP p a3 a4 a5 a6 a7 c3 c4 c5 c6 c7) cb s X3 s2 sv3 ∧ Fr cb W sv X3 sv3 := (by rw [← hx2]; exact ck_set ht2 hrb1 hrb2 hrb3 2 (.int .i64 (-1)))
        have ht4 : CkS p (scP p a3 a4 a5 a6 a7 c3 c4 c5 c6 c7) cb s X4 s2 sv3 ∧ Fr cb W sv X4 sv3 := (by rw [← hx3]; exact ck_set ht3 hrb1 hrb2 hrb3 3 (.slice none 0 0))
        have hB5 : Below X4.heap.size X4 (X4.alloc (.cells #[.int .i64 (part : Int), .int .i64 (i : Int), .int .i64 (-1), .slice none 0 0] 105)) := (Below.refl _ _).alloc (Nat.le_refl _) _
        have hff : Q (.returned (.tuple #[.agg #[.int .i64 (part : Int), .int .i64 (i : Int), .int .i64 (-1), .slice none 0 0], .int .i64 ((e3 + 1 : Nat) : Int)])) (X4.alloc (.cells #[.int .i64 (part : Int), .int .i64 (i : Int), .int .i64 (-1), .slice none 0 0] 105)) := by
          rw [← hQH.out, ← hs2.out]
          exact ⟨rfl, sv3, ht4.1.bel hB5, ht4.2.trans (Fr.bel hB5 _)⟩
        have hq5 := hq4.bel hB5 hq4.1
        have f0 := hq5.2.1 0 (by simp)
        have f1 := hq5.2.1 1 (by simp)
        have f2 := hq5.2.1 2 (by simp)
        have f3 := hq5.2.1 3 (by simp)
        have l4 : W.heap.size < X4.heap.size := hq4.1
        clear hq0 hq1 hq2 hq3 hq4 hq5 ht0 ht1 ht2 ht3 ht4 hk_st hs2
        go_wp2_with (go_at_call 96; refine (itemAt_any _ _ _).mono ?_; rintro e w4 ⟨rfl, rfl⟩)
        exact bodyPost_ret (v := .tuple #[.agg #[.int .i64 (part : Int), .int .i64 (i : Int), .int .i64 (-1), .slice none 0 0], .int .i64 ((e3 + 1 : Nat) : Int)]) (by simp [results, Tryz.results102, go_sem, f0, f1, f2, f3]) rfl hff
    · have hlt' : ¬ (i : Int) < (l.length : Int) := by omega
      have hri := hinv.out
      rw [List.drop_eq_nil_of_le (by omega)] at hri
      have hff : Q (.returned (.tuple #[.agg #[.int .i64 0, .int .i64 0, .int .i64 0, .slice none 0 0], .int .i64 0])) wr := by
        rw [← hQH.out, ← hri]
        exact ⟨rfl, sv2, hkr, hFW⟩
      have f0 := hbr.2.1 0 (by simp)
      have f1 := hbr.2.1 1 (by simp)
      have f2 := hbr.2.1 2 (by simp)
      have f3 := hbr.2.1 3 (by simp)
      have z0 := hbr.2.2 0
      have z1 := hbr.2.2 1
      have z2 := hbr.2.2 2
      have z3 := hbr.2.2 3
      have j0 := set_id f0
      have j1 := set_id f1
      have j2 := set_id f2
      have j3 := set_id f3
      clear hinv hri
      go_wp2
      exact bodyPost_ret (v := .tuple #[.agg #[.int .i64 0, .int .i64 0, .int .i64 0, .slice none 0 0], .int .i64 0]) (by simp at f0 f1 f2 f3; simp [results, Tryz.results102, go_sem, f0, f1, f2, f3]) rfl hff
end Go.Proofs.YthnmjafoplfikaaGreatDoor


namespace Go.Proofs.YthnmjafoplfikaaGreatDoor
open Go.RowKit

/-- The pack's rows, at the slices that stand in the checker's block. -/
theorem CkS.rows {p : Pk} {a3 a4 a5 a6 a7 : Option Addr} {c3 c4 c5 c6 c7 : Nat} {cb s : Nat} {W : World} {seen : Sn} {sv : Value} (h : CkS p (scP p a3 a4 a5 a6 a7 c3 c4 c5 c6 c7) cb s W seen sv) : RowR eOc W (fun b => b < cb) p.opts a3 ∧ RowR eT W (fun b => b < cb) p.tabs a4 ∧ RowR eG W (fun b => b < cb) p.grps a5 ∧ RowR eLc W (fun b => b < cb) p.lns a6 ∧ RowR eK W (fun b => b < cb) p.cks a7 := by
  obtain ⟨b3, d3, b4, d4, b5, d5, b6, d6, b7, d7, h0, h1, r3, r4, r5, r6, r7⟩ := h.pk
  obtain ⟨e3, f3, e6, f6, g3, g6, s3, s6⟩ := h.rc
  simp only [List.cons.injEq, Value.slice.injEq, and_true, true_and] at h0
  obtain ⟨⟨rfl, rfl⟩, ⟨rfl, rfl⟩, ⟨rfl, rfl⟩, ⟨rfl, rfl⟩, rfl, rfl⟩ := h0
  injection g3 with g3
  injection g3 with g3
  injection g6 with g6
  injection g6 with g6
  subst g3 g6
  exact ⟨s3, r4, r5, s6, r7⟩
set_option maxRecDepth 20000 in
set_option maxHeartbeats 2000000 in
theorem optP_any (p : Pk) (a3 a4 a5 a6 a7 : Option Addr) (c3 c4 c5 c6 c7 : Nat) (cb s : Nat) (W : World) (seen : Sn) (sv : Value) (h : CkS p (scP p a3 a4 a5 a6 a7 c3 c4 c5 c6 c7) cb s W seen sv) (hl : seen.length + p.opts.length ≤ 1000000) : Calls Tryz.prog 75 #[.pointer (some ⟨cb, 0, none⟩)] W (PtP p (scP p a3 a4 a5 a6 a7 c3 c4 c5 c6 c7) cb s sv ((frF opF p.opts 0 seen).1, itO 2 (frF opF p.opts 0 seen).2) W) := by
  have hcb := h.lt
  obtain ⟨W2, hW2⟩ : ∃ W2, W2 = (W.alloc (.cells #[.pointer (some ⟨cb, 0, none⟩)] 151)).alloc (.cells #[.int .i64 0, .int .i64 0, .int .i64 0, .slice none 0 0] 105) := ⟨_, rfl⟩
  have hB2 : Below W.heap.size W W2 := by rw [hW2]; exact ((Below.refl _ _).alloc (Nat.le_refl _) _).alloc (by simp) _
  have hbx : Bx W2 W.heap.size [.pointer (some ⟨cb, 0, none⟩)] := by rw [hW2]; exact (bx_new W #[.pointer (some ⟨cb, 0, none⟩)] 151).kept (World.grownBy_alloc _ (.cells #[.int .i64 0, .int .i64 0, .int .i64 0, .slice none 0 0] 105) none) (by simp)
  have hbz : Bx W2 (W.heap.size + 1) [.int .i64 0, .int .i64 0, .int .i64 0, .slice none 0 0] := by
    have := bx_new (W.alloc (.cells #[.pointer (some ⟨cb, 0, none⟩)] 151)) #[.int .i64 0, .int .i64 0, .int .i64 0, .slice none 0 0] 105
    rw [show (W.alloc (.cells #[.pointer (some ⟨cb, 0, none⟩)] 151)).heap.size = W.heap.size + 1 by simp, ← hW2] at this
    exact this
  have hk2 := h.bel hB2
  have hsx : some W.heap.size ≠ sv.ownBlock := fun e => by
    have := (h.pg _ e.symm).2
    omega
  have hsz : some (W.heap.size + 1) ≠ sv.ownBlock := fun e => by
    have := (h.pg _ e.symm).2
    omega
  have hfo := first_opt p a3 a4 a5 a6 a7 c3 c4 c5 c6 c7 cb s W.heap.size 2 p.opts a3 c3 W2 seen sv hk2 hl (hbx.2.1 0 (by simp)) (by omega) hsx hk2.rows.1
  obtain ⟨R, hRe⟩ : ∃ R, frF opF p.opts 0 seen = R := ⟨_, rfl⟩
  rw [hRe] at hfo ⊢
  have q := h.ce 2 (by decide)
  obtain ⟨QQ, hQQ⟩ : ∃ QQ, PtP p (scP p a3 a4 a5 a6 a7 c3 c4 c5 c6 c7) cb s sv (R.1, itO 2 R.2) W = QQ := ⟨_, rfl⟩
  rw [hQQ]
  have hQH := Hid.mk hQQ
  have hF01 : Hid (∀ w3 sv3, Fr cb W2 sv w3 sv3 → Bx w3 (W.heap.size + 1) [.int .i64 0, .int .i64 0, .int .i64 0, .slice none 0 0] ∧ some (W.heap.size + 1) ≠ sv3.ownBlock) := ⟨fun w3 sv3 hF3 => ⟨hF3.box hbz (by omega) hsz, by
    rcases hF3.new with e | ⟨c, e, hc⟩
    · rw [e]; exact hsz
    · rw [e]; intro e2; injection e2 with e2; have := hbz.1; omega⟩⟩
  have hW2H := Hid.mk hW2
  have hrb1 : cb + 1 ≤ W.heap.size + 1 := by omega
  have hrb2 : W.heap.size ≤ W.heap.size + 1 := by omega
  clear hQQ hRe hW2 hbx hbz hk2
  go_enter Tryz.func75, Tryz.ntmps75
  go_wp2_with fail
  rw [← hW2H.out]
  clear hW2H
  obtain ⟨s2, o2⟩ := R
  cases o2 with
  | none =>
    refine hfo.mono ?_
    clear hfo
    rintro e w3 ⟨rfl, sv3, hk3, hF3⟩
    obtain ⟨hbr, hrb3⟩ := hF01.out w3 sv3 hF3
    have hff : QQ (.returned (.tuple #[.agg #[.int .i64 0, .int .i64 0, .int .i64 0, .slice none 0 0], .int .i64 0])) w3 := by
      rw [← hQH.out]
      exact ⟨rfl, sv3, hk3, (Fr.bel hB2 _).trans hF3⟩
    simp only [itO, fsV]
    have f0 := hbr.2.1 0 (by simp)
    have f1 := hbr.2.1 1 (by simp)
    have f2 := hbr.2.1 2 (by simp)
    have f3 := hbr.2.1 3 (by simp)
    have z0 := hbr.2.2 0
    have z1 := hbr.2.2 1
    have z2 := hbr.2.2 2
    have z3 := hbr.2.2 3
    have j0 := set_id f0
    have j1 := set_id f1
    have j2 := set_id f2
    have j3 := set_id f3
    go_wp2
    exact bodyPost_ret (v := .tuple #[.agg #[.int .i64 0, .int .i64 0, .int .i64 0, .slice none 0 0], .int .i64 0]) (by simp at f0 f1 f2 f3; simp [results, Tryz.results75, go_sem, f0, f1, f2, f3]) rfl hff
  | some ie =>
    obtain ⟨i, er⟩ := ie
    refine hfo.mono ?_
    clear hfo
    rintro e w3 ⟨rfl, sv3, hk3, hF3⟩
    obtain ⟨hbr3, hrb3⟩ := hF01.out w3 sv3 hF3
    have hk_st : CkS p (scP p a3 a4 a5 a6 a7 c3 c4 c5 c6 c7) cb s w3 s2 sv3 ∧ Fr cb W sv w3 sv3 := ⟨hk3, (Fr.bel hB2 _).trans hF3⟩
    have hq0 := hbr3
    have kg0 : w3.cell? ⟨(W.heap.size + 1), 0, none⟩ = some (.int .i64 0) := hq0.2.1 0 (by simp)
    have kh0 := hq0.2.2 0; have kl0 := hq0.1
    obtain ⟨X1, hx0⟩ : ∃ X1, w3.setCell ⟨(W.heap.size + 1), 0, none⟩ (.int .i64 2) = X1 := ⟨_, rfl⟩
    have hq1 : Bx X1 (W.heap.size + 1) [(.int .i64 2), (.int .i64 0), (.int .i64 0), (.slice none 0 0)] := (by rw [← hx0]; exact hq0.set 0 (.int .i64 2))
    have kg1 : X1.cell? ⟨(W.heap.size + 1), 1, none⟩ = some (.int .i64 0) := hq1.2.1 1 (by simp)
    have kh1 := hq1.2.2 1; have kl1 := hq1.1
    obtain ⟨X2, hx1⟩ : ∃ X2, X1.setCell ⟨(W.heap.size + 1), 1, none⟩ (.int .i64 (i : Int)) = X2 := ⟨_, rfl⟩
    have hq2 : Bx X2 (W.heap.size + 1) [(.int .i64 2), (.int .i64 (i : Int)), (.int .i64 0), (.slice none 0 0)] := (by rw [← hx1]; exact hq1.set 1 (.int .i64 (i : Int)))
    have kg2 : X2.cell? ⟨(W.heap.size + 1), 2, none⟩ = some (.int .i64 0) := hq2.2.1 2 (by simp)
    have kh2 := hq2.2.2 2; have kl2 := hq2.1
    obtain ⟨X3, hx2⟩ : ∃ X3, X2.setCell ⟨(W.heap.size + 1), 2, none⟩ (.int .i64 (-1)) = X3 := ⟨_, rfl⟩
    have hq3 : Bx X3 (W.heap.size + 1) [(.int .i64 2), (.int .i64 (i : Int)), (.int .i64 (-1)), (.slice none 0 0)] := (by rw [← hx2]; exact hq2.set 2 (.int .i64 (-1)))
    have kg3 : X3.cell? ⟨(W.heap.size + 1), 3, none⟩ = some (.slice none 0 0) := hq3.2.1 3 (by simp)
    have kh3 := hq3.2.2 3; have kl3 := hq3.1
    obtain ⟨X4, hx3⟩ : ∃ X4, X3.setCell ⟨(W.heap.size + 1), 3, none⟩ (.slice none 0 0) = X4 := ⟨_, rfl⟩
    have hq4 : Bx X4 (W.heap.size + 1) [(.int .i64 2), (.int .i64 (i : Int)), (.int .i64 (-1)), (.slice none 0 0)] := (by rw [← hx3]; exact hq3.set 3 (.slice none 0 0))
    have ht0 := hk_st
    have ht1 : CkS p (scP p a3 a4 a5 a6 a7 c3 c4 c5 c6 c7) cb s X1 s2 sv3 ∧ Fr cb W sv X1 sv3 := (by rw [← hx0]; exact ck_set ht0 hrb1 hrb2 hrb3 0 (.int .i64 2))
    have ht2 : CkS p (scP p a3 a4 a5 a6 a7 c3 c4 c5 c6 c7) cb s X2 s2 sv3 ∧ Fr cb W sv X2 sv3 := (by rw [← hx1]; exact ck_set ht1 hrb1 hrb2 hrb3 1 (.int .i64 (i : Int)))
    have ht3 : CkS p (scP p a3 a4 a5 a6 a7 c3 c4 c5 c6 c7) cb s X3 s2 sv3 ∧ Fr cb W sv X3 sv3 := (by rw [← hx2]; exact ck_set ht2 hrb1 hrb2 hrb3 2 (.int .i64 (-1)))
    have ht4 : CkS p (scP p a3 a4 a5 a6 a7 c3 c4 c5 c6 c7) cb s X4 s2 sv3 ∧ Fr cb W sv X4 sv3 := (by rw [← hx3]; exact ck_set ht3 hrb1 hrb2 hrb3 3 (.slice none 0 0))
    have hff : QQ (.returned (.tuple #[.agg #[.int .i64 2, .int .i64 (i : Int), .int .i64 (-1), .slice none 0 0], .int .i64 (er : Int)])) X4 := by
      rw [← hQH.out]
      exact ⟨rfl, sv3, ht4.1, ht4.2⟩
    simp only [itO, fsV, itF]
    have f0 := hq4.2.1 0 (by simp)
    have f1 := hq4.2.1 1 (by simp)
    have f2 := hq4.2.1 2 (by simp)
    have f3 := hq4.2.1 3 (by simp)
    clear hq0 hq1 hq2 hq3 hq4 ht0 ht1 ht2 ht3 ht4 hk_st
    go_wp2
    exact bodyPost_ret (v := .tuple #[.agg #[.int .i64 2, .int .i64 (i : Int), .int .i64 (-1), .slice none 0 0], .int .i64 (er : Int)]) (by simp [results, Tryz.results75, go_sem, f0, f1, f2, f3]) rfl hff
end Go.Proofs.YthnmjafoplfikaaGreatDoor


namespace Go.Proofs.YthnmjafoplfikaaGreatDoor
open Go.RowKit

set_option maxRecDepth 20000 in
set_option maxHeartbeats 2000000 in
theorem tabP_any (p : Pk) (a3 a4 a5 a6 a7 : Option Addr) (c3 c4 c5 c6 c7 : Nat) (cb s : Nat) (W : World) (seen : Sn) (sv : Value) (h : CkS p (scP p a3 a4 a5 a6 a7 c3 c4 c5 c6 c7) cb s W seen sv) (hl : seen.length + p.tabs.length ≤ 1000000) : Calls Tryz.prog 76 #[.pointer (some ⟨cb, 0, none⟩)] W (PtP p (scP p a3 a4 a5 a6 a7 c3 c4 c5 c6 c7) cb s sv ((frF tbF p.tabs 0 seen).1, itO 3 (frF tbF p.tabs 0 seen).2) W) := by
  have hcb := h.lt
  obtain ⟨W2, hW2⟩ : ∃ W2, W2 = (W.alloc (.cells #[.pointer (some ⟨cb, 0, none⟩)] 151)).alloc (.cells #[.int .i64 0, .int .i64 0, .int .i64 0, .slice none 0 0] 105) := ⟨_, rfl⟩
  have hB2 : Below W.heap.size W W2 := by rw [hW2]; exact ((Below.refl _ _).alloc (Nat.le_refl _) _).alloc (by simp) _
  have hbx : Bx W2 W.heap.size [.pointer (some ⟨cb, 0, none⟩)] := by rw [hW2]; exact (bx_new W #[.pointer (some ⟨cb, 0, none⟩)] 151).kept (World.grownBy_alloc _ (.cells #[.int .i64 0, .int .i64 0, .int .i64 0, .slice none 0 0] 105) none) (by simp)
  have hbz : Bx W2 (W.heap.size + 1) [.int .i64 0, .int .i64 0, .int .i64 0, .slice none 0 0] := by
    have := bx_new (W.alloc (.cells #[.pointer (some ⟨cb, 0, none⟩)] 151)) #[.int .i64 0, .int .i64 0, .int .i64 0, .slice none 0 0] 105
    rw [show (W.alloc (.cells #[.pointer (some ⟨cb, 0, none⟩)] 151)).heap.size = W.heap.size + 1 by simp, ← hW2] at this
    exact this
  have hk2 := h.bel hB2
  have hsx : some W.heap.size ≠ sv.ownBlock := fun e => by
    have := (h.pg _ e.symm).2
    omega
  have hsz : some (W.heap.size + 1) ≠ sv.ownBlock := fun e => by
    have := (h.pg _ e.symm).2
    omega
  have hfo := first_tab p a3 a4 a5 a6 a7 c3 c4 c5 c6 c7 cb s W.heap.size 3 p.tabs a4 c4 W2 seen sv hk2 hl (hbx.2.1 0 (by simp)) (by omega) hsx hk2.rows.2.1
  obtain ⟨R, hRe⟩ : ∃ R, frF tbF p.tabs 0 seen = R := ⟨_, rfl⟩
  rw [hRe] at hfo ⊢
  have q := h.ce 3 (by decide)
  obtain ⟨QQ, hQQ⟩ : ∃ QQ, PtP p (scP p a3 a4 a5 a6 a7 c3 c4 c5 c6 c7) cb s sv (R.1, itO 3 R.2) W = QQ := ⟨_, rfl⟩
  rw [hQQ]
  have hQH := Hid.mk hQQ
  have hF01 : Hid (∀ w3 sv3, Fr cb W2 sv w3 sv3 → Bx w3 (W.heap.size + 1) [.int .i64 0, .int .i64 0, .int .i64 0, .slice none 0 0] ∧ some (W.heap.size + 1) ≠ sv3.ownBlock) := ⟨fun w3 sv3 hF3 => ⟨hF3.box hbz (by omega) hsz, by
    rcases hF3.new with e | ⟨c, e, hc⟩
    · rw [e]; exact hsz
    · rw [e]; intro e2; injection e2 with e2; have := hbz.1; omega⟩⟩
  have hW2H := Hid.mk hW2
  have hrb1 : cb + 1 ≤ W.heap.size + 1 := by omega
  have hrb2 : W.heap.size ≤ W.heap.size + 1 := by omega
  clear hQQ hRe hW2 hbx hbz hk2
  go_enter Tryz.func76, Tryz.ntmps76
  go_wp2_with fail
  rw [← hW2H.out]
  clear hW2H
  obtain ⟨s2, o2⟩ := R
  cases o2 with
  | none =>
    refine hfo.mono ?_
    clear hfo
    rintro e w3 ⟨rfl, sv3, hk3, hF3⟩
    obtain ⟨hbr, hrb3⟩ := hF01.out w3 sv3 hF3
    have hff : QQ (.returned (.tuple #[.agg #[.int .i64 0, .int .i64 0, .int .i64 0, .slice none 0 0], .int .i64 0])) w3 := by
      rw [← hQH.out]
      exact ⟨rfl, sv3, hk3, (Fr.bel hB2 _).trans hF3⟩
    simp only [itO, fsV]
    have f0 := hbr.2.1 0 (by simp)
    have f1 := hbr.2.1 1 (by simp)
    have f2 := hbr.2.1 2 (by simp)
    have f3 := hbr.2.1 3 (by simp)
    have z0 := hbr.2.2 0
    have z1 := hbr.2.2 1
    have z2 := hbr.2.2 2
    have z3 := hbr.2.2 3
    have j0 := set_id f0
    have j1 := set_id f1
    have j2 := set_id f2
    have j3 := set_id f3
    go_wp2
    exact bodyPost_ret (v := .tuple #[.agg #[.int .i64 0, .int .i64 0, .int .i64 0, .slice none 0 0], .int .i64 0]) (by simp at f0 f1 f2 f3; simp [results, Tryz.results76, go_sem, f0, f1, f2, f3]) rfl hff
  | some ie =>
    obtain ⟨i, er⟩ := ie
    refine hfo.mono ?_
    clear hfo
    rintro e w3 ⟨rfl, sv3, hk3, hF3⟩
    obtain ⟨hbr3, hrb3⟩ := hF01.out w3 sv3 hF3
    have hk_st : CkS p (scP p a3 a4 a5 a6 a7 c3 c4 c5 c6 c7) cb s w3 s2 sv3 ∧ Fr cb W sv w3 sv3 := ⟨hk3, (Fr.bel hB2 _).trans hF3⟩
    have hq0 := hbr3
    have kg0 : w3.cell? ⟨(W.heap.size + 1), 0, none⟩ = some (.int .i64 0) := hq0.2.1 0 (by simp)
    have kh0 := hq0.2.2 0; have kl0 := hq0.1
    obtain ⟨X1, hx0⟩ : ∃ X1, w3.setCell ⟨(W.heap.size + 1), 0, none⟩ (.int .i64 3) = X1 := ⟨_, rfl⟩
    have hq1 : Bx X1 (W.heap.size + 1) [(.int .i64 3), (.int .i64 0), (.int .i64 0), (.slice none 0 0)] := (by rw [← hx0]; exact hq0.set 0 (.int .i64 3))
    have kg1 : X1.cell? ⟨(W.heap.size + 1), 1, none⟩ = some (.int .i64 0) := hq1.2.1 1 (by simp)
    have kh1 := hq1.2.2 1; have kl1 := hq1.1
    obtain ⟨X2, hx1⟩ : ∃ X2, X1.setCell ⟨(W.heap.size + 1), 1, none⟩ (.int .i64 (i : Int)) = X2 := ⟨_, rfl⟩
    have hq2 : Bx X2 (W.heap.size + 1) [(.int .i64 3), (.int .i64 (i : Int)), (.int .i64 0), (.slice none 0 0)] := (by rw [← hx1]; exact hq1.set 1 (.int .i64 (i : Int)))
    have kg2 : X2.cell? ⟨(W.heap.size + 1), 2, none⟩ = some (.int .i64 0) := hq2.2.1 2 (by simp)
    have kh2 := hq2.2.2 2; have kl2 := hq2.1
    obtain ⟨X3, hx2⟩ : ∃ X3, X2.setCell ⟨(W.heap.size + 1), 2, none⟩ (.int .i64 (-1)) = X3 := ⟨_, rfl⟩
    have hq3 : Bx X3 (W.heap.size + 1) [(.int .i64 3), (.int .i64 (i : Int)), (.int .i64 (-1)), (.slice none 0 0)] := (by rw [← hx2]; exact hq2.set 2 (.int .i64 (-1)))
    have kg3 : X3.cell? ⟨(W.heap.size + 1), 3, none⟩ = some (.slice none 0 0) := hq3.2.1 3 (by simp)
    have kh3 := hq3.2.2 3; have kl3 := hq3.1
    obtain ⟨X4, hx3⟩ : ∃ X4, X3.setCell ⟨(W.heap.size + 1), 3, none⟩ (.slice none 0 0) = X4 := ⟨_, rfl⟩
    have hq4 : Bx X4 (W.heap.size + 1) [(.int .i64 3), (.int .i64 (i : Int)), (.int .i64 (-1)), (.slice none 0 0)] := (by rw [← hx3]; exact hq3.set 3 (.slice none 0 0))
    have ht0 := hk_st
    have ht1 : CkS p (scP p a3 a4 a5 a6 a7 c3 c4 c5 c6 c7) cb s X1 s2 sv3 ∧ Fr cb W sv X1 sv3 := (by rw [← hx0]; exact ck_set ht0 hrb1 hrb2 hrb3 0 (.int .i64 3))
    have ht2 : CkS p (scP p a3 a4 a5 a6 a7 c3 c4 c5 c6 c7) cb s X2 s2 sv3 ∧ Fr cb W sv X2 sv3 := (by rw [← hx1]; exact ck_set ht1 hrb1 hrb2 hrb3 1 (.int .i64 (i : Int)))
    have ht3 : CkS p (scP p a3 a4 a5 a6 a7 c3 c4 c5 c6 c7) cb s X3 s2 sv3 ∧ Fr cb W sv X3 sv3 := (by rw [← hx2]; exact ck_set ht2 hrb1 hrb2 hrb3 2 (.int .i64 (-1)))
    have ht4 : CkS p (scP p a3 a4 a5 a6 a7 c3 c4 c5 c6 c7) cb s X4 s2 sv3 ∧ Fr cb W sv X4 sv3 := (by rw [← hx3]; exact ck_set ht3 hrb1 hrb2 hrb3 3 (.slice none 0 0))
    have hff : QQ (.returned (.tuple #[.agg #[.int .i64 3, .int .i64 (i : Int), .int .i64 (-1), .slice none 0 0], .int .i64 (er : Int)])) X4 := by
      rw [← hQH.out]
      exact ⟨rfl, sv3, ht4.1, ht4.2⟩
    simp only [itO, fsV, itF]
    have f0 := hq4.2.1 0 (by simp)
    have f1 := hq4.2.1 1 (by simp)
    have f2 := hq4.2.1 2 (by simp)
    have f3 := hq4.2.1 3 (by simp)
    clear hq0 hq1 hq2 hq3 hq4 ht0 ht1 ht2 ht3 ht4 hk_st
    go_wp2
    exact bodyPost_ret (v := .tuple #[.agg #[.int .i64 3, .int .i64 (i : Int), .int .i64 (-1), .slice none 0 0], .int .i64 (er : Int)]) (by simp [results, Tryz.results76, go_sem, f0, f1, f2, f3]) rfl hff
set_option maxRecDepth 20000 in
set_option maxHeartbeats 2000000 in
theorem grpP_any (p : Pk) (a3 a4 a5 a6 a7 : Option Addr) (c3 c4 c5 c6 c7 : Nat) (cb s : Nat) (W : World) (seen : Sn) (sv : Value) (h : CkS p (scP p a3 a4 a5 a6 a7 c3 c4 c5 c6 c7) cb s W seen sv) (hl : seen.length + p.grps.length ≤ 1000000) : Calls Tryz.prog 77 #[.pointer (some ⟨cb, 0, none⟩)] W (PtP p (scP p a3 a4 a5 a6 a7 c3 c4 c5 c6 c7) cb s sv ((frF gpF p.grps 0 seen).1, itO 4 (frF gpF p.grps 0 seen).2) W) := by
  have hcb := h.lt
  obtain ⟨W2, hW2⟩ : ∃ W2, W2 = (W.alloc (.cells #[.pointer (some ⟨cb, 0, none⟩)] 151)).alloc (.cells #[.int .i64 0, .int .i64 0, .int .i64 0, .slice none 0 0] 105) := ⟨_, rfl⟩
  have hB2 : Below W.heap.size W W2 := by rw [hW2]; exact ((Below.refl _ _).alloc (Nat.le_refl _) _).alloc (by simp) _
  have hbx : Bx W2 W.heap.size [.pointer (some ⟨cb, 0, none⟩)] := by rw [hW2]; exact (bx_new W #[.pointer (some ⟨cb, 0, none⟩)] 151).kept (World.grownBy_alloc _ (.cells #[.int .i64 0, .int .i64 0, .int .i64 0, .slice none 0 0] 105) none) (by simp)
  have hbz : Bx W2 (W.heap.size + 1) [.int .i64 0, .int .i64 0, .int .i64 0, .slice none 0 0] := by
    have := bx_new (W.alloc (.cells #[.pointer (some ⟨cb, 0, none⟩)] 151)) #[.int .i64 0, .int .i64 0, .int .i64 0, .slice none 0 0] 105
    rw [show (W.alloc (.cells #[.pointer (some ⟨cb, 0, none⟩)] 151)).heap.size = W.heap.size + 1 by simp, ← hW2] at this
    exact this
  have hk2 := h.bel hB2
  have hsx : some W.heap.size ≠ sv.ownBlock := fun e => by
    have := (h.pg _ e.symm).2
    omega
  have hsz : some (W.heap.size + 1) ≠ sv.ownBlock := fun e => by
    have := (h.pg _ e.symm).2
    omega
  have hfo := first_grp p a3 a4 a5 a6 a7 c3 c4 c5 c6 c7 cb s W.heap.size 4 p.grps a5 c5 W2 seen sv hk2 hl (hbx.2.1 0 (by simp)) (by omega) hsx hk2.rows.2.2.1
  obtain ⟨R, hRe⟩ : ∃ R, frF gpF p.grps 0 seen = R := ⟨_, rfl⟩
  rw [hRe] at hfo ⊢
  have q := h.ce 4 (by decide)
  obtain ⟨QQ, hQQ⟩ : ∃ QQ, PtP p (scP p a3 a4 a5 a6 a7 c3 c4 c5 c6 c7) cb s sv (R.1, itO 4 R.2) W = QQ := ⟨_, rfl⟩
  rw [hQQ]
  have hQH := Hid.mk hQQ
  have hF01 : Hid (∀ w3 sv3, Fr cb W2 sv w3 sv3 → Bx w3 (W.heap.size + 1) [.int .i64 0, .int .i64 0, .int .i64 0, .slice none 0 0] ∧ some (W.heap.size + 1) ≠ sv3.ownBlock) := ⟨fun w3 sv3 hF3 => ⟨hF3.box hbz (by omega) hsz, by
    rcases hF3.new with e | ⟨c, e, hc⟩
    · rw [e]; exact hsz
    · rw [e]; intro e2; injection e2 with e2; have := hbz.1; omega⟩⟩
  have hW2H := Hid.mk hW2
  have hrb1 : cb + 1 ≤ W.heap.size + 1 := by omega
  have hrb2 : W.heap.size ≤ W.heap.size + 1 := by omega
  clear hQQ hRe hW2 hbx hbz hk2
  go_enter Tryz.func77, Tryz.ntmps77
  go_wp2_with fail
  rw [← hW2H.out]
  clear hW2H
  obtain ⟨s2, o2⟩ := R
  cases o2 with
  | none =>
    refine hfo.mono ?_
    clear hfo
    rintro e w3 ⟨rfl, sv3, hk3, hF3⟩
    obtain ⟨hbr, hrb3⟩ := hF01.out w3 sv3 hF3
    have hff : QQ (.returned (.tuple #[.agg #[.int .i64 0, .int .i64 0, .int .i64 0, .slice none 0 0], .int .i64 0])) w3 := by
      rw [← hQH.out]
      exact ⟨rfl, sv3, hk3, (Fr.bel hB2 _).trans hF3⟩
    simp only [itO, fsV]
    have f0 := hbr.2.1 0 (by simp)
    have f1 := hbr.2.1 1 (by simp)
    have f2 := hbr.2.1 2 (by simp)
    have f3 := hbr.2.1 3 (by simp)
    have z0 := hbr.2.2 0
    have z1 := hbr.2.2 1
    have z2 := hbr.2.2 2
    have z3 := hbr.2.2 3
    have j0 := set_id f0
    have j1 := set_id f1
    have j2 := set_id f2
    have j3 := set_id f3
    go_wp2
    exact bodyPost_ret (v := .tuple #[.agg #[.int .i64 0, .int .i64 0, .int .i64 0, .slice none 0 0], .int .i64 0]) (by simp at f0 f1 f2 f3; simp [results, Tryz.results77, go_sem, f0, f1, f2, f3]) rfl hff
  | some ie =>
    obtain ⟨i, er⟩ := ie
    refine hfo.mono ?_
    clear hfo
    rintro e w3 ⟨rfl, sv3, hk3, hF3⟩
    obtain ⟨hbr3, hrb3⟩ := hF01.out w3 sv3 hF3
    have hk_st : CkS p (scP p a3 a4 a5 a6 a7 c3 c4 c5 c6 c7) cb s w3 s2 sv3 ∧ Fr cb W sv w3 sv3 := ⟨hk3, (Fr.bel hB2 _).trans hF3⟩
    have hq0 := hbr3
    have kg0 : w3.cell? ⟨(W.heap.size + 1), 0, none⟩ = some (.int .i64 0) := hq0.2.1 0 (by simp)
    have kh0 := hq0.2.2 0; have kl0 := hq0.1
    obtain ⟨X1, hx0⟩ : ∃ X1, w3.setCell ⟨(W.heap.size + 1), 0, none⟩ (.int .i64 4) = X1 := ⟨_, rfl⟩
    have hq1 : Bx X1 (W.heap.size + 1) [(.int .i64 4), (.int .i64 0), (.int .i64 0), (.slice none 0 0)] := (by rw [← hx0]; exact hq0.set 0 (.int .i64 4))
    have kg1 : X1.cell? ⟨(W.heap.size + 1), 1, none⟩ = some (.int .i64 0) := hq1.2.1 1 (by simp)
    have kh1 := hq1.2.2 1; have kl1 := hq1.1
    obtain ⟨X2, hx1⟩ : ∃ X2, X1.setCell ⟨(W.heap.size + 1), 1, none⟩ (.int .i64 (i : Int)) = X2 := ⟨_, rfl⟩
    have hq2 : Bx X2 (W.heap.size + 1) [(.int .i64 4), (.int .i64 (i : Int)), (.int .i64 0), (.slice none 0 0)] := (by rw [← hx1]; exact hq1.set 1 (.int .i64 (i : Int)))
    have kg2 : X2.cell? ⟨(W.heap.size + 1), 2, none⟩ = some (.int .i64 0) := hq2.2.1 2 (by simp)
    have kh2 := hq2.2.2 2; have kl2 := hq2.1
    obtain ⟨X3, hx2⟩ : ∃ X3, X2.setCell ⟨(W.heap.size + 1), 2, none⟩ (.int .i64 (-1)) = X3 := ⟨_, rfl⟩
    have hq3 : Bx X3 (W.heap.size + 1) [(.int .i64 4), (.int .i64 (i : Int)), (.int .i64 (-1)), (.slice none 0 0)] := (by rw [← hx2]; exact hq2.set 2 (.int .i64 (-1)))
    have kg3 : X3.cell? ⟨(W.heap.size + 1), 3, none⟩ = some (.slice none 0 0) := hq3.2.1 3 (by simp)
    have kh3 := hq3.2.2 3; have kl3 := hq3.1
    obtain ⟨X4, hx3⟩ : ∃ X4, X3.setCell ⟨(W.heap.size + 1), 3, none⟩ (.slice none 0 0) = X4 := ⟨_, rfl⟩
    have hq4 : Bx X4 (W.heap.size + 1) [(.int .i64 4), (.int .i64 (i : Int)), (.int .i64 (-1)), (.slice none 0 0)] := (by rw [← hx3]; exact hq3.set 3 (.slice none 0 0))
    have ht0 := hk_st
    have ht1 : CkS p (scP p a3 a4 a5 a6 a7 c3 c4 c5 c6 c7) cb s X1 s2 sv3 ∧ Fr cb W sv X1 sv3 := (by rw [← hx0]; exact ck_set ht0 hrb1 hrb2 hrb3 0 (.int .i64 4))
    have ht2 : CkS p (scP p a3 a4 a5 a6 a7 c3 c4 c5 c6 c7) cb s X2 s2 sv3 ∧ Fr cb W sv X2 sv3 := (by rw [← hx1]; exact ck_set ht1 hrb1 hrb2 hrb3 1 (.int .i64 (i : Int)))
    have ht3 : CkS p (scP p a3 a4 a5 a6 a7 c3 c4 c5 c6 c7) cb s X3 s2 sv3 ∧ Fr cb W sv X3 sv3 := (by rw [← hx2]; exact ck_set ht2 hrb1 hrb2 hrb3 2 (.int .i64 (-1)))
    have ht4 : CkS p (scP p a3 a4 a5 a6 a7 c3 c4 c5 c6 c7) cb s X4 s2 sv3 ∧ Fr cb W sv X4 sv3 := (by rw [← hx3]; exact ck_set ht3 hrb1 hrb2 hrb3 3 (.slice none 0 0))
    have hff : QQ (.returned (.tuple #[.agg #[.int .i64 4, .int .i64 (i : Int), .int .i64 (-1), .slice none 0 0], .int .i64 (er : Int)])) X4 := by
      rw [← hQH.out]
      exact ⟨rfl, sv3, ht4.1, ht4.2⟩
    simp only [itO, fsV, itF]
    have f0 := hq4.2.1 0 (by simp)
    have f1 := hq4.2.1 1 (by simp)
    have f2 := hq4.2.1 2 (by simp)
    have f3 := hq4.2.1 3 (by simp)
    clear hq0 hq1 hq2 hq3 hq4 ht0 ht1 ht2 ht3 ht4 hk_st
    go_wp2
    exact bodyPost_ret (v := .tuple #[.agg #[.int .i64 4, .int .i64 (i : Int), .int .i64 (-1), .slice none 0 0], .int .i64 (er : Int)]) (by simp [results, Tryz.results77, go_sem, f0, f1, f2, f3]) rfl hff
set_option maxRecDepth 20000 in
set_option maxHeartbeats 2000000 in
theorem chkP_any (p : Pk) (a3 a4 a5 a6 a7 : Option Addr) (c3 c4 c5 c6 c7 : Nat) (cb s : Nat) (W : World) (seen : Sn) (sv : Value) (h : CkS p (scP p a3 a4 a5 a6 a7 c3 c4 c5 c6 c7) cb s W seen sv) (hl : seen.length + p.cks.length ≤ 1000000) : Calls Tryz.prog 79 #[.pointer (some ⟨cb, 0, none⟩)] W (PtP p (scP p a3 a4 a5 a6 a7 c3 c4 c5 c6 c7) cb s sv ((frF (ckF p) p.cks 0 seen).1, itO 6 (frF (ckF p) p.cks 0 seen).2) W) := by
  have hcb := h.lt
  obtain ⟨W2, hW2⟩ : ∃ W2, W2 = (W.alloc (.cells #[.pointer (some ⟨cb, 0, none⟩)] 151)).alloc (.cells #[.int .i64 0, .int .i64 0, .int .i64 0, .slice none 0 0] 105) := ⟨_, rfl⟩
  have hB2 : Below W.heap.size W W2 := by rw [hW2]; exact ((Below.refl _ _).alloc (Nat.le_refl _) _).alloc (by simp) _
  have hbx : Bx W2 W.heap.size [.pointer (some ⟨cb, 0, none⟩)] := by rw [hW2]; exact (bx_new W #[.pointer (some ⟨cb, 0, none⟩)] 151).kept (World.grownBy_alloc _ (.cells #[.int .i64 0, .int .i64 0, .int .i64 0, .slice none 0 0] 105) none) (by simp)
  have hbz : Bx W2 (W.heap.size + 1) [.int .i64 0, .int .i64 0, .int .i64 0, .slice none 0 0] := by
    have := bx_new (W.alloc (.cells #[.pointer (some ⟨cb, 0, none⟩)] 151)) #[.int .i64 0, .int .i64 0, .int .i64 0, .slice none 0 0] 105
    rw [show (W.alloc (.cells #[.pointer (some ⟨cb, 0, none⟩)] 151)).heap.size = W.heap.size + 1 by simp, ← hW2] at this
    exact this
  have hk2 := h.bel hB2
  have hsx : some W.heap.size ≠ sv.ownBlock := fun e => by
    have := (h.pg _ e.symm).2
    omega
  have hsz : some (W.heap.size + 1) ≠ sv.ownBlock := fun e => by
    have := (h.pg _ e.symm).2
    omega
  have hfo := first_chk p a3 a4 a5 a6 a7 c3 c4 c5 c6 c7 cb s W.heap.size 6 p.cks a7 c7 W2 seen sv hk2 hl (hbx.2.1 0 (by simp)) (by omega) hsx hk2.rows.2.2.2.2
  obtain ⟨R, hRe⟩ : ∃ R, frF (ckF p) p.cks 0 seen = R := ⟨_, rfl⟩
  rw [hRe] at hfo ⊢
  have q := h.ce 6 (by decide)
  obtain ⟨QQ, hQQ⟩ : ∃ QQ, PtP p (scP p a3 a4 a5 a6 a7 c3 c4 c5 c6 c7) cb s sv (R.1, itO 6 R.2) W = QQ := ⟨_, rfl⟩
  rw [hQQ]
  have hQH := Hid.mk hQQ
  have hF01 : Hid (∀ w3 sv3, Fr cb W2 sv w3 sv3 → Bx w3 (W.heap.size + 1) [.int .i64 0, .int .i64 0, .int .i64 0, .slice none 0 0] ∧ some (W.heap.size + 1) ≠ sv3.ownBlock) := ⟨fun w3 sv3 hF3 => ⟨hF3.box hbz (by omega) hsz, by
    rcases hF3.new with e | ⟨c, e, hc⟩
    · rw [e]; exact hsz
    · rw [e]; intro e2; injection e2 with e2; have := hbz.1; omega⟩⟩
  have hW2H := Hid.mk hW2
  have hrb1 : cb + 1 ≤ W.heap.size + 1 := by omega
  have hrb2 : W.heap.size ≤ W.heap.size + 1 := by omega
  clear hQQ hRe hW2 hbx hbz hk2
  go_enter Tryz.func79, Tryz.ntmps79
  go_wp2_with fail
  rw [← hW2H.out]
  clear hW2H
  obtain ⟨s2, o2⟩ := R
  cases o2 with
  | none =>
    refine hfo.mono ?_
    clear hfo
    rintro e w3 ⟨rfl, sv3, hk3, hF3⟩
    obtain ⟨hbr, hrb3⟩ := hF01.out w3 sv3 hF3
    have hff : QQ (.returned (.tuple #[.agg #[.int .i64 0, .int .i64 0, .int .i64 0, .slice none 0 0], .int .i64 0])) w3 := by
      rw [← hQH.out]
      exact ⟨rfl, sv3, hk3, (Fr.bel hB2 _).trans hF3⟩
    simp only [itO, fsV]
    have f0 := hbr.2.1 0 (by simp)
    have f1 := hbr.2.1 1 (by simp)
    have f2 := hbr.2.1 2 (by simp)
    have f3 := hbr.2.1 3 (by simp)
    have z0 := hbr.2.2 0
    have z1 := hbr.2.2 1
    have z2 := hbr.2.2 2
    have z3 := hbr.2.2 3
    have j0 := set_id f0
    have j1 := set_id f1
    have j2 := set_id f2
    have j3 := set_id f3
    go_wp2
    exact bodyPost_ret (v := .tuple #[.agg #[.int .i64 0, .int .i64 0, .int .i64 0, .slice none 0 0], .int .i64 0]) (by simp at f0 f1 f2 f3; simp [results, Tryz.results79, go_sem, f0, f1, f2, f3]) rfl hff
  | some ie =>
    obtain ⟨i, er⟩ := ie
    refine hfo.mono ?_
    clear hfo
    rintro e w3 ⟨rfl, sv3, hk3, hF3⟩
    obtain ⟨hbr3, hrb3⟩ := hF01.out w3 sv3 hF3
    have hk_st : CkS p (scP p a3 a4 a5 a6 a7 c3 c4 c5 c6 c7) cb s w3 s2 sv3 ∧ Fr cb W sv w3 sv3 := ⟨hk3, (Fr.bel hB2 _).trans hF3⟩
    have hq0 := hbr3
    have kg0 : w3.cell? ⟨(W.heap.size + 1), 0, none⟩ = some (.int .i64 0) := hq0.2.1 0 (by simp)
    have kh0 := hq0.2.2 0; have kl0 := hq0.1
    obtain ⟨X1, hx0⟩ : ∃ X1, w3.setCell ⟨(W.heap.size + 1), 0, none⟩ (.int .i64 6) = X1 := ⟨_, rfl⟩
    have hq1 : Bx X1 (W.heap.size + 1) [(.int .i64 6), (.int .i64 0), (.int .i64 0), (.slice none 0 0)] := (by rw [← hx0]; exact hq0.set 0 (.int .i64 6))
    have kg1 : X1.cell? ⟨(W.heap.size + 1), 1, none⟩ = some (.int .i64 0) := hq1.2.1 1 (by simp)
    have kh1 := hq1.2.2 1; have kl1 := hq1.1
    obtain ⟨X2, hx1⟩ : ∃ X2, X1.setCell ⟨(W.heap.size + 1), 1, none⟩ (.int .i64 (i : Int)) = X2 := ⟨_, rfl⟩
    have hq2 : Bx X2 (W.heap.size + 1) [(.int .i64 6), (.int .i64 (i : Int)), (.int .i64 0), (.slice none 0 0)] := (by rw [← hx1]; exact hq1.set 1 (.int .i64 (i : Int)))
    have kg2 : X2.cell? ⟨(W.heap.size + 1), 2, none⟩ = some (.int .i64 0) := hq2.2.1 2 (by simp)
    have kh2 := hq2.2.2 2; have kl2 := hq2.1
    obtain ⟨X3, hx2⟩ : ∃ X3, X2.setCell ⟨(W.heap.size + 1), 2, none⟩ (.int .i64 (-1)) = X3 := ⟨_, rfl⟩
    have hq3 : Bx X3 (W.heap.size + 1) [(.int .i64 6), (.int .i64 (i : Int)), (.int .i64 (-1)), (.slice none 0 0)] := (by rw [← hx2]; exact hq2.set 2 (.int .i64 (-1)))
    have kg3 : X3.cell? ⟨(W.heap.size + 1), 3, none⟩ = some (.slice none 0 0) := hq3.2.1 3 (by simp)
    have kh3 := hq3.2.2 3; have kl3 := hq3.1
    obtain ⟨X4, hx3⟩ : ∃ X4, X3.setCell ⟨(W.heap.size + 1), 3, none⟩ (.slice none 0 0) = X4 := ⟨_, rfl⟩
    have hq4 : Bx X4 (W.heap.size + 1) [(.int .i64 6), (.int .i64 (i : Int)), (.int .i64 (-1)), (.slice none 0 0)] := (by rw [← hx3]; exact hq3.set 3 (.slice none 0 0))
    have ht0 := hk_st
    have ht1 : CkS p (scP p a3 a4 a5 a6 a7 c3 c4 c5 c6 c7) cb s X1 s2 sv3 ∧ Fr cb W sv X1 sv3 := (by rw [← hx0]; exact ck_set ht0 hrb1 hrb2 hrb3 0 (.int .i64 6))
    have ht2 : CkS p (scP p a3 a4 a5 a6 a7 c3 c4 c5 c6 c7) cb s X2 s2 sv3 ∧ Fr cb W sv X2 sv3 := (by rw [← hx1]; exact ck_set ht1 hrb1 hrb2 hrb3 1 (.int .i64 (i : Int)))
    have ht3 : CkS p (scP p a3 a4 a5 a6 a7 c3 c4 c5 c6 c7) cb s X3 s2 sv3 ∧ Fr cb W sv X3 sv3 := (by rw [← hx2]; exact ck_set ht2 hrb1 hrb2 hrb3 2 (.int .i64 (-1)))
    have ht4 : CkS p (scP p a3 a4 a5 a6 a7 c3 c4 c5 c6 c7) cb s X4 s2 sv3 ∧ Fr cb W sv X4 sv3 := (by rw [← hx3]; exact ck_set ht3 hrb1 hrb2 hrb3 3 (.slice none 0 0))
    have hff : QQ (.returned (.tuple #[.agg #[.int .i64 6, .int .i64 (i : Int), .int .i64 (-1), .slice none 0 0], .int .i64 (er : Int)])) X4 := by
      rw [← hQH.out]
      exact ⟨rfl, sv3, ht4.1, ht4.2⟩
    simp only [itO, fsV, itF]
    have f0 := hq4.2.1 0 (by simp)
    have f1 := hq4.2.1 1 (by simp)
    have f2 := hq4.2.1 2 (by simp)
    have f3 := hq4.2.1 3 (by simp)
    clear hq0 hq1 hq2 hq3 hq4 ht0 ht1 ht2 ht3 ht4 hk_st
    go_wp2
    exact bodyPost_ret (v := .tuple #[.agg #[.int .i64 6, .int .i64 (i : Int), .int .i64 (-1), .slice none 0 0], .int .i64 (er : Int)]) (by simp [results, Tryz.results79, go_sem, f0, f1, f2, f3]) rfl hff
end Go.Proofs.YthnmjafoplfikaaGreatDoor
