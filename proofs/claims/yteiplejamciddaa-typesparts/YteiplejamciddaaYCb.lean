import Derived.Test.YteiplejamciddaaYC9
namespace Go.Proofs.Yteiplejamciddaa
open Go.RowKit

set_option maxRecDepth 20000 in
set_option maxHeartbeats 2000000 in
theorem chk1_any (p : Pk) (a3 a4 a5 a6 a7 : Option Addr) (c3 c4 c5 c6 c7 : Nat) (cb s xb : Nat) (k : Ck) (an : Option Addr) (cn : Nat) (W : World) (seen : Sn) (sv : Value) (h : CkS p [.string ⟨p.name.toArray⟩, .int .i64 p.year, .slice a3 p.opts.length c3, .slice a4 p.tabs.length c4, .slice a5 p.grps.length c5, .slice a6 p.lns.length c6, .slice a7 p.cks.length c7] cb s W seen sv) (hl : seen.length ≤ 1000000) (hx : W.cell? ⟨xb, 0, none⟩ = some (.pointer (some ⟨cb, 0, none⟩))) (hxn : xb ≠ cb) (hxs : some xb ≠ sv.ownBlock) : Calls Try.prog 51 #[.agg #[.string ⟨k.name.toArray⟩, .bool k.hard, .int .i64 k.group, .int .i64 k.when_.op, .int .i64 k.when_.num, .int .i64 k.when_.den, .int .i64 k.when_.mode, .slice an k.when_.args.len cn, .string ⟨k.text.toArray⟩], .pointer (some ⟨xb, 0, none⟩)] W (NmP p [.string ⟨p.name.toArray⟩, .int .i64 p.year, .slice a3 p.opts.length c3, .slice a4 p.tabs.length c4, .slice a5 p.grps.length c5, .slice a6 p.lns.length c6, .slice a7 p.cks.length c7] cb s sv (ckF p k seen) W) := by
  obtain ⟨W1, hW1⟩ : ∃ W1, W1 = W.alloc (.cells #[.string ⟨k.name.toArray⟩, .bool k.hard, .int .i64 k.group, .int .i64 k.when_.op, .int .i64 k.when_.num, .int .i64 k.when_.den, .int .i64 k.when_.mode, .slice an k.when_.args.len cn, .string ⟨k.text.toArray⟩] 68) := ⟨_, rfl⟩
  have hB1 : Below W.heap.size W W1 := by rw [hW1]; exact (Below.refl _ _).alloc (Nat.le_refl _) _
  have hbx : Bx W1 W.heap.size [.string ⟨k.name.toArray⟩, .bool k.hard, .int .i64 k.group, .int .i64 k.when_.op, .int .i64 k.when_.num, .int .i64 k.when_.den, .int .i64 k.when_.mode, .slice an k.when_.args.len cn, .string ⟨k.text.toArray⟩] := by rw [hW1]; exact bx_new _ _ _
  have hk1 := h.bel hB1
  have hxl := World.block_lt_of_cell? _ _ hx
  have x1 := (bel_cell hB1 hxl 0).trans hx
  have b0 := hbx.2.1 0 (by simp)
  have hnm := name_any p [.string ⟨p.name.toArray⟩, .int .i64 p.year, .slice a3 p.opts.length c3, .slice a4 p.tabs.length c4, .slice a5 p.grps.length c5, .slice a6 p.lns.length c6, .slice a7 p.cks.length c7] cb s k.name W1 seen sv hk1 hl
  have hcb := h.lt
  have hne1 : W.heap.size ≠ cb := by omega
  have hne2 : some W.heap.size ≠ sv.ownBlock := fun e => by
    have := (h.pg _ e.symm).2
    omega
  have hrf : ckF p k seen = (seen ++ [k.name], (ckF p k seen).2) := rfl
  obtain ⟨r, hr⟩ : ∃ r, (ckF p k seen).2 = r := ⟨_, rfl⟩
  rw [hr] at hrf
  rw [hrf]
  clear hrf
  have hra : ∀ n0 : Nat, nwN k.name seen = n0 → r = (match n0 with
    | 0 => if inG p k.group then (if txB k.text then 0 else 61) else 64
    | e + 1 => e + 1) := by
    rintro _ rfl
    exact hr.symm
  obtain ⟨n0, hn0⟩ : ∃ n0, nwN k.name seen = n0 := ⟨_, rfl⟩
  have hrr := hra n0 hn0
  rw [hn0] at hnm
  clear hra
  have hW1H := Hid.mk hW1
  have hrH := Hid.mk hrr
  have hbxH := Hid.mk hbx
  clear hW1 hr hn0 hrr hbx
  go_enter Try.func51, Try.ntmps51
  go_wp2_with fail
  rw [← hW1H.out]
  clear hW1H
  cases n0 with
  | succ n1 =>
    have hr1 := hrH.out
    simp only at hr1
    subst hr1
    have hs1 : (((n1 + 1 : Nat) : Int) != 0) = true := by simp; omega
    go_wp2_with (go_at_call 41; refine hnm.mono ?_; clear hnm; rintro e w2 ⟨rfl, sv2, hk2, hF2⟩; have hff : NmP p [.string ⟨p.name.toArray⟩, .int .i64 p.year, .slice a3 p.opts.length c3, .slice a4 p.tabs.length c4, .slice a5 p.grps.length c5, .slice a6 p.lns.length c6, .slice a7 p.cks.length c7] cb s sv (seen ++ [k.name], n1 + 1) W (.returned (.int .i64 ((n1 + 1 : Nat) : Int))) w2 := ⟨rfl, sv2, hk2, (Fr.bel hB1 _).trans hF2⟩)
    go_ret
    exact hff
  | zero =>
    have hr1 := hrH.out
    simp only at hr1
    have hr1H := Hid.mk hr1
    clear hr1 hrH
    have hIn : Hid (∀ w2 sv2, CkS p [.string ⟨p.name.toArray⟩, .int .i64 p.year, .slice a3 p.opts.length c3, .slice a4 p.tabs.length c4, .slice a5 p.grps.length c5, .slice a6 p.lns.length c6, .slice a7 p.cks.length c7] cb s w2 (seen ++ [k.name]) sv2 → Calls Try.prog 52 #[.pointer (some ⟨cb, 0, none⟩), .int .i64 k.group] w2 (Lk (.bool (inG p k.group)) w2)) := ⟨fun w2 sv2 hk2 => inGroup_any p a3 a4 a5 a6 a7 c3 c4 c5 c6 c7 cb s k.group w2 _ sv2 hk2⟩
    have hTx : Hid (∀ w3, Calls Try.prog 53 #[.string ⟨k.text.toArray⟩] w3 (Lk (.bool (txB k.text)) w3)) := ⟨fun w3 => isText_any k.text w3⟩
    have hr2 := hr1H.out
    obtain ⟨gb, hgb⟩ : ∃ gb, inG p k.group = gb := ⟨_, rfl⟩
    obtain ⟨tb, htb⟩ : ∃ tb, txB k.text = tb := ⟨_, rfl⟩
    rw [hgb] at hIn hr2
    rw [htb] at hTx hr2
    clear hgb htb hr1H
    cases gb with
    | false =>
      simp only [Bool.false_eq_true, if_false] at hr2
      have hr2H := Hid.mk hr2
      clear hr2
      go_wp2_with (first | (go_at_call 41; refine hnm.mono ?_; clear hnm; rintro e w2 ⟨rfl, sv2, hk2, hF2⟩; have hbx2 := hF2.box hbxH.out hne1 hne2; have b2 := hbx2.2.1 2 (by simp); have x2 := (World.cell?_of_block (a := ⟨xb, 0, none⟩) (hF2.blk xb (Nat.lt_of_lt_of_le hxl hB1.size) hxn hxs)).trans x1; have hfin : Hid (∀ w3, Below w2.heap.size w2 w3 → NmP p [.string ⟨p.name.toArray⟩, .int .i64 p.year, .slice a3 p.opts.length c3, .slice a4 p.tabs.length c4, .slice a5 p.grps.length c5, .slice a6 p.lns.length c6, .slice a7 p.cks.length c7] cb s sv (seen ++ [k.name], r) W (.returned (.int .i64 (r : Int))) w3) := ⟨fun w3 h3 => ⟨rfl, sv2, hk2.bel h3, ((Fr.bel hB1 _).trans hF2).trans (Fr.bel h3 _)⟩⟩) | (go_at_call 52; refine (hIn.out w2 sv2 hk2).mono ?_; rintro e w3 ⟨rfl, hb3⟩; skip))
      have hff := hfin.out w3 hb3
      rw [hr2H.out] at hff ⊢
      go_ret
      exact hff
    | true =>
      simp only [if_true] at hr2
      cases tb with
      | false =>
        simp only [Bool.false_eq_true, if_false] at hr2
        have hr2H := Hid.mk hr2
        clear hr2
        go_wp2_with (first | (go_at_call 41; refine hnm.mono ?_; clear hnm; rintro e w2 ⟨rfl, sv2, hk2, hF2⟩; have hbx2 := hF2.box hbxH.out hne1 hne2; have b2 := hbx2.2.1 2 (by simp); have x2 := (World.cell?_of_block (a := ⟨xb, 0, none⟩) (hF2.blk xb (Nat.lt_of_lt_of_le hxl hB1.size) hxn hxs)).trans x1; have hfin : Hid (∀ w3, Below w2.heap.size w2 w3 → NmP p [.string ⟨p.name.toArray⟩, .int .i64 p.year, .slice a3 p.opts.length c3, .slice a4 p.tabs.length c4, .slice a5 p.grps.length c5, .slice a6 p.lns.length c6, .slice a7 p.cks.length c7] cb s sv (seen ++ [k.name], r) W (.returned (.int .i64 (r : Int))) w3) := ⟨fun w3 h3 => ⟨rfl, sv2, hk2.bel h3, ((Fr.bel hB1 _).trans hF2).trans (Fr.bel h3 _)⟩⟩) | (go_at_call 52; refine (hIn.out w2 sv2 hk2).mono ?_; rintro e w3 ⟨rfl, hb3⟩; have b9 := (hbx2.bel hb3 hbx2.1).2.1 8 (by simp)) | (go_at_call 53; refine (hTx.out w3).mono ?_; rintro e w4 ⟨rfl, hb4⟩))
        have hff := hfin.out w4 (bthr hb3 hb4 (Nat.le_refl _))
        rw [hr2H.out] at hff ⊢
        go_ret
        exact hff
      | true =>
        simp only [if_true] at hr2
        have hr2H := Hid.mk hr2
        clear hr2
        go_wp2_with (first | (go_at_call 41; refine hnm.mono ?_; clear hnm; rintro e w2 ⟨rfl, sv2, hk2, hF2⟩; have hbx2 := hF2.box hbxH.out hne1 hne2; have b2 := hbx2.2.1 2 (by simp); have x2 := (World.cell?_of_block (a := ⟨xb, 0, none⟩) (hF2.blk xb (Nat.lt_of_lt_of_le hxl hB1.size) hxn hxs)).trans x1; have hfin : Hid (∀ w3, Below w2.heap.size w2 w3 → NmP p [.string ⟨p.name.toArray⟩, .int .i64 p.year, .slice a3 p.opts.length c3, .slice a4 p.tabs.length c4, .slice a5 p.grps.length c5, .slice a6 p.lns.length c6, .slice a7 p.cks.length c7] cb s sv (seen ++ [k.name], r) W (.returned (.int .i64 (r : Int))) w3) := ⟨fun w3 h3 => ⟨rfl, sv2, hk2.bel h3, ((Fr.bel hB1 _).trans hF2).trans (Fr.bel h3 _)⟩⟩) | (go_at_call 52; refine (hIn.out w2 sv2 hk2).mono ?_; rintro e w3 ⟨rfl, hb3⟩; have b9 := (hbx2.bel hb3 hbx2.1).2.1 8 (by simp)) | (go_at_call 53; refine (hTx.out w3).mono ?_; rintro e w4 ⟨rfl, hb4⟩))
        have hff := hfin.out w4 (bthr hb3 hb4 (Nat.le_refl _))
        rw [hr2H.out] at hff ⊢
        go_ret
        exact hff
end Go.Proofs.Yteiplejamciddaa
