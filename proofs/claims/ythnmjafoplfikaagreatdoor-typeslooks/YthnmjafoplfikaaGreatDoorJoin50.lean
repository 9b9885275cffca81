import Derived.Test.YthnmjafoplfikaaGreatDoorJoin46
import Derived.Test.YthnmjafoplfikaaGreatDoorJoin45
import Derived.Test.YthnmjafoplfikaaGreatDoorJoin47
import Derived.Test.YthnmjafoplfikaaGreatDoorTurnYCq
namespace Go.Proofs.YthnmjafoplfikaaGreatDoor
open Go.RowKit

set_option maxRecDepth 20000 in
set_option maxHeartbeats 2000000 in
theorem isClause_any (l : List Cl) (a : Option Addr) (c i : Nat) (hi : i < l.length) (W : World) (hR : RowR eC W AnyB l a) (hl : l.length ≤ 1000000) (hlc : l.length ≤ c) : Calls Tryz.prog 108 #[.slice a l.length c, .int .i64 (i : Int)] W (Lk (.bool (clB l i l[i])) W) := by
  obtain ⟨ge, oe, rfl⟩ := hR.some hi
  obtain ⟨cs, -, -, ⟨a1y, c1y, a2y, c2y, rfl, -⟩, hcs⟩ := hR.item hi
  have kx : W.cell? ⟨ge, oe + i * 12, none⟩ = some (.int .i64 l[i].pri) ∧ W.cell? ⟨ge, oe + i * 12 + 1, none⟩ = some (.bool l[i].guarded) ∧ W.cell? ⟨ge, oe + i * 12 + 2, none⟩ = some (.int .i64 l[i].guard.op) ∧ W.cell? ⟨ge, oe + i * 12 + 3, none⟩ = some (.int .i64 l[i].guard.num) ∧ W.cell? ⟨ge, oe + i * 12 + 4, none⟩ = some (.int .i64 l[i].guard.den) ∧ W.cell? ⟨ge, oe + i * 12 + 5, none⟩ = some (.int .i64 l[i].guard.mode) ∧ W.cell? ⟨ge, oe + i * 12 + 6, none⟩ = some (.slice a1y l[i].guard.args.len c1y) ∧ W.cell? ⟨ge, oe + i * 12 + 7, none⟩ = some (.int .i64 l[i].body.op) ∧ W.cell? ⟨ge, oe + i * 12 + 8, none⟩ = some (.int .i64 l[i].body.num) ∧ W.cell? ⟨ge, oe + i * 12 + 9, none⟩ = some (.int .i64 l[i].body.den) ∧ W.cell? ⟨ge, oe + i * 12 + 10, none⟩ = some (.int .i64 l[i].body.mode) ∧ W.cell? ⟨ge, oe + i * 12 + 11, none⟩ = some (.slice a2y l[i].body.args.len c2y) := ⟨hcs 0 (by decide), hcs 1 (by decide), hcs 2 (by decide), hcs 3 (by decide), hcs 4 (by decide), hcs 5 (by decide), hcs 6 (by decide), hcs 7 (by decide), hcs 8 (by decide), hcs 9 (by decide), hcs 10 (by decide), hcs 11 (by decide)⟩
  have hbd : clB l i l[i] = (if i = 0 then decide (l[i].pri = 0) && !l[i].guarded && zrB l[i].guard else (l.take i).all (fun a => decide (a.pri ≠ l[i].pri)) && l[i].guarded && decide (1 ≤ l[i].pri) && decide (l[i].pri ≤ 9)) := rfl
  have hi' : (i : Int) < (l.length : Int) := by omega
  have hi0 : (0 : Int) ≤ (i : Int) := by omega
  generalize l[i] = y at kx hbd ⊢
  obtain ⟨R, hRe⟩ : ∃ R, R = clB l i y := ⟨_, rfl⟩
  rw [← hRe] at hbd ⊢
  clear hRe hcs
  obtain ⟨d0, d1, d2, d3, d4, d5, d6, d7, d8, d9, d10, d11⟩ := kx
  have hq := bx_new W #[.int .i64 y.pri, .bool y.guarded, .int .i64 y.guard.op, .int .i64 y.guard.num, .int .i64 y.guard.den, .int .i64 y.guard.mode, .slice a1y y.guard.args.len c1y, .int .i64 y.body.op, .int .i64 y.body.num, .int .i64 y.body.den, .int .i64 y.body.mode, .slice a2y y.body.args.len c2y] 80
  have hB2 : Below W.heap.size W (W.alloc (.cells #[.int .i64 y.pri, .bool y.guarded, .int .i64 y.guard.op, .int .i64 y.guard.num, .int .i64 y.guard.den, .int .i64 y.guard.mode, .slice a1y y.guard.args.len c1y, .int .i64 y.body.op, .int .i64 y.body.num, .int .i64 y.body.den, .int .i64 y.body.mode, .slice a2y y.body.args.len c2y] 80)) := (Below.refl _ _).alloc (Nat.le_refl _) _
  by_cases h0 : i = 0
  · rw [if_pos h0] at hbd
    subst h0
    simp only [Nat.zero_mul, Nat.add_zero] at d0 d1 d2 d3 d4 d5 d6 d7 d8 d9 d10 d11
    have hzr := fun X => isZero_any y.guard a1y c1y X
    clear hR
    by_cases hp : y.pri = 0
    rotate_left
    · have hp' : (y.pri == 0) = false := beq_eq_false_iff_ne.2 hp
      rw [decide_eq_false hp, Bool.false_and, Bool.false_and] at hbd
      subst hbd
      go_enter Tryz.func108, Tryz.ntmps108
      go_wp2
      go_ret
      exact ⟨rfl, hB2⟩
    · have hp' : (y.pri == 0) = true := by simp; exact hp
      rw [decide_eq_true hp, Bool.true_and] at hbd
      clear hp
      cases hg : y.guarded with
      | true =>
        rw [hg] at hbd d1 hq hB2
        simp only [Bool.not_true, Bool.false_and] at hbd
        subst hbd
        clear hg
        go_enter Tryz.func108, Tryz.ntmps108
        go_wp2
        go_ret
        exact ⟨rfl, hB2⟩
      | false =>
        rw [hg] at hbd d1 hq hB2
        simp only [Bool.not_false, Bool.true_and] at hbd
        clear hg
        subst hbd
        go_enter Tryz.func108, Tryz.ntmps108
        go_wp2_with (go_at_call 128; refine (hzr _).mono ?_; rintro e w1 ⟨rfl, hb1⟩; have hb3 := bthr hB2 hb1 (Nat.le_refl _))
        go_ret
        exact ⟨rfl, hb3⟩
  · rw [if_neg h0] at hbd
    have h0' : ((i : Int) == 0) = false := by simp; omega
    have hbdH := Hid.mk hbd
    obtain ⟨W2, hW2⟩ : ∃ W2, W2 = W.alloc (.cells #[.int .i64 y.pri, .bool y.guarded, .int .i64 y.guard.op, .int .i64 y.guard.num, .int .i64 y.guard.den, .int .i64 y.guard.mode, .slice a1y y.guard.args.len c1y, .int .i64 y.body.op, .int .i64 y.body.num, .int .i64 y.body.den, .int .i64 y.body.mode, .slice a2y y.body.args.len c2y] 80) := ⟨_, rfl⟩
    rw [← hW2] at hq hB2
    have hW2H := Hid.mk hW2
    have hic : (i : Int) ≤ (c : Int) := by omega
    clear hbd hW2
    go_enter Tryz.func108, Tryz.ntmps108
    go_wp2
    rw [← hW2H.out]
    clear hW2H d0 d1 d2 d3 d4 d5 d6 d7 d8 d9 d10 d11
    go_loopw [31] (fun iv wr => ∃ j : Nat, iv = .int .i64 (j : Int) ∧ j ≤ i ∧ Below W2.heap.size W2 wr ∧ Hid (∀ k (h : k < l.length), k < j → l[k].pri ≠ y.pri)) (fun iv _ => i - (intOf iv).toNat)
    case atStart => exact ⟨0, rfl, Nat.zero_le _, Below.refl _ _, ⟨fun j _ h => absurd h (Nat.not_lt_zero _)⟩⟩
    case round =>
      obtain ⟨j, rfl, hj, hBr, hall⟩ := hrel
      have hqr := hq.bel hBr hq.1
      have q0 := hqr.2.1 0 (by simp)
      have q1 := hqr.2.1 1 (by simp)
      have hlr : W.heap.size < wr.heap.size := hqr.1
      have hBw := bthr hB2 hBr (Nat.le_refl _)
      by_cases hlt : j < i
      · have hlt' : (j : Int) < (i : Int) := by omega
        have hj0 : (0 : Int) ≤ (j : Int) := by omega
        have hjl : j < l.length := by omega
        obtain ⟨cs, -, -, ⟨a1z, c1z, a2z, c2z, rfl, -⟩, hcs⟩ := (row_bel hR hBw (Nat.le_refl _)).item hjl
        have kx : wr.cell? ⟨ge, oe + j * 12, none⟩ = some (.int .i64 l[j].pri) ∧ wr.cell? ⟨ge, oe + j * 12 + 1, none⟩ = some (.bool l[j].guarded) ∧ wr.cell? ⟨ge, oe + j * 12 + 2, none⟩ = some (.int .i64 l[j].guard.op) ∧ wr.cell? ⟨ge, oe + j * 12 + 3, none⟩ = some (.int .i64 l[j].guard.num) ∧ wr.cell? ⟨ge, oe + j * 12 + 4, none⟩ = some (.int .i64 l[j].guard.den) ∧ wr.cell? ⟨ge, oe + j * 12 + 5, none⟩ = some (.int .i64 l[j].guard.mode) ∧ wr.cell? ⟨ge, oe + j * 12 + 6, none⟩ = some (.slice a1z l[j].guard.args.len c1z) ∧ wr.cell? ⟨ge, oe + j * 12 + 7, none⟩ = some (.int .i64 l[j].body.op) ∧ wr.cell? ⟨ge, oe + j * 12 + 8, none⟩ = some (.int .i64 l[j].body.num) ∧ wr.cell? ⟨ge, oe + j * 12 + 9, none⟩ = some (.int .i64 l[j].body.den) ∧ wr.cell? ⟨ge, oe + j * 12 + 10, none⟩ = some (.int .i64 l[j].body.mode) ∧ wr.cell? ⟨ge, oe + j * 12 + 11, none⟩ = some (.slice a2z l[j].body.args.len c2z) := ⟨hcs 0 (by decide), hcs 1 (by decide), hcs 2 (by decide), hcs 3 (by decide), hcs 4 (by decide), hcs 5 (by decide), hcs 6 (by decide), hcs 7 (by decide), hcs 8 (by decide), hcs 9 (by decide), hcs 10 (by decide), hcs 11 (by decide)⟩
        have hst : Hid (l[j].pri ≠ y.pri → ∀ k (h : k < l.length), k < j + 1 → l[k].pri ≠ y.pri) := ⟨fun he k h hk => by
          by_cases hkj : k < j
          · exact hall.out k h hkj
          · obtain rfl : k = j := by omega
            exact he⟩
        have hno : Hid (l[j].pri = y.pri → R = false) := ⟨fun he => by
          rw [hbdH.out]
          have : (l.take i).all (fun a => decide (a.pri ≠ y.pri)) = false := by
            cases hq : (l.take i).all (fun a => decide (a.pri ≠ y.pri)) with
            | false => rfl
            | true =>
              have := List.all_eq_true.1 hq _ (List.mem_iff_getElem.2 ⟨j, by rw [List.length_take]; omega, List.getElem_take⟩)
              rw [decide_eq_true_eq] at this
              exact absurd he this
          rw [this, Bool.false_and, Bool.false_and, Bool.false_and]⟩
        generalize l[j] = z at kx hst hno
        have hal : Below W2.heap.size W2 (wr.alloc (.cells #[.int .i64 z.pri, .bool z.guarded, .int .i64 z.guard.op, .int .i64 z.guard.num, .int .i64 z.guard.den, .int .i64 z.guard.mode, .slice a1z z.guard.args.len c1z, .int .i64 z.body.op, .int .i64 z.body.num, .int .i64 z.body.den, .int .i64 z.body.mode, .slice a2z z.body.args.len c2z] 80)) := hBr.alloc hBr.size _
        obtain ⟨d0, d1, d2, d3, d4, d5, d6, d7, d8, d9, d10, d11⟩ := kx
        clear hcs hall hR
        by_cases hpz : z.pri = y.pri
        · have hf := hno.out hpz
          subst hf
          have hpz' : (z.pri == y.pri) = true := by simp; exact hpz
          clear hno hst hpz
          go_wp2
          go_ret
          exact ⟨rfl, bthr hB2 hal (Nat.le_refl _)⟩
        · have hs2 := Hid.mk (hst.out hpz)
          have hpz' : (z.pri == y.pri) = false := beq_eq_false_iff_ne.2 hpz
          clear hno hst hpz
          go_wp2
          exact ⟨⟨j + 1, rfl, hlt, hal, hs2⟩, by simp only [intOf]; omega⟩
      · have hlt' : ¬ (j : Int) < (i : Int) := by omega
        have hbd := hbdH.out
        have hta : (l.take i).all (fun a => decide (a.pri ≠ y.pri)) = true := List.all_eq_true.2 (fun a ha => by
          obtain ⟨k, hk, rfl⟩ := List.mem_iff_getElem.1 ha
          rw [List.length_take] at hk
          rw [List.getElem_take, decide_eq_true_eq]
          exact hall.out k (by omega) (by omega))
        rw [hta, Bool.true_and] at hbd
        clear hall hta hbdH hR
        cases hg : y.guarded with
        | false =>
          rw [hg] at hbd q1
          simp only [Bool.false_and] at hbd
          subst hbd
          clear hg
          go_wp2
          go_ret
          exact ⟨rfl, hBw⟩
        | true =>
          rw [hg] at hbd q1
          simp only [Bool.true_and] at hbd
          clear hg
          by_cases hp : 1 ≤ y.pri
          · rw [decide_eq_true hp, Bool.true_and] at hbd
            subst hbd
            go_wp2
            go_ret
            exact ⟨rfl, hBw⟩
          · rw [decide_eq_false hp, Bool.false_and] at hbd
            have hp' : y.pri < 1 := by omega
            subst hbd
            go_wp2
            go_ret
            exact ⟨rfl, hBw⟩
end Go.Proofs.YthnmjafoplfikaaGreatDoor


namespace Go.Proofs.YthnmjafoplfikaaGreatDoor
open Go.RowKit

set_option maxRecDepth 20000 in
set_option maxHeartbeats 2000000 in
theorem line_any (p : Pk) (a3 a4 a5 a6 a7 : Option Addr) (c3 c4 c5 c6 c7 : Nat) (cb s : Nat) (l : Ln) (an : Option Addr) (cn : Nat) (W : World) (seen : Sn) (sv : Value) (h : CkS p [.string ⟨p.name.toArray⟩, .int .i64 p.year, .slice a3 p.opts.length c3, .slice a4 p.tabs.length c4, .slice a5 p.grps.length c5, .slice a6 p.lns.length c6, .slice a7 p.cks.length c7] cb s W seen sv) (hl : seen.length ≤ 1000000)  : Calls Tryz.prog 107 #[.pointer (some ⟨cb, 0, none⟩), .agg #[.string ⟨l.name.toArray⟩, .bool l.input, .bool l.must, .int .i64 l.type, .int .i64 l.opts, .int .i64 l.group, .slice an l.cls.length cn]] W (NmP p [.string ⟨p.name.toArray⟩, .int .i64 p.year, .slice a3 p.opts.length c3, .slice a4 p.tabs.length c4, .slice a5 p.grps.length c5, .slice a6 p.lns.length c6, .slice a7 p.cks.length c7] cb s sv (lnE p l seen) W) := by
  obtain ⟨W1, hW1⟩ : ∃ W1, W1 = W.alloc (.cells #[.string ⟨l.name.toArray⟩, .bool l.input, .bool l.must, .int .i64 l.type, .int .i64 l.opts, .int .i64 l.group, .slice an l.cls.length cn] 78) := ⟨_, rfl⟩
  have hB1 : Below W.heap.size W W1 := by rw [hW1]; exact (Below.refl _ _).alloc (Nat.le_refl _) _
  have hbx : Bx W1 W.heap.size [.string ⟨l.name.toArray⟩, .bool l.input, .bool l.must, .int .i64 l.type, .int .i64 l.opts, .int .i64 l.group, .slice an l.cls.length cn] := by rw [hW1]; exact bx_new _ _ _
  have hk1 := h.bel hB1
  have b0 := hbx.2.1 0 (by simp)
  have hnm := name_any p [.string ⟨p.name.toArray⟩, .int .i64 p.year, .slice a3 p.opts.length c3, .slice a4 p.tabs.length c4, .slice a5 p.grps.length c5, .slice a6 p.lns.length c6, .slice a7 p.cks.length c7] cb s l.name W1 seen sv hk1 hl
  have hcb := h.lt
  have hne1 : W.heap.size ≠ cb := by omega
  have hne2 : some W.heap.size ≠ sv.ownBlock := fun e => by
    have := (h.pg _ e.symm).2
    omega
  have hrf : lnE p l seen = (seen ++ [l.name], (lnE p l seen).2) := rfl
  obtain ⟨r, hr⟩ : ∃ r, (lnE p l seen).2 = r := ⟨_, rfl⟩
  rw [hr] at hrf
  rw [hrf]
  clear hrf
  have hra : ∀ n0 : Nat, nwN l.name seen = n0 → r = (match n0 with
    | 0 => if tyB p l then (if inG p l.group then (if l.input then (if l.cls.length > 0 then 65 else 0) else if l.cls.length < 1 ∨ 6 < l.cls.length then 65 else 0) else 64) else 65
    | e + 1 => e + 1) := by
    rintro _ rfl
    exact hr.symm
  obtain ⟨n0, hn0⟩ : ∃ n0, nwN l.name seen = n0 := ⟨_, rfl⟩
  have hrr := hra n0 hn0
  rw [hn0] at hnm
  clear hra
  have hW1H := Hid.mk hW1
  have hrH := Hid.mk hrr
  have hbxH := Hid.mk hbx
  clear hW1 hr hn0 hrr hbx
  go_enter Tryz.func107, Tryz.ntmps107
  go_wp2_with fail
  rw [← hW1H.out]
  clear hW1H
  cases n0 with
  | succ n1 =>
    have hr1 := hrH.out
    simp only at hr1
    subst hr1
    have hs1 : (((n1 + 1 : Nat) : Int) != 0) = true := by simp; omega
    go_wp2_with (go_at_call 100; refine hnm.mono ?_; clear hnm; rintro e w2 ⟨rfl, sv2, hk2, hF2⟩; have hff : NmP p [.string ⟨p.name.toArray⟩, .int .i64 p.year, .slice a3 p.opts.length c3, .slice a4 p.tabs.length c4, .slice a5 p.grps.length c5, .slice a6 p.lns.length c6, .slice a7 p.cks.length c7] cb s sv (seen ++ [l.name], n1 + 1) W (.returned (.int .i64 ((n1 + 1 : Nat) : Int))) w2 := ⟨rfl, sv2, hk2, (Fr.bel hB1 _).trans hF2⟩)
    go_ret
    exact hff
  | zero =>
    have hr1 := hrH.out
    simp only at hr1
    have hr1H := Hid.mk hr1
    clear hr1 hrH
    have hIn : Hid (∀ w3 sv2, CkS p [.string ⟨p.name.toArray⟩, .int .i64 p.year, .slice a3 p.opts.length c3, .slice a4 p.tabs.length c4, .slice a5 p.grps.length c5, .slice a6 p.lns.length c6, .slice a7 p.cks.length c7] cb s w3 (seen ++ [l.name]) sv2 → Calls Tryz.prog 111 #[.pointer (some ⟨cb, 0, none⟩), .int .i64 l.group] w3 (Lk (.bool (inG p l.group)) w3)) := ⟨fun w3 sv2 hk3 => inGroup_any p a3 a4 a5 a6 a7 c3 c4 c5 c6 c7 cb s l.group w3 _ sv2 hk3⟩
    have hTy : Hid (∀ w2 sv2, CkS p [.string ⟨p.name.toArray⟩, .int .i64 p.year, .slice a3 p.opts.length c3, .slice a4 p.tabs.length c4, .slice a5 p.grps.length c5, .slice a6 p.lns.length c6, .slice a7 p.cks.length c7] cb s w2 (seen ++ [l.name]) sv2 → Calls Tryz.prog 127 #[.pointer (some ⟨cb, 0, none⟩), .agg #[.string ⟨l.name.toArray⟩, .bool l.input, .bool l.must, .int .i64 l.type, .int .i64 l.opts, .int .i64 l.group, .slice an l.cls.length cn]] w2 (Lk (.bool (tyB p l)) w2)) := ⟨fun w2 sv2 hk2 => isTyped_any p a3 a4 a5 a6 a7 c3 c4 c5 c6 c7 cb s l an cn w2 _ sv2 hk2⟩
    have hr2 := hr1H.out
    obtain ⟨tb, htb⟩ : ∃ tb, tyB p l = tb := ⟨_, rfl⟩
    obtain ⟨gb, hgb⟩ : ∃ gb, inG p l.group = gb := ⟨_, rfl⟩
    rw [hgb] at hIn hr2
    rw [htb] at hTy hr2
    clear hgb htb hr1H
    cases tb with
    | false =>
      simp only [Bool.false_eq_true, if_false] at hr2
      have hr2H := Hid.mk hr2
      clear hr2
      go_wp2_with (first | (go_at_call 100; refine hnm.mono ?_; clear hnm; rintro e w2 ⟨rfl, sv2, hk2, hF2⟩; have hbx2 := hF2.box hbxH.out hne1 hne2; have b0 := hbx2.2.1 0 (by simp); have b1 := hbx2.2.1 1 (by simp); have b2 := hbx2.2.1 2 (by simp); have b3 := hbx2.2.1 3 (by simp); have b4 := hbx2.2.1 4 (by simp); have b5 := hbx2.2.1 5 (by simp); have b6 := hbx2.2.1 6 (by simp); have hfin : Hid (∀ w3, Below w2.heap.size w2 w3 → NmP p [.string ⟨p.name.toArray⟩, .int .i64 p.year, .slice a3 p.opts.length c3, .slice a4 p.tabs.length c4, .slice a5 p.grps.length c5, .slice a6 p.lns.length c6, .slice a7 p.cks.length c7] cb s sv (seen ++ [l.name], r) W (.returned (.int .i64 (r : Int))) w3) := ⟨fun w3 h3 => ⟨rfl, sv2, hk2.bel h3, ((Fr.bel hB1 _).trans hF2).trans (Fr.bel h3 _)⟩⟩) | (go_at_call 127; refine (hTy.out w2 sv2 hk2).mono ?_; rintro e w3 ⟨rfl, hb3⟩; have hk3 := hk2.bel hb3; have hbx3 := hbx2.bel hb3 hbx2.1; have d5 := hbx3.2.1 5 (by simp)))
      have hff := hfin.out w3 hb3
      rw [hr2H.out] at hff ⊢
      go_ret
      exact hff
    | true =>
      simp only [if_true] at hr2
      cases gb with
      | false =>
        simp only [Bool.false_eq_true, if_false] at hr2
        have hr2H := Hid.mk hr2
        clear hr2
        go_wp2_with (first | (go_at_call 100; refine hnm.mono ?_; clear hnm; rintro e w2 ⟨rfl, sv2, hk2, hF2⟩; have hbx2 := hF2.box hbxH.out hne1 hne2; have b0 := hbx2.2.1 0 (by simp); have b1 := hbx2.2.1 1 (by simp); have b2 := hbx2.2.1 2 (by simp); have b3 := hbx2.2.1 3 (by simp); have b4 := hbx2.2.1 4 (by simp); have b5 := hbx2.2.1 5 (by simp); have b6 := hbx2.2.1 6 (by simp); have hfin : Hid (∀ w3, Below w2.heap.size w2 w3 → NmP p [.string ⟨p.name.toArray⟩, .int .i64 p.year, .slice a3 p.opts.length c3, .slice a4 p.tabs.length c4, .slice a5 p.grps.length c5, .slice a6 p.lns.length c6, .slice a7 p.cks.length c7] cb s sv (seen ++ [l.name], r) W (.returned (.int .i64 (r : Int))) w3) := ⟨fun w3 h3 => ⟨rfl, sv2, hk2.bel h3, ((Fr.bel hB1 _).trans hF2).trans (Fr.bel h3 _)⟩⟩) | (go_at_call 127; refine (hTy.out w2 sv2 hk2).mono ?_; rintro e w3 ⟨rfl, hb3⟩; have hk3 := hk2.bel hb3; have hbx3 := hbx2.bel hb3 hbx2.1; have d5 := hbx3.2.1 5 (by simp)) | (go_at_call 111; refine (hIn.out w3 sv2 hk3).mono ?_; rintro e w4 ⟨rfl, hb4⟩; have hbx4 := hbx3.bel hb4 hbx3.1; have f1 := hbx4.2.1 1 (by simp); have f6 := hbx4.2.1 6 (by simp)))
        have hff := hfin.out w4 (bthr hb3 hb4 (Nat.le_refl _))
        rw [hr2H.out] at hff ⊢
        go_ret
        exact hff
      | true =>
        simp only [if_true] at hr2
        obtain ⟨ib, hib⟩ : ∃ ib, l.input = ib := ⟨_, rfl⟩
        rw [hib] at hr2
        have hibH := Hid.mk hib
        clear hib
        cases ib with
        | true =>
          simp only [if_true] at hr2
          by_cases hn : l.cls.length > 0
          · have hn' : (0 : Int) < (l.cls.length : Int) := by omega
            have hn2 : 0 < l.cls.length := hn
            rw [if_pos hn] at hr2
            have hr2H := Hid.mk hr2
            clear hr2 hn
            go_wp2_with (first | (go_at_call 100; refine hnm.mono ?_; clear hnm; rintro e w2 ⟨rfl, sv2, hk2, hF2⟩; have hbx2 := hF2.box hbxH.out hne1 hne2; have b0 := hbx2.2.1 0 (by simp); have b1 := hbx2.2.1 1 (by simp); have b2 := hbx2.2.1 2 (by simp); have b3 := hbx2.2.1 3 (by simp); have b4 := hbx2.2.1 4 (by simp); have b5 := hbx2.2.1 5 (by simp); have b6 := hbx2.2.1 6 (by simp); have hfin : Hid (∀ w3, Below w2.heap.size w2 w3 → NmP p [.string ⟨p.name.toArray⟩, .int .i64 p.year, .slice a3 p.opts.length c3, .slice a4 p.tabs.length c4, .slice a5 p.grps.length c5, .slice a6 p.lns.length c6, .slice a7 p.cks.length c7] cb s sv (seen ++ [l.name], r) W (.returned (.int .i64 (r : Int))) w3) := ⟨fun w3 h3 => ⟨rfl, sv2, hk2.bel h3, ((Fr.bel hB1 _).trans hF2).trans (Fr.bel h3 _)⟩⟩) | (go_at_call 127; refine (hTy.out w2 sv2 hk2).mono ?_; rintro e w3 ⟨rfl, hb3⟩; have hk3 := hk2.bel hb3; have hbx3 := hbx2.bel hb3 hbx2.1; have d5 := hbx3.2.1 5 (by simp)) | (go_at_call 111; refine (hIn.out w3 sv2 hk3).mono ?_; rintro e w4 ⟨rfl, hb4⟩; have hbx4 := hbx3.bel hb4 hbx3.1; have f1 := hbx4.2.1 1 (by simp); have f6 := hbx4.2.1 6 (by simp); rw [hibH.out] at f1))
            have hff := hfin.out w4 (bthr hb3 hb4 (Nat.le_refl _))
            rw [hr2H.out] at hff ⊢
            go_ret
            exact hff
          · have hn' : decide ((0 : Int) < (l.cls.length : Int)) = false := decide_eq_false (by omega)
            have hn2 : decide (0 < l.cls.length) = false := decide_eq_false (by omega)
            rw [if_neg hn] at hr2
            have hr2H := Hid.mk hr2
            clear hr2 hn
            go_wp2_with (first | (go_at_call 100; refine hnm.mono ?_; clear hnm; rintro e w2 ⟨rfl, sv2, hk2, hF2⟩; have hbx2 := hF2.box hbxH.out hne1 hne2; have b0 := hbx2.2.1 0 (by simp); have b1 := hbx2.2.1 1 (by simp); have b2 := hbx2.2.1 2 (by simp); have b3 := hbx2.2.1 3 (by simp); have b4 := hbx2.2.1 4 (by simp); have b5 := hbx2.2.1 5 (by simp); have b6 := hbx2.2.1 6 (by simp); have hfin : Hid (∀ w3, Below w2.heap.size w2 w3 → NmP p [.string ⟨p.name.toArray⟩, .int .i64 p.year, .slice a3 p.opts.length c3, .slice a4 p.tabs.length c4, .slice a5 p.grps.length c5, .slice a6 p.lns.length c6, .slice a7 p.cks.length c7] cb s sv (seen ++ [l.name], r) W (.returned (.int .i64 (r : Int))) w3) := ⟨fun w3 h3 => ⟨rfl, sv2, hk2.bel h3, ((Fr.bel hB1 _).trans hF2).trans (Fr.bel h3 _)⟩⟩) | (go_at_call 127; refine (hTy.out w2 sv2 hk2).mono ?_; rintro e w3 ⟨rfl, hb3⟩; have hk3 := hk2.bel hb3; have hbx3 := hbx2.bel hb3 hbx2.1; have d5 := hbx3.2.1 5 (by simp)) | (go_at_call 111; refine (hIn.out w3 sv2 hk3).mono ?_; rintro e w4 ⟨rfl, hb4⟩; have hbx4 := hbx3.bel hb4 hbx3.1; have f1 := hbx4.2.1 1 (by simp); have f6 := hbx4.2.1 6 (by simp); rw [hibH.out] at f1))
            have hff := hfin.out w4 (bthr hb3 hb4 (Nat.le_refl _))
            rw [hr2H.out] at hff ⊢
            go_ret
            exact hff
        | false =>
          simp only [Bool.false_eq_true, if_false] at hr2
          by_cases hn : l.cls.length < 1
          · have hn' : (l.cls.length : Int) < 1 := by omega
            rw [if_pos (.inl hn)] at hr2
            have hr2H := Hid.mk hr2
            clear hr2
            go_wp2_with (first | (go_at_call 100; refine hnm.mono ?_; clear hnm; rintro e w2 ⟨rfl, sv2, hk2, hF2⟩; have hbx2 := hF2.box hbxH.out hne1 hne2; have b0 := hbx2.2.1 0 (by simp); have b1 := hbx2.2.1 1 (by simp); have b2 := hbx2.2.1 2 (by simp); have b3 := hbx2.2.1 3 (by simp); have b4 := hbx2.2.1 4 (by simp); have b5 := hbx2.2.1 5 (by simp); have b6 := hbx2.2.1 6 (by simp); have hfin : Hid (∀ w3, Below w2.heap.size w2 w3 → NmP p [.string ⟨p.name.toArray⟩, .int .i64 p.year, .slice a3 p.opts.length c3, .slice a4 p.tabs.length c4, .slice a5 p.grps.length c5, .slice a6 p.lns.length c6, .slice a7 p.cks.length c7] cb s sv (seen ++ [l.name], r) W (.returned (.int .i64 (r : Int))) w3) := ⟨fun w3 h3 => ⟨rfl, sv2, hk2.bel h3, ((Fr.bel hB1 _).trans hF2).trans (Fr.bel h3 _)⟩⟩) | (go_at_call 127; refine (hTy.out w2 sv2 hk2).mono ?_; rintro e w3 ⟨rfl, hb3⟩; have hk3 := hk2.bel hb3; have hbx3 := hbx2.bel hb3 hbx2.1; have d5 := hbx3.2.1 5 (by simp)) | (go_at_call 111; refine (hIn.out w3 sv2 hk3).mono ?_; rintro e w4 ⟨rfl, hb4⟩; have hbx4 := hbx3.bel hb4 hbx3.1; have f1 := hbx4.2.1 1 (by simp); have f6 := hbx4.2.1 6 (by simp); rw [hibH.out] at f1))
            have hff := hfin.out w4 (bthr hb3 hb4 (Nat.le_refl _))
            rw [hr2H.out] at hff ⊢
            go_ret
            exact hff
          · have hn' : ¬ (l.cls.length : Int) < 1 := by omega
            by_cases hm : 6 < l.cls.length
            · have hm' : (6 : Int) < (l.cls.length : Int) := by omega
              rw [if_pos (.inr hm)] at hr2
              have hr2H := Hid.mk hr2
              clear hr2
              go_wp2_with (first | (go_at_call 100; refine hnm.mono ?_; clear hnm; rintro e w2 ⟨rfl, sv2, hk2, hF2⟩; have hbx2 := hF2.box hbxH.out hne1 hne2; have b0 := hbx2.2.1 0 (by simp); have b1 := hbx2.2.1 1 (by simp); have b2 := hbx2.2.1 2 (by simp); have b3 := hbx2.2.1 3 (by simp); have b4 := hbx2.2.1 4 (by simp); have b5 := hbx2.2.1 5 (by simp); have b6 := hbx2.2.1 6 (by simp); have hfin : Hid (∀ w3, Below w2.heap.size w2 w3 → NmP p [.string ⟨p.name.toArray⟩, .int .i64 p.year, .slice a3 p.opts.length c3, .slice a4 p.tabs.length c4, .slice a5 p.grps.length c5, .slice a6 p.lns.length c6, .slice a7 p.cks.length c7] cb s sv (seen ++ [l.name], r) W (.returned (.int .i64 (r : Int))) w3) := ⟨fun w3 h3 => ⟨rfl, sv2, hk2.bel h3, ((Fr.bel hB1 _).trans hF2).trans (Fr.bel h3 _)⟩⟩) | (go_at_call 127; refine (hTy.out w2 sv2 hk2).mono ?_; rintro e w3 ⟨rfl, hb3⟩; have hk3 := hk2.bel hb3; have hbx3 := hbx2.bel hb3 hbx2.1; have d5 := hbx3.2.1 5 (by simp)) | (go_at_call 111; refine (hIn.out w3 sv2 hk3).mono ?_; rintro e w4 ⟨rfl, hb4⟩; have hbx4 := hbx3.bel hb4 hbx3.1; have f1 := hbx4.2.1 1 (by simp); have f6 := hbx4.2.1 6 (by simp); rw [hibH.out] at f1))
              have hff := hfin.out w4 (bthr hb3 hb4 (Nat.le_refl _))
              rw [hr2H.out] at hff ⊢
              go_ret
              exact hff
            · have hm' : ¬ (6 : Int) < (l.cls.length : Int) := by omega
              rw [if_neg (by omega)] at hr2
              have hr2H := Hid.mk hr2
              clear hr2
              go_wp2_with (first | (go_at_call 100; refine hnm.mono ?_; clear hnm; rintro e w2 ⟨rfl, sv2, hk2, hF2⟩; have hbx2 := hF2.box hbxH.out hne1 hne2; have b0 := hbx2.2.1 0 (by simp); have b1 := hbx2.2.1 1 (by simp); have b2 := hbx2.2.1 2 (by simp); have b3 := hbx2.2.1 3 (by simp); have b4 := hbx2.2.1 4 (by simp); have b5 := hbx2.2.1 5 (by simp); have b6 := hbx2.2.1 6 (by simp); have hfin : Hid (∀ w3, Below w2.heap.size w2 w3 → NmP p [.string ⟨p.name.toArray⟩, .int .i64 p.year, .slice a3 p.opts.length c3, .slice a4 p.tabs.length c4, .slice a5 p.grps.length c5, .slice a6 p.lns.length c6, .slice a7 p.cks.length c7] cb s sv (seen ++ [l.name], r) W (.returned (.int .i64 (r : Int))) w3) := ⟨fun w3 h3 => ⟨rfl, sv2, hk2.bel h3, ((Fr.bel hB1 _).trans hF2).trans (Fr.bel h3 _)⟩⟩) | (go_at_call 127; refine (hTy.out w2 sv2 hk2).mono ?_; rintro e w3 ⟨rfl, hb3⟩; have hk3 := hk2.bel hb3; have hbx3 := hbx2.bel hb3 hbx2.1; have d5 := hbx3.2.1 5 (by simp)) | (go_at_call 111; refine (hIn.out w3 sv2 hk3).mono ?_; rintro e w4 ⟨rfl, hb4⟩; have hbx4 := hbx3.bel hb4 hbx3.1; have f1 := hbx4.2.1 1 (by simp); have f6 := hbx4.2.1 6 (by simp); rw [hibH.out] at f1))
              have hff := hfin.out w4 (bthr hb3 hb4 (Nat.le_refl _))
              rw [hr2H.out] at hff ⊢
              go_ret
              exact hff
end Go.Proofs.YthnmjafoplfikaaGreatDoor


namespace Go.Proofs.YthnmjafoplfikaaGreatDoor
open Go.RowKit

theorem ls_step (p : Pk) (l : List Ln) {i : Nat} (h : i < l.length) (s : Sn) : lsF p (l.drop i) i s = match lnE p l[i] s with
    | (s', e + 1) => (s', some (itF 5 i, e + 1))
    | (s', 0) => match clF l[i].cls l[i].cls 0 with
      | some j => (s', some (⟨5, i, j, []⟩, 66))
      | none => lsF p (l.drop (i + 1)) (i + 1) s' := by
  rw [List.drop_eq_getElem_cons h]
  rfl
theorem cl_step (l : List Cl) {j : Nat} (h : j < l.length) : clF l (l.drop j) j = if clB l j l[j] then clF l (l.drop (j + 1)) (j + 1) else some j := by
  rw [List.drop_eq_getElem_cons h]
  rfl
theorem lnE_len {p : Pk} {l : Ln} {s s' : Sn} (h : lnE p l s = (s', 0)) : l.cls.length ≤ 6 := by
  unfold lnE at h
  injection h with _ h
  cases hn : nwN l.name s with
  | succ e => rw [hn] at h; cases h
  | zero =>
    rw [hn] at h
    simp only at h
    by_cases h1 : tyB p l = true
    · rw [if_pos h1] at h
      by_cases h2 : inG p l.group = true
      · rw [if_pos h2] at h
        by_cases h3 : l.input = true
        · rw [if_pos h3] at h
          by_cases h4 : l.cls.length > 0
          · rw [if_pos h4] at h; cases h
          · omega
        · rw [if_neg h3] at h
          by_cases h4 : l.cls.length < 1 ∨ 6 < l.cls.length
          · rw [if_pos h4] at h; cases h
          · omega
      · rw [if_neg h2] at h; cases h
    · rw [if_neg h1] at h; cases h
set_option maxRecDepth 20000 in
set_option maxHeartbeats 2000000 in
theorem linP_any (p : Pk) (a3 a4 a5 a6 a7 : Option Addr) (c3 c4 c5 c6 c7 : Nat) (cb s : Nat) (W : World) (seen : Sn) (sv : Value) (h : CkS p [.string ⟨p.name.toArray⟩, .int .i64 p.year, .slice a3 p.opts.length c3, .slice a4 p.tabs.length c4, .slice a5 p.grps.length c5, .slice a6 p.lns.length c6, .slice a7 p.cks.length c7] cb s W seen sv) (hl : seen.length + p.lns.length ≤ 1000000) : Calls Tryz.prog 78 #[.pointer (some ⟨cb, 0, none⟩)] W (PtP p [.string ⟨p.name.toArray⟩, .int .i64 p.year, .slice a3 p.opts.length c3, .slice a4 p.tabs.length c4, .slice a5 p.grps.length c5, .slice a6 p.lns.length c6, .slice a7 p.cks.length c7] cb s sv (lsF p p.lns 0 seen) W) := by
  have hcb := h.lt
  obtain ⟨W1, hW1⟩ : ∃ W1, W1 = W.alloc (.cells #[.int .i64 0, .int .i64 0, .int .i64 0, .slice none 0 0] 105) := ⟨_, rfl⟩
  have hB1 : Below W.heap.size W W1 := by rw [hW1]; exact (Below.refl _ _).alloc (Nat.le_refl _) _
  have hbz : Bx W1 W.heap.size [.int .i64 0, .int .i64 0, .int .i64 0, .slice none 0 0] := by rw [hW1]; exact bx_new _ _ _
  have hk1 := h.bel hB1
  have hrz : some W.heap.size ≠ sv.ownBlock := fun e => by
    have := (h.pg _ e.symm).2
    omega
  have hrb1 : cb + 1 ≤ W.heap.size := hcb
  have hrb2 : W.heap.size ≤ W.heap.size := Nat.le_refl _
  obtain ⟨R, hR⟩ : ∃ R, lsF p p.lns 0 seen = R := ⟨_, rfl⟩
  rw [hR]
  have hst : Hid (lsF p (p.lns.drop 0) 0 seen = R) := ⟨by rw [List.drop_zero]; exact hR⟩
  obtain ⟨QQ, hQQ⟩ : ∃ QQ, PtP p [.string ⟨p.name.toArray⟩, .int .i64 p.year, .slice a3 p.opts.length c3, .slice a4 p.tabs.length c4, .slice a5 p.grps.length c5, .slice a6 p.lns.length c6, .slice a7 p.cks.length c7] cb s sv R W = QQ := ⟨_, rfl⟩
  rw [hQQ]
  have hQH := Hid.mk hQQ
  have hW1H := Hid.mk hW1
  obtain ⟨q0, q1, q2, q3, q4, q5, q6⟩ := h.cells
  have hW1s : W.heap.size < W1.heap.size := hbz.1
  clear hQQ hW1 hR
  go_enter Tryz.func78, Tryz.ntmps78
  go_wp2
  rw [← hW1H.out]
  clear hW1H
  go_loopw [14] (fun iv wr => ∃ (i : Nat) (sn : Sn) (sv2 : Value), iv = .int .i64 (i : Int) ∧ i ≤ p.lns.length ∧ Hid (sn.length = seen.length + i) ∧ CkS p [.string ⟨p.name.toArray⟩, .int .i64 p.year, .slice a3 p.opts.length c3, .slice a4 p.tabs.length c4, .slice a5 p.grps.length c5, .slice a6 p.lns.length c6, .slice a7 p.cks.length c7] cb s wr sn sv2 ∧ Fr cb W1 sv wr sv2 ∧ Hid (lsF p (p.lns.drop i) i sn = R)) (fun iv _ => p.lns.length - (intOf iv).toNat)
  case atStart => exact ⟨0, seen, sv, rfl, Nat.zero_le _, ⟨rfl⟩, hk1, Fr.refl _ _ _, hst⟩
  case round =>
    obtain ⟨i, sn, sv2, rfl, hi, hsn, hkr, hFr, hinv⟩ := hrel
    have hsr : some W.heap.size ≠ sv2.ownBlock := by
      rcases hFr.new with e | ⟨c, e, hc⟩
      · rw [e]; exact hrz
      · rw [e]; intro e2; injection e2 with e2; omega
    have hFW : Fr cb W sv wr sv2 := (Fr.bel hB1 _).trans hFr
    have hbr := hFr.box hbz (by omega) hrz
    by_cases hlt : i < p.lns.length
    · have hlt' : (i : Int) < (p.lns.length : Int) := by omega
      have hi0 : (0 : Int) ≤ (i : Int) := by omega
      have hRr := hkr.rows.2.2.2.1
      obtain ⟨ge, oe, hga⟩ := hRr.some hlt
      subst hga
      obtain ⟨cs, -, hge, ⟨an, cn, rfl, -, hRc, hcn⟩, hcs⟩ := hRr.item hlt
      have kx : wr.cell? ⟨ge, oe + i * 7, none⟩ = some (.string ⟨p.lns[i].name.toArray⟩) ∧ wr.cell? ⟨ge, oe + i * 7 + 1, none⟩ = some (.bool p.lns[i].input) ∧ wr.cell? ⟨ge, oe + i * 7 + 2, none⟩ = some (.bool p.lns[i].must) ∧ wr.cell? ⟨ge, oe + i * 7 + 3, none⟩ = some (.int .i64 p.lns[i].type) ∧ wr.cell? ⟨ge, oe + i * 7 + 4, none⟩ = some (.int .i64 p.lns[i].opts) ∧ wr.cell? ⟨ge, oe + i * 7 + 5, none⟩ = some (.int .i64 p.lns[i].group) ∧ wr.cell? ⟨ge, oe + i * 7 + 6, none⟩ = some (.slice an p.lns[i].cls.length cn) := ⟨hcs 0 (by decide), hcs 1 (by decide), hcs 2 (by decide), hcs 3 (by decide), hcs 4 (by decide), hcs 5 (by decide), hcs 6 (by decide)⟩
      have hinv2 := hinv.out
      rw [ls_step p p.lns hlt] at hinv2
      have hls : sn.length ≤ 1000000 := by have := hsn.out; omega
      have hlE : ∀ s', lnE p p.lns[i] sn = (s', 0) → p.lns[i].cls.length ≤ 6 := fun s' hh => lnE_len hh
      have hlF : (lnE p p.lns[i] sn).1 = sn ++ [p.lns[i].name] := rfl
      generalize p.lns[i] = y at kx hinv2 hRc hcn hlE hlF
      obtain ⟨X0, hX0⟩ : ∃ X0, X0 = wr.alloc (.cells #[.string ⟨y.name.toArray⟩, .bool y.input, .bool y.must, .int .i64 y.type, .int .i64 y.opts, .int .i64 y.group, .slice an y.cls.length cn] 78) := ⟨_, rfl⟩
      have hB0 : Below wr.heap.size wr X0 := by rw [hX0]; exact (Below.refl _ _).alloc (Nat.le_refl _) _
      have hk0 := hkr.bel hB0
      have hby : Bx X0 wr.heap.size [.string ⟨y.name.toArray⟩, .bool y.input, .bool y.must, .int .i64 y.type, .int .i64 y.opts, .int .i64 y.group, .slice an y.cls.length cn] := by rw [hX0]; exact bx_new _ _ _
      have hcall := line_any p _ _ _ _ _ _ _ _ _ _ cb s y an cn X0 sn sv2 hk0 hls
      have hFW0 : Fr cb W sv X0 sv2 := hFW.trans (Fr.bel hB0 _)
      have hbr0 := hbr.bel hB0 hbr.1
      have hne1 : W.heap.size ≠ cb := by omega
      have hne2 : wr.heap.size ≠ cb := by have := hkr.lt; omega
      have hsy : some wr.heap.size ≠ sv2.ownBlock := fun e => by
        have := (hkr.pg _ e.symm).2
        omega
      have hF01 : Hid (∀ w3 sv3, Fr cb X0 sv2 w3 sv3 → Bx w3 W.heap.size [.int .i64 0, .int .i64 0, .int .i64 0, .slice none 0 0] ∧ some W.heap.size ≠ sv3.ownBlock ∧ Bx w3 wr.heap.size [.string ⟨y.name.toArray⟩, .bool y.input, .bool y.must, .int .i64 y.type, .int .i64 y.opts, .int .i64 y.group, .slice an y.cls.length cn] ∧ RowR eC w3 AnyB y.cls an) := ⟨fun w3 sv3 hF3 => ⟨hF3.box hbr0 hne1 hsr, by
        rcases hF3.new with e | ⟨c, e, hc⟩
        · rw [e]; exact hsr
        · rw [e]; intro e2; injection e2 with e2; have := hbr0.1; omega, hF3.box hby hne2 hsy, (hRc.fr (Nat.le_trans hB0.size hF3.size) (fun b hb hlt => (hF3.blk b (Nat.lt_of_lt_of_le hlt hB0.size) (by omega) (fun e => by have := (hkr.pg b e.symm).1; omega)).trans (hB0.block b hlt))).mo (fun _ _ _ => trivial)⟩⟩
      obtain ⟨rr, hrr⟩ : ∃ rr, lnE p y sn = rr := ⟨_, rfl⟩
      rw [hrr] at hinv2 hcall hlE hlF
      obtain ⟨s2, e2⟩ := rr
      have hfH : Hid (s2.length = sn.length + 1) := ⟨by have h1 : s2 = sn ++ [y.name] := hlF; rw [h1, List.length_append, List.length_singleton]⟩
      obtain ⟨d0, d1, d2, d3, d4, d5, d6⟩ := kx
      have hX0H := Hid.mk hX0
      have hlEH := Hid.mk hlE
      clear hcs hRr hinv hX0 hrr hlE hlF hRc hk1 hbz
      go_wp2_with fail
      rw [← hX0H.out]
      clear hX0H
      cases e2 with
      | succ e3 =>
        have hRH := Hid.mk hinv2.symm
        clear hinv2
        have hne : (((e3 + 1 : Nat) : Int) != 0) = true := by simp; omega
        refine hcall.mono ?_
        clear hcall
        rintro e w3 ⟨rfl, sv3, hk3, hF3⟩
        obtain ⟨hbr3, hrb3, -, -⟩ := hF01.out w3 sv3 hF3
        have hk_st : CkS p [.string ⟨p.name.toArray⟩, .int .i64 p.year, .slice a3 p.opts.length c3, .slice a4 p.tabs.length c4, .slice a5 p.grps.length c5, .slice (some ⟨ge, oe, none⟩) p.lns.length c6, .slice a7 p.cks.length c7] cb s w3 s2 sv3 ∧ Fr cb W sv w3 sv3 := ⟨hk3, hFW0.trans hF3⟩
        clear hlEH
        have hq0 := hbr3
        have kg0 : w3.cell? ⟨W.heap.size, 0, none⟩ = some (.int .i64 0) := hq0.2.1 0 (by simp)
        have kh0 := hq0.2.2 0; have kl0 := hq0.1
        obtain ⟨X1, hx0⟩ : ∃ X1, w3.setCell ⟨W.heap.size, 0, none⟩ (.int .i64 5) = X1 := ⟨_, rfl⟩
        have hq1 : Bx X1 W.heap.size [(.int .i64 5), (.int .i64 0), (.int .i64 0), (.slice none 0 0)] := (by rw [← hx0]; exact hq0.set 0 (.int .i64 5))
        have kg1 : X1.cell? ⟨W.heap.size, 1, none⟩ = some (.int .i64 0) := hq1.2.1 1 (by simp)
        have kh1 := hq1.2.2 1; have kl1 := hq1.1
        obtain ⟨X2, hx1⟩ : ∃ X2, X1.setCell ⟨W.heap.size, 1, none⟩ (.int .i64 (i : Int)) = X2 := ⟨_, rfl⟩
        have hq2 : Bx X2 W.heap.size [(.int .i64 5), (.int .i64 (i : Int)), (.int .i64 0), (.slice none 0 0)] := (by rw [← hx1]; exact hq1.set 1 (.int .i64 (i : Int)))
        have kg2 : X2.cell? ⟨W.heap.size, 2, none⟩ = some (.int .i64 0) := hq2.2.1 2 (by simp)
        have kh2 := hq2.2.2 2; have kl2 := hq2.1
        obtain ⟨X3, hx2⟩ : ∃ X3, X2.setCell ⟨W.heap.size, 2, none⟩ (.int .i64 (-1)) = X3 := ⟨_, rfl⟩
        have hq3 : Bx X3 W.heap.size [(.int .i64 5), (.int .i64 (i : Int)), (.int .i64 (-1)), (.slice none 0 0)] := (by rw [← hx2]; exact hq2.set 2 (.int .i64 (-1)))
        have kg3 : X3.cell? ⟨W.heap.size, 3, none⟩ = some (.slice none 0 0) := hq3.2.1 3 (by simp)
        have kh3 := hq3.2.2 3; have kl3 := hq3.1
        obtain ⟨X4, hx3⟩ : ∃ X4, X3.setCell ⟨W.heap.size, 3, none⟩ (.slice none 0 0) = X4 := ⟨_, rfl⟩
        have hq4 : Bx X4 W.heap.size [(.int .i64 5), (.int .i64 (i : Int)), (.int .i64 (-1)), (.slice none 0 0)] := (by rw [← hx3]; exact hq3.set 3 (.slice none 0 0))
        have ht0 := hk_st
        have ht1 : CkS p [.string ⟨p.name.toArray⟩, .int .i64 p.year, .slice a3 p.opts.length c3, .slice a4 p.tabs.length c4, .slice a5 p.grps.length c5, .slice (some ⟨ge, oe, none⟩) p.lns.length c6, .slice a7 p.cks.length c7] cb s X1 s2 sv3 ∧ Fr cb W sv X1 sv3 := (by rw [← hx0]; exact ck_set ht0 hrb1 hrb2 hrb3 0 (.int .i64 5))
        have ht2 : CkS p [.string ⟨p.name.toArray⟩, .int .i64 p.year, .slice a3 p.opts.length c3, .slice a4 p.tabs.length c4, .slice a5 p.grps.length c5, .slice (some ⟨ge, oe, none⟩) p.lns.length c6, .slice a7 p.cks.length c7] cb s X2 s2 sv3 ∧ Fr cb W sv X2 sv3 := (by rw [← hx1]; exact ck_set ht1 hrb1 hrb2 hrb3 1 (.int .i64 (i : Int)))
        have ht3 : CkS p [.string ⟨p.name.toArray⟩, .int .i64 p.year, .slice a3 p.opts.length c3, .slice a4 p.tabs.length c4, .slice a5 p.grps.length c5, .slice (some ⟨ge, oe, none⟩) p.lns.length c6, .slice a7 p.cks.length c7] cb s X3 s2 sv3 ∧ Fr cb W sv X3 sv3 := (by rw [← hx2]; exact ck_set ht2 hrb1 hrb2 hrb3 2 (.int .i64 (-1)))
        have ht4 : CkS p [.string ⟨p.name.toArray⟩, .int .i64 p.year, .slice a3 p.opts.length c3, .slice a4 p.tabs.length c4, .slice a5 p.grps.length c5, .slice (some ⟨ge, oe, none⟩) p.lns.length c6, .slice a7 p.cks.length c7] cb s X4 s2 sv3 ∧ Fr cb W sv X4 sv3 := (by rw [← hx3]; exact ck_set ht3 hrb1 hrb2 hrb3 3 (.slice none 0 0))
        have hB5 : Below X4.heap.size X4 (X4.alloc (.cells #[.int .i64 5, .int .i64 (i : Int), .int .i64 (-1), .slice none 0 0] 105)) := ((Below.refl X4.heap.size X4).alloc (Nat.le_refl _) _)
        have hff : QQ (.returned (.tuple #[.agg #[.int .i64 5, .int .i64 (i : Int), .int .i64 (-1), .slice none 0 0], .int .i64 ((e3 + 1 : Nat) : Int)])) (X4.alloc (.cells #[.int .i64 5, .int .i64 (i : Int), .int .i64 (-1), .slice none 0 0] 105)) := by
          rw [← hQH.out, hRH.out]
          exact ⟨rfl, sv3, ht4.1.bel hB5, ht4.2.trans (Fr.bel hB5 _)⟩
        have hq5 := hq4.bel hB5 hq4.1
        have f0 := hq5.2.1 0 (by simp)
        have f1 := hq5.2.1 1 (by simp)
        have f2 := hq5.2.1 2 (by simp)
        have f3 := hq5.2.1 3 (by simp)
        have l4 := hq4.1
        clear hq0 hq1 hq2 hq3 hq4 hq5 ht0 ht1 ht2 ht3 ht4 hk_st hbr3
        go_wp2_with (go_at_call 96; refine (itemAt_any _ _ _).mono ?_; rintro e w9 ⟨rfl, rfl⟩)
        exact bodyPost_ret (v := .tuple #[.agg #[.int .i64 5, .int .i64 (i : Int), .int .i64 (-1), .slice none 0 0], .int .i64 ((e3 + 1 : Nat) : Int)]) (by simp [results, Tryz.results78, go_sem, f0, f1, f2, f3]) rfl hff
      | zero =>
        have hc6 := hlEH.out s2 rfl
        have hin2 := Hid.mk hinv2
        clear hinv2
        refine hcall.mono ?_
        clear hcall
        rintro e w3 ⟨rfl, sv3, hk3, hF3⟩
        obtain ⟨hbr4, hrb3, hby3, hRc3⟩ := hF01.out w3 sv3 hF3
        have l6 := hby3.2.1 6 (by simp)
        have hFW3 := hFW0.trans hF3
        have hFr3 : Fr cb W1 sv w3 sv3 := (hFr.trans (Fr.bel hB0 _)).trans hF3
        obtain ⟨C, hC⟩ : ∃ C, clF y.cls y.cls 0 = C := ⟨_, rfl⟩
        have hstc : Hid (clF y.cls (y.cls.drop 0) 0 = C) := ⟨by rw [List.drop_zero]; exact hC⟩
        have hin3 := hin2.out
        simp only at hin3
        rw [hC] at hin3
        have hin3H := Hid.mk hin3
        have hwl : wr.heap.size < w3.heap.size := hby3.1
        clear hin2 hin3 hC hlEH
        go_wp2
        go_loopw [30] (fun jv wq => ∃ (j : Nat), jv = .int .i64 (j : Int) ∧ j ≤ y.cls.length ∧ Below w3.heap.size w3 wq ∧ Hid (clF y.cls (y.cls.drop j) j = C)) (fun jv _ => y.cls.length - (intOf jv).toNat)
        case atStart => exact ⟨0, rfl, Nat.zero_le _, Below.refl _ _, hstc⟩
        case round =>
          obtain ⟨j, rfl, hj, hBq, hjnv⟩ := hrel
          have m6 := (bel_cell hBq hwl 6).trans l6
          by_cases hjl : j < y.cls.length
          · have hjl' : (j : Int) < (y.cls.length : Int) := by omega
            have hj0 : (0 : Int) ≤ (j : Int) := by omega
            have hic := isClause_any y.cls an cn j hjl wr (row_bel hRc3 hBq (Nat.le_refl _)) (by omega) hcn
            have hjn2 := hjnv.out
            rw [cl_step y.cls hjl] at hjn2
            obtain ⟨cb2, hcb2⟩ : ∃ cb2, clB y.cls j y.cls[j] = cb2 := ⟨_, rfl⟩
            rw [hcb2] at hic hjn2
            clear hcb2 hjnv
            cases cb2 with
            | true =>
              simp only [if_true] at hjn2
              have hj2 := Hid.mk hjn2
              clear hjn2
              go_wp2_with (go_at_call 108; refine hic.mono ?_; clear hic; rintro e w4 ⟨rfl, hb4⟩; have hb5 := bthr hBq hb4 (Nat.le_refl _))
              exact ⟨⟨j + 1, rfl, hjl, hb5, hj2⟩, by simp only [intOf]; omega⟩
            | false =>
              simp only [Bool.false_eq_true, if_false] at hjn2
              have hin4 := hin3H.out
              rw [← hjn2] at hin4
              have hRH := Hid.mk hin4.symm
              clear hin4 hjn2
              go_wp2_with fail
              refine hic.mono ?_
              clear hic
              rintro e w4 ⟨rfl, hb4⟩
              have hb5 := bthr hBq hb4 (Nat.le_refl _)
              have hbr3 := hbr4.bel hb5 hbr4.1
              have hk_st : CkS p [.string ⟨p.name.toArray⟩, .int .i64 p.year, .slice a3 p.opts.length c3, .slice a4 p.tabs.length c4, .slice a5 p.grps.length c5, .slice (some ⟨ge, oe, none⟩) p.lns.length c6, .slice a7 p.cks.length c7] cb s w4 s2 sv3 ∧ Fr cb W sv w4 sv3 := ⟨hk3.bel hb5, hFW3.trans (Fr.bel hb5 _)⟩
              have hq0 := hbr3
              have kg0 : w4.cell? ⟨W.heap.size, 0, none⟩ = some (.int .i64 0) := hq0.2.1 0 (by simp)
              have kh0 := hq0.2.2 0; have kl0 := hq0.1
              obtain ⟨X1, hx0⟩ : ∃ X1, w4.setCell ⟨W.heap.size, 0, none⟩ (.int .i64 5) = X1 := ⟨_, rfl⟩
              have hq1 : Bx X1 W.heap.size [(.int .i64 5), (.int .i64 0), (.int .i64 0), (.slice none 0 0)] := (by rw [← hx0]; exact hq0.set 0 (.int .i64 5))
              have kg1 : X1.cell? ⟨W.heap.size, 1, none⟩ = some (.int .i64 0) := hq1.2.1 1 (by simp)
              have kh1 := hq1.2.2 1; have kl1 := hq1.1
              obtain ⟨X2, hx1⟩ : ∃ X2, X1.setCell ⟨W.heap.size, 1, none⟩ (.int .i64 (i : Int)) = X2 := ⟨_, rfl⟩
              have hq2 : Bx X2 W.heap.size [(.int .i64 5), (.int .i64 (i : Int)), (.int .i64 0), (.slice none 0 0)] := (by rw [← hx1]; exact hq1.set 1 (.int .i64 (i : Int)))
              have kg2 : X2.cell? ⟨W.heap.size, 2, none⟩ = some (.int .i64 0) := hq2.2.1 2 (by simp)
              have kh2 := hq2.2.2 2; have kl2 := hq2.1
              obtain ⟨X3, hx2⟩ : ∃ X3, X2.setCell ⟨W.heap.size, 2, none⟩ (.int .i64 (j : Int)) = X3 := ⟨_, rfl⟩
              have hq3 : Bx X3 W.heap.size [(.int .i64 5), (.int .i64 (i : Int)), (.int .i64 (j : Int)), (.slice none 0 0)] := (by rw [← hx2]; exact hq2.set 2 (.int .i64 (j : Int)))
              have kg3 : X3.cell? ⟨W.heap.size, 3, none⟩ = some (.slice none 0 0) := hq3.2.1 3 (by simp)
              have kh3 := hq3.2.2 3; have kl3 := hq3.1
              obtain ⟨X4, hx3⟩ : ∃ X4, X3.setCell ⟨W.heap.size, 3, none⟩ (.slice none 0 0) = X4 := ⟨_, rfl⟩
              have hq4 : Bx X4 W.heap.size [(.int .i64 5), (.int .i64 (i : Int)), (.int .i64 (j : Int)), (.slice none 0 0)] := (by rw [← hx3]; exact hq3.set 3 (.slice none 0 0))
              have ht0 := hk_st
              have ht1 : CkS p [.string ⟨p.name.toArray⟩, .int .i64 p.year, .slice a3 p.opts.length c3, .slice a4 p.tabs.length c4, .slice a5 p.grps.length c5, .slice (some ⟨ge, oe, none⟩) p.lns.length c6, .slice a7 p.cks.length c7] cb s X1 s2 sv3 ∧ Fr cb W sv X1 sv3 := (by rw [← hx0]; exact ck_set ht0 hrb1 hrb2 hrb3 0 (.int .i64 5))
              have ht2 : CkS p [.string ⟨p.name.toArray⟩, .int .i64 p.year, .slice a3 p.opts.length c3, .slice a4 p.tabs.length c4, .slice a5 p.grps.length c5, .slice (some ⟨ge, oe, none⟩) p.lns.length c6, .slice a7 p.cks.length c7] cb s X2 s2 sv3 ∧ Fr cb W sv X2 sv3 := (by rw [← hx1]; exact ck_set ht1 hrb1 hrb2 hrb3 1 (.int .i64 (i : Int)))
              have ht3 : CkS p [.string ⟨p.name.toArray⟩, .int .i64 p.year, .slice a3 p.opts.length c3, .slice a4 p.tabs.length c4, .slice a5 p.grps.length c5, .slice (some ⟨ge, oe, none⟩) p.lns.length c6, .slice a7 p.cks.length c7] cb s X3 s2 sv3 ∧ Fr cb W sv X3 sv3 := (by rw [← hx2]; exact ck_set ht2 hrb1 hrb2 hrb3 2 (.int .i64 (j : Int)))
              have ht4 : CkS p [.string ⟨p.name.toArray⟩, .int .i64 p.year, .slice a3 p.opts.length c3, .slice a4 p.tabs.length c4, .slice a5 p.grps.length c5, .slice (some ⟨ge, oe, none⟩) p.lns.length c6, .slice a7 p.cks.length c7] cb s X4 s2 sv3 ∧ Fr cb W sv X4 sv3 := (by rw [← hx3]; exact ck_set ht3 hrb1 hrb2 hrb3 3 (.slice none 0 0))
              have hB5 : Below X4.heap.size X4 X4 := (Below.refl X4.heap.size X4)
              have hff : QQ (.returned (.tuple #[.agg #[.int .i64 5, .int .i64 (i : Int), .int .i64 (j : Int), .slice none 0 0], .int .i64 66])) X4 := by
                rw [← hQH.out, hRH.out]
                exact ⟨rfl, sv3, ht4.1.bel hB5, ht4.2.trans (Fr.bel hB5 _)⟩
              have hq5 := hq4.bel hB5 hq4.1
              have f0 := hq5.2.1 0 (by simp)
              have f1 := hq5.2.1 1 (by simp)
              have f2 := hq5.2.1 2 (by simp)
              have f3 := hq5.2.1 3 (by simp)
              have l4 := hq4.1
              clear hq0 hq1 hq2 hq3 hq4 hq5 ht0 ht1 ht2 ht3 ht4 hk_st hbr3
              go_wp2
              exact bodyPost_ret (v := .tuple #[.agg #[.int .i64 5, .int .i64 (i : Int), .int .i64 (j : Int), .slice none 0 0], .int .i64 66]) (by simp [results, Tryz.results78, go_sem, f0, f1, f2, f3]) rfl hff
          · have hjl' : ¬ (j : Int) < (y.cls.length : Int) := by omega
            have hjn2 := hjnv.out
            rw [List.drop_eq_nil_of_le (by omega)] at hjn2
            have hin4 := hin3H.out
            rw [← hjn2] at hin4
            have hs2 := Hid.mk hin4
            have hkq := hk3.bel hBq
            have hFq := hFr3.trans (Fr.bel hBq _)
            clear hjnv hjn2 hin4 hin3H
            go_wp2
            exact ⟨⟨i + 1, s2, sv3, rfl, hlt, ⟨by have h1 := hfH.out; have h2 := hsn.out; omega⟩, hkq, hFq, hs2⟩, by simp only [intOf]; omega⟩
    · have hlt' : ¬ (i : Int) < (p.lns.length : Int) := by omega
      have hri := hinv.out
      rw [List.drop_eq_nil_of_le (by omega)] at hri
      have hRH : Hid (R = (sn, none)) := ⟨hri.symm⟩
      have hbr3 := hbr
      have hk_st : CkS p [.string ⟨p.name.toArray⟩, .int .i64 p.year, .slice a3 p.opts.length c3, .slice a4 p.tabs.length c4, .slice a5 p.grps.length c5, .slice a6 p.lns.length c6, .slice a7 p.cks.length c7] cb s wr sn sv2 ∧ Fr cb W sv wr sv2 := ⟨hkr, hFW⟩
      clear hri hinv
      have hff : QQ (.returned (.tuple #[.agg #[.int .i64 0, .int .i64 0, .int .i64 0, .slice none 0 0], .int .i64 0])) wr := by
        rw [← hQH.out, hRH.out]
        exact ⟨rfl, sv2, hk_st.1, hk_st.2⟩
      have f0 := hbr3.2.1 0 (by simp)
      have z0 := hbr3.2.2 0
      have f1 := hbr3.2.1 1 (by simp)
      have z1 := hbr3.2.2 1
      have f2 := hbr3.2.1 2 (by simp)
      have z2 := hbr3.2.2 2
      have f3 := hbr3.2.1 3 (by simp)
      have z3 := hbr3.2.2 3
      have j0 := set_id f0
      have j1 := set_id f1
      have j2 := set_id f2
      have j3 := set_id f3
      clear hbr3 hk_st
      go_wp2
      exact bodyPost_ret (v := .tuple #[.agg #[.int .i64 0, .int .i64 0, .int .i64 0, .slice none 0 0], .int .i64 0]) (by simp at f0 f1 f2 f3; simp [results, Tryz.results78, go_sem, f0, f1, f2, f3]) rfl hff
end Go.Proofs.YthnmjafoplfikaaGreatDoor


namespace Go.Proofs.YthnmjafoplfikaaGreatDoor
open Go.RowKit

def szL (p : Pk) : List (Int × Int × Int × Int) := [(2, (p.opts.length : Int), 0, 4), (3, (p.tabs.length : Int), 0, 4), (4, (p.grps.length : Int), 0, 4), (5, (p.lns.length : Int), 1, 48), (6, (p.cks.length : Int), 0, 16)]
def szG : List (Int × Int × Int × Int) → Option (Sp × Nat)
  | [] => none
  | y :: r => if y.2.1 < y.2.2.1 ∨ y.2.2.2 < y.2.1 then some (⟨y.1, 0, -1, []⟩, 60) else szG r
theorem szF_eq (p : Pk) : szF p = szG (szL p) := by
  unfold szF szL
  simp only [szG]
  have e : ∀ (c d : Prop) [Decidable c] [Decidable d] (x y : Option (Sp × Nat)), (c ↔ d) → (if c then x else y) = (if d then x else y) := fun c d _ _ x y h => by by_cases hc : c; rw [if_pos hc, if_pos (h.1 hc)]; rw [if_neg hc, if_neg (fun h2 => hc (h.2 h2))]
  rw [e (4 < p.opts.length) ((p.opts.length : Int) < 0 ∨ 4 < (p.opts.length : Int)) _ _ (by omega), e (4 < p.tabs.length) ((p.tabs.length : Int) < 0 ∨ 4 < (p.tabs.length : Int)) _ _ (by omega), e (4 < p.grps.length) ((p.grps.length : Int) < 0 ∨ 4 < (p.grps.length : Int)) _ _ (by omega), e (p.lns.length < 1 ∨ 48 < p.lns.length) ((p.lns.length : Int) < 1 ∨ 48 < (p.lns.length : Int)) _ _ (by omega), e (16 < p.cks.length) ((p.cks.length : Int) < 0 ∨ 16 < (p.cks.length : Int)) _ _ (by omega)]
  rfl
theorem sz_step (l : List (Int × Int × Int × Int)) {i : Nat} (h : i < l.length) : szG (l.drop i) = (if l[i].2.1 < l[i].2.2.1 ∨ l[i].2.2.2 < l[i].2.1 then some (⟨l[i].1, 0, -1, []⟩, 60) else szG (l.drop (i + 1))) := by
  rw [List.drop_eq_getElem_cons h]
  rfl
set_option maxRecDepth 20000 in
set_option maxHeartbeats 2000000 in
theorem sizP_any (p : Pk) (a3 a4 a5 a6 a7 : Option Addr) (c3 c4 c5 c6 c7 : Nat) (cb s : Nat) (W : World) (seen : Sn) (sv : Value) (h : CkS p [.string ⟨p.name.toArray⟩, .int .i64 p.year, .slice a3 p.opts.length c3, .slice a4 p.tabs.length c4, .slice a5 p.grps.length c5, .slice a6 p.lns.length c6, .slice a7 p.cks.length c7] cb s W seen sv) : Calls Tryz.prog 73 #[.pointer (some ⟨cb, 0, none⟩)] W (PtP p [.string ⟨p.name.toArray⟩, .int .i64 p.year, .slice a3 p.opts.length c3, .slice a4 p.tabs.length c4, .slice a5 p.grps.length c5, .slice a6 p.lns.length c6, .slice a7 p.cks.length c7] cb s sv (seen, szF p) W) := by
  have hcb := h.lt
  obtain ⟨W1, hW1⟩ : ∃ W1, W1 = W.alloc (.cells #[.int .i64 0, .int .i64 0, .int .i64 0, .slice none 0 0] 105) := ⟨_, rfl⟩
  have hB1 : Below W.heap.size W W1 := by rw [hW1]; exact (Below.refl _ _).alloc (Nat.le_refl _) _
  have hbz : Bx W1 W.heap.size [.int .i64 0, .int .i64 0, .int .i64 0, .slice none 0 0] := by rw [hW1]; exact bx_new _ _ _
  have hk1 := h.bel hB1
  have hrb3 : some W.heap.size ≠ sv.ownBlock := fun e => by
    have := (h.pg _ e.symm).2
    omega
  have hrb1 : cb + 1 ≤ W.heap.size := hcb
  have hrb2 : W.heap.size ≤ W.heap.size := Nat.le_refl _
  obtain ⟨R, hR⟩ : ∃ R, szF p = R := ⟨_, rfl⟩
  rw [hR]
  obtain ⟨QQ, hQQ⟩ : ∃ QQ, PtP p [.string ⟨p.name.toArray⟩, .int .i64 p.year, .slice a3 p.opts.length c3, .slice a4 p.tabs.length c4, .slice a5 p.grps.length c5, .slice a6 p.lns.length c6, .slice a7 p.cks.length c7] cb s sv (seen, R) W = QQ := ⟨_, rfl⟩
  rw [hQQ]
  have hQH := Hid.mk hQQ
  have hW1H := Hid.mk hW1
  obtain ⟨q0, q1, q2, q3, q4, q5, q6⟩ := h.cells
  have hSt : Hid (∀ w, Below W1.heap.size W1 w → Bx w W.heap.size [.int .i64 0, .int .i64 0, .int .i64 0, .slice none 0 0] ∧ (CkS p [.string ⟨p.name.toArray⟩, .int .i64 p.year, .slice a3 p.opts.length c3, .slice a4 p.tabs.length c4, .slice a5 p.grps.length c5, .slice a6 p.lns.length c6, .slice a7 p.cks.length c7] cb s w seen sv ∧ Fr cb W sv w sv)) := ⟨fun w hw => ⟨hbz.bel hw hbz.1, hk1.bel hw, (Fr.bel hB1 _).trans (Fr.bel hw _)⟩⟩
  clear hQQ
  rw [szF_eq] at hR
  have hst : Hid (szG ((szL p).drop 0) = R) := ⟨by rw [List.drop_zero]; exact hR⟩
  have hlen : (szL p).length = 5 := rfl
  obtain ⟨W3, hW3⟩ : ∃ W3, W3 = (W1.alloc (.cells #[.string ⟨p.name.toArray⟩, .int .i64 p.year, .slice a3 p.opts.length c3, .slice a4 p.tabs.length c4, .slice a5 p.grps.length c5, .slice a6 p.lns.length c6, .slice a7 p.cks.length c7] 28)).alloc (.cells #[.int .i64 2, .int .i64 (p.opts.length : Int), .int .i64 0, .int .i64 4, .int .i64 3, .int .i64 (p.tabs.length : Int), .int .i64 0, .int .i64 4, .int .i64 4, .int .i64 (p.grps.length : Int), .int .i64 0, .int .i64 4, .int .i64 5, .int .i64 (p.lns.length : Int), .int .i64 1, .int .i64 48, .int .i64 6, .int .i64 (p.cks.length : Int), .int .i64 0, .int .i64 16] 180) := ⟨_, rfl⟩
  have hB3 : Below W1.heap.size W1 W3 := by rw [hW3]; exact ((Below.refl _ _).alloc (Nat.le_refl _) _).alloc (by simp) _
  have hs1 : W1.heap.size = W.heap.size + 1 := by rw [hW1H.out]; simp
  have hb20 : Bx W3 (W.heap.size + 1 + 1) [.int .i64 2, .int .i64 (p.opts.length : Int), .int .i64 0, .int .i64 4, .int .i64 3, .int .i64 (p.tabs.length : Int), .int .i64 0, .int .i64 4, .int .i64 4, .int .i64 (p.grps.length : Int), .int .i64 0, .int .i64 4, .int .i64 5, .int .i64 (p.lns.length : Int), .int .i64 1, .int .i64 48, .int .i64 6, .int .i64 (p.cks.length : Int), .int .i64 0, .int .i64 16] := by
    have := bx_new (W1.alloc (.cells #[.string ⟨p.name.toArray⟩, .int .i64 p.year, .slice a3 p.opts.length c3, .slice a4 p.tabs.length c4, .slice a5 p.grps.length c5, .slice a6 p.lns.length c6, .slice a7 p.cks.length c7] 28)) #[.int .i64 2, .int .i64 (p.opts.length : Int), .int .i64 0, .int .i64 4, .int .i64 3, .int .i64 (p.tabs.length : Int), .int .i64 0, .int .i64 4, .int .i64 4, .int .i64 (p.grps.length : Int), .int .i64 0, .int .i64 4, .int .i64 5, .int .i64 (p.lns.length : Int), .int .i64 1, .int .i64 48, .int .i64 6, .int .i64 (p.cks.length : Int), .int .i64 0, .int .i64 16] 180
    rw [show (W1.alloc (.cells #[.string ⟨p.name.toArray⟩, .int .i64 p.year, .slice a3 p.opts.length c3, .slice a4 p.tabs.length c4, .slice a5 p.grps.length c5, .slice a6 p.lns.length c6, .slice a7 p.cks.length c7] 28)).heap.size = W.heap.size + 1 + 1 by simp [hs1], ← hW3] at this
    exact this
  have hcell : ∀ i (h : i < (szL p).length), W3.cell? ⟨W.heap.size + 1 + 1, i * 4, none⟩ = some (.int .i64 ((szL p)[i]).1) ∧ W3.cell? ⟨W.heap.size + 1 + 1, i * 4 + 1, none⟩ = some (.int .i64 ((szL p)[i]).2.1) ∧ W3.cell? ⟨W.heap.size + 1 + 1, i * 4 + 2, none⟩ = some (.int .i64 ((szL p)[i]).2.2.1) ∧ W3.cell? ⟨W.heap.size + 1 + 1, i * 4 + 3, none⟩ = some (.int .i64 ((szL p)[i]).2.2.2) := fun i h => by
    rw [hlen] at h
    rcases (show i = 0 ∨ i = 1 ∨ i = 2 ∨ i = 3 ∨ i = 4 by omega) with rfl | rfl | rfl | rfl | rfl
    · exact ⟨hb20.2.1 0 (by simp), hb20.2.1 1 (by simp), hb20.2.1 2 (by simp), hb20.2.1 3 (by simp)⟩
    · exact ⟨hb20.2.1 4 (by simp), hb20.2.1 5 (by simp), hb20.2.1 6 (by simp), hb20.2.1 7 (by simp)⟩
    · exact ⟨hb20.2.1 8 (by simp), hb20.2.1 9 (by simp), hb20.2.1 10 (by simp), hb20.2.1 11 (by simp)⟩
    · exact ⟨hb20.2.1 12 (by simp), hb20.2.1 13 (by simp), hb20.2.1 14 (by simp), hb20.2.1 15 (by simp)⟩
    · exact ⟨hb20.2.1 16 (by simp), hb20.2.1 17 (by simp), hb20.2.1 18 (by simp), hb20.2.1 19 (by simp)⟩
  have hcH := Hid.mk hcell
  have hlt3 : W.heap.size + 1 + 1 < W3.heap.size := hb20.1
  have hW3H : Hid (W3 = (W1.alloc (.cells #[.string ⟨p.name.toArray⟩, .int .i64 p.year, .slice a3 p.opts.length c3, .slice a4 p.tabs.length c4, .slice a5 p.grps.length c5, .slice a6 p.lns.length c6, .slice a7 p.cks.length c7] 28)).alloc (.cells #[.int .i64 2, .int .i64 (p.opts.length : Int), .int .i64 0, .int .i64 4, .int .i64 3, .int .i64 (p.tabs.length : Int), .int .i64 0, .int .i64 4, .int .i64 4, .int .i64 (p.grps.length : Int), .int .i64 0, .int .i64 4, .int .i64 5, .int .i64 (p.lns.length : Int), .int .i64 1, .int .i64 48, .int .i64 6, .int .i64 (p.cks.length : Int), .int .i64 0, .int .i64 16] 180)) := ⟨hW3⟩
  clear hR hcell hb20 hW3 hk1 hbz hs1 hlen
  go_enter Tryz.func73, Tryz.ntmps73
  go_wp2
  rw [← hW1H.out, ← hW3H.out]
  go_loopw [33] (fun iv wr => ∃ i : Nat, iv = .int .i64 (i : Int) ∧ i ≤ 5 ∧ Below W3.heap.size W3 wr ∧ Hid (szG ((szL p).drop i) = R)) (fun iv _ => 5 - (intOf iv).toNat)
  case atStart => exact ⟨0, rfl, by decide, Below.refl _ _, hst⟩
  case round =>
    obtain ⟨i, rfl, hi, hBr, hinv⟩ := hrel
    obtain ⟨hbr3, hk_st⟩ := hSt.out wr (bthr hB3 hBr (Nat.le_refl _))
    by_cases hlt : i < 5
    · have hlt' : (i : Int) < 5 := by omega
      have hi0 : (0 : Int) ≤ (i : Int) := by omega
      have hlt2 : i < (szL p).length := hlt
      obtain ⟨d0, d1, d2, d3⟩ := hcH.out i hlt2
      have e0 := (bel_cell hBr hlt3 (i * 4)).trans d0
      have e1 := (bel_cell hBr hlt3 (i * 4 + 1)).trans d1
      have e2 := (bel_cell hBr hlt3 (i * 4 + 2)).trans d2
      have e3 := (bel_cell hBr hlt3 (i * 4 + 3)).trans d3
      have hltr : W.heap.size + 1 + 1 < wr.heap.size := Nat.lt_of_lt_of_le hlt3 hBr.size
      have hinv2 := hinv.out
      rw [sz_step _ hlt2] at hinv2
      generalize (szL p)[i] = y at e0 e1 e2 e3 hinv2
      clear d0 d1 d2 d3 hinv
      by_cases h1 : y.2.1 < y.2.2.1
      · rw [if_pos (.inl h1)] at hinv2
        have hRH := Hid.mk hinv2.symm
        clear hinv2
        have hq0 := hbr3
        have kg0 : wr.cell? ⟨W.heap.size, 0, none⟩ = some (.int .i64 0) := hq0.2.1 0 (by simp)
        have kh0 := hq0.2.2 0; have kl0 := hq0.1
        obtain ⟨X1, hx0⟩ : ∃ X1, wr.setCell ⟨W.heap.size, 0, none⟩ (.int .i64 y.1) = X1 := ⟨_, rfl⟩
        have hq1 : Bx X1 W.heap.size [(.int .i64 y.1), (.int .i64 0), (.int .i64 0), (.slice none 0 0)] := (by rw [← hx0]; exact hq0.set 0 (.int .i64 y.1))
        have kg1 : X1.cell? ⟨W.heap.size, 1, none⟩ = some (.int .i64 0) := hq1.2.1 1 (by simp)
        have kh1 := hq1.2.2 1; have kl1 := hq1.1
        obtain ⟨X2, hx1⟩ : ∃ X2, X1.setCell ⟨W.heap.size, 1, none⟩ (.int .i64 0) = X2 := ⟨_, rfl⟩
        have hq2 : Bx X2 W.heap.size [(.int .i64 y.1), (.int .i64 0), (.int .i64 0), (.slice none 0 0)] := (by rw [← hx1]; exact hq1.set 1 (.int .i64 0))
        have kg2 : X2.cell? ⟨W.heap.size, 2, none⟩ = some (.int .i64 0) := hq2.2.1 2 (by simp)
        have kh2 := hq2.2.2 2; have kl2 := hq2.1
        obtain ⟨X3, hx2⟩ : ∃ X3, X2.setCell ⟨W.heap.size, 2, none⟩ (.int .i64 (-1)) = X3 := ⟨_, rfl⟩
        have hq3 : Bx X3 W.heap.size [(.int .i64 y.1), (.int .i64 0), (.int .i64 (-1)), (.slice none 0 0)] := (by rw [← hx2]; exact hq2.set 2 (.int .i64 (-1)))
        have kg3 : X3.cell? ⟨W.heap.size, 3, none⟩ = some (.slice none 0 0) := hq3.2.1 3 (by simp)
        have kh3 := hq3.2.2 3; have kl3 := hq3.1
        obtain ⟨X4, hx3⟩ : ∃ X4, X3.setCell ⟨W.heap.size, 3, none⟩ (.slice none 0 0) = X4 := ⟨_, rfl⟩
        have hq4 : Bx X4 W.heap.size [(.int .i64 y.1), (.int .i64 0), (.int .i64 (-1)), (.slice none 0 0)] := (by rw [← hx3]; exact hq3.set 3 (.slice none 0 0))
        have ht0 := hk_st
        have ht1 : CkS p [.string ⟨p.name.toArray⟩, .int .i64 p.year, .slice a3 p.opts.length c3, .slice a4 p.tabs.length c4, .slice a5 p.grps.length c5, .slice a6 p.lns.length c6, .slice a7 p.cks.length c7] cb s X1 seen sv ∧ Fr cb W sv X1 sv := (by rw [← hx0]; exact ck_set ht0 hrb1 hrb2 hrb3 0 (.int .i64 y.1))
        have ht2 : CkS p [.string ⟨p.name.toArray⟩, .int .i64 p.year, .slice a3 p.opts.length c3, .slice a4 p.tabs.length c4, .slice a5 p.grps.length c5, .slice a6 p.lns.length c6, .slice a7 p.cks.length c7] cb s X2 seen sv ∧ Fr cb W sv X2 sv := (by rw [← hx1]; exact ck_set ht1 hrb1 hrb2 hrb3 1 (.int .i64 0))
        have ht3 : CkS p [.string ⟨p.name.toArray⟩, .int .i64 p.year, .slice a3 p.opts.length c3, .slice a4 p.tabs.length c4, .slice a5 p.grps.length c5, .slice a6 p.lns.length c6, .slice a7 p.cks.length c7] cb s X3 seen sv ∧ Fr cb W sv X3 sv := (by rw [← hx2]; exact ck_set ht2 hrb1 hrb2 hrb3 2 (.int .i64 (-1)))
        have ht4 : CkS p [.string ⟨p.name.toArray⟩, .int .i64 p.year, .slice a3 p.opts.length c3, .slice a4 p.tabs.length c4, .slice a5 p.grps.length c5, .slice a6 p.lns.length c6, .slice a7 p.cks.length c7] cb s X4 seen sv ∧ Fr cb W sv X4 sv := (by rw [← hx3]; exact ck_set ht3 hrb1 hrb2 hrb3 3 (.slice none 0 0))
        have hB5 : Below X4.heap.size X4 ((X4.alloc (.cells #[.int .i64 y.1, .int .i64 y.2.1, .int .i64 y.2.2.1, .int .i64 y.2.2.2] 180)).alloc (.cells #[.int .i64 y.1, .int .i64 0, .int .i64 (-1), .slice none 0 0] 105)) := (((Below.refl X4.heap.size X4).alloc (Nat.le_refl _) _).alloc (by simp) _)
        have hff : QQ (.returned (.tuple #[.agg #[.int .i64 y.1, .int .i64 0, .int .i64 (-1), .slice none 0 0], .int .i64 60])) ((X4.alloc (.cells #[.int .i64 y.1, .int .i64 y.2.1, .int .i64 y.2.2.1, .int .i64 y.2.2.2] 180)).alloc (.cells #[.int .i64 y.1, .int .i64 0, .int .i64 (-1), .slice none 0 0] 105)) := by
          rw [← hQH.out, hRH.out]
          exact ⟨rfl, sv, ht4.1.bel hB5, ht4.2.trans (Fr.bel hB5 _)⟩
        have hq5 := hq4.bel hB5 hq4.1
        have f0 := hq5.2.1 0 (by simp)
        have f1 := hq5.2.1 1 (by simp)
        have f2 := hq5.2.1 2 (by simp)
        have f3 := hq5.2.1 3 (by simp)
        have l4 := hq4.1
        clear hq0 hq1 hq2 hq3 hq4 hq5 ht0 ht1 ht2 ht3 ht4 hk_st hbr3
        go_wp2_with (go_at_call 96; refine (itemAt_any _ _ _).mono ?_; rintro e w9 ⟨rfl, rfl⟩)
        exact bodyPost_ret (v := .tuple #[.agg #[.int .i64 y.1, .int .i64 0, .int .i64 (-1), .slice none 0 0], .int .i64 60]) (by simp [results, Tryz.results73, go_sem, f0, f1, f2, f3]) rfl hff
      · by_cases h2 : y.2.2.2 < y.2.1
        · rw [if_pos (.inr h2)] at hinv2
          have hRH := Hid.mk hinv2.symm
          clear hinv2
          have hq0 := hbr3
          have kg0 : wr.cell? ⟨W.heap.size, 0, none⟩ = some (.int .i64 0) := hq0.2.1 0 (by simp)
          have kh0 := hq0.2.2 0; have kl0 := hq0.1
          obtain ⟨X1, hx0⟩ : ∃ X1, wr.setCell ⟨W.heap.size, 0, none⟩ (.int .i64 y.1) = X1 := ⟨_, rfl⟩
          have hq1 : Bx X1 W.heap.size [(.int .i64 y.1), (.int .i64 0), (.int .i64 0), (.slice none 0 0)] := (by rw [← hx0]; exact hq0.set 0 (.int .i64 y.1))
          have kg1 : X1.cell? ⟨W.heap.size, 1, none⟩ = some (.int .i64 0) := hq1.2.1 1 (by simp)
          have kh1 := hq1.2.2 1; have kl1 := hq1.1
          obtain ⟨X2, hx1⟩ : ∃ X2, X1.setCell ⟨W.heap.size, 1, none⟩ (.int .i64 0) = X2 := ⟨_, rfl⟩
          have hq2 : Bx X2 W.heap.size [(.int .i64 y.1), (.int .i64 0), (.int .i64 0), (.slice none 0 0)] := (by rw [← hx1]; exact hq1.set 1 (.int .i64 0))
          have kg2 : X2.cell? ⟨W.heap.size, 2, none⟩ = some (.int .i64 0) := hq2.2.1 2 (by simp)
          have kh2 := hq2.2.2 2; have kl2 := hq2.1
          obtain ⟨X3, hx2⟩ : ∃ X3, X2.setCell ⟨W.heap.size, 2, none⟩ (.int .i64 (-1)) = X3 := ⟨_, rfl⟩
          have hq3 : Bx X3 W.heap.size [(.int .i64 y.1), (.int .i64 0), (.int .i64 (-1)), (.slice none 0 0)] := (by rw [← hx2]; exact hq2.set 2 (.int .i64 (-1)))
          have kg3 : X3.cell? ⟨W.heap.size, 3, none⟩ = some (.slice none 0 0) := hq3.2.1 3 (by simp)
          have kh3 := hq3.2.2 3; have kl3 := hq3.1
          obtain ⟨X4, hx3⟩ : ∃ X4, X3.setCell ⟨W.heap.size, 3, none⟩ (.slice none 0 0) = X4 := ⟨_, rfl⟩
          have hq4 : Bx X4 W.heap.size [(.int .i64 y.1), (.int .i64 0), (.int .i64 (-1)), (.slice none 0 0)] := (by rw [← hx3]; exact hq3.set 3 (.slice none 0 0))
          have ht0 := hk_st
          have ht1 : CkS p [.string ⟨p.name.toArray⟩, .int .i64 p.year, .slice a3 p.opts.length c3, .slice a4 p.tabs.length c4, .slice a5 p.grps.length c5, .slice a6 p.lns.length c6, .slice a7 p.cks.length c7] cb s X1 seen sv ∧ Fr cb W sv X1 sv := (by rw [← hx0]; exact ck_set ht0 hrb1 hrb2 hrb3 0 (.int .i64 y.1))
          have ht2 : CkS p [.string ⟨p.name.toArray⟩, .int .i64 p.year, .slice a3 p.opts.length c3, .slice a4 p.tabs.length c4, .slice a5 p.grps.length c5, .slice a6 p.lns.length c6, .slice a7 p.cks.length c7] cb s X2 seen sv ∧ Fr cb W sv X2 sv := (by rw [← hx1]; exact ck_set ht1 hrb1 hrb2 hrb3 1 (.int .i64 0))
          have ht3 : CkS p [.string ⟨p.name.toArray⟩, .int .i64 p.year, .slice a3 p.opts.length c3, .slice a4 p.tabs.length c4, .slice a5 p.grps.length c5, .slice a6 p.lns.length c6, .slice a7 p.cks.length c7] cb s X3 seen sv ∧ Fr cb W sv X3 sv := (by rw [← hx2]; exact ck_set ht2 hrb1 hrb2 hrb3 2 (.int .i64 (-1)))
          have ht4 : CkS p [.string ⟨p.name.toArray⟩, .int .i64 p.year, .slice a3 p.opts.length c3, .slice a4 p.tabs.length c4, .slice a5 p.grps.length c5, .slice a6 p.lns.length c6, .slice a7 p.cks.length c7] cb s X4 seen sv ∧ Fr cb W sv X4 sv := (by rw [← hx3]; exact ck_set ht3 hrb1 hrb2 hrb3 3 (.slice none 0 0))
          have hB5 : Below X4.heap.size X4 ((X4.alloc (.cells #[.int .i64 y.1, .int .i64 y.2.1, .int .i64 y.2.2.1, .int .i64 y.2.2.2] 180)).alloc (.cells #[.int .i64 y.1, .int .i64 0, .int .i64 (-1), .slice none 0 0] 105)) := (((Below.refl X4.heap.size X4).alloc (Nat.le_refl _) _).alloc (by simp) _)
          have hff : QQ (.returned (.tuple #[.agg #[.int .i64 y.1, .int .i64 0, .int .i64 (-1), .slice none 0 0], .int .i64 60])) ((X4.alloc (.cells #[.int .i64 y.1, .int .i64 y.2.1, .int .i64 y.2.2.1, .int .i64 y.2.2.2] 180)).alloc (.cells #[.int .i64 y.1, .int .i64 0, .int .i64 (-1), .slice none 0 0] 105)) := by
            rw [← hQH.out, hRH.out]
            exact ⟨rfl, sv, ht4.1.bel hB5, ht4.2.trans (Fr.bel hB5 _)⟩
          have hq5 := hq4.bel hB5 hq4.1
          have f0 := hq5.2.1 0 (by simp)
          have f1 := hq5.2.1 1 (by simp)
          have f2 := hq5.2.1 2 (by simp)
          have f3 := hq5.2.1 3 (by simp)
          have l4 := hq4.1
          clear hq0 hq1 hq2 hq3 hq4 hq5 ht0 ht1 ht2 ht3 ht4 hk_st hbr3
          go_wp2_with (go_at_call 96; refine (itemAt_any _ _ _).mono ?_; rintro e w9 ⟨rfl, rfl⟩)
          exact bodyPost_ret (v := .tuple #[.agg #[.int .i64 y.1, .int .i64 0, .int .i64 (-1), .slice none 0 0], .int .i64 60]) (by simp [results, Tryz.results73, go_sem, f0, f1, f2, f3]) rfl hff
        · rw [if_neg (fun h => h.elim h1 h2)] at hinv2
          have hs2 := Hid.mk hinv2
          have hal : Below W3.heap.size W3 (wr.alloc (.cells #[.int .i64 y.1, .int .i64 y.2.1, .int .i64 y.2.2.1, .int .i64 y.2.2.2] 180)) := hBr.alloc hBr.size _
          clear hinv2 hbr3 hk_st
          go_wp2
          exact ⟨⟨i + 1, rfl, hlt, hal, hs2⟩, by simp only [intOf]; omega⟩
    · have hlt' : ¬ (i : Int) < 5 := by omega
      have hri := hinv.out
      rw [List.drop_eq_nil_of_le (by show (szL p).length ≤ i; have : (szL p).length = 5 := rfl; omega)] at hri
      have hRH := Hid.mk hri.symm
      clear hri hinv
      have hff : QQ (.returned (.tuple #[.agg #[.int .i64 0, .int .i64 0, .int .i64 0, .slice none 0 0], .int .i64 0])) wr := by
        rw [← hQH.out, hRH.out]
        exact ⟨rfl, sv, hk_st.1, hk_st.2⟩
      have f0 := hbr3.2.1 0 (by simp)
      have z0 := hbr3.2.2 0
      have f1 := hbr3.2.1 1 (by simp)
      have z1 := hbr3.2.2 1
      have f2 := hbr3.2.1 2 (by simp)
      have z2 := hbr3.2.2 2
      have f3 := hbr3.2.1 3 (by simp)
      have z3 := hbr3.2.2 3
      have j0 := set_id f0
      have j1 := set_id f1
      have j2 := set_id f2
      have j3 := set_id f3
      clear hbr3 hk_st
      go_wp2
      exact bodyPost_ret (v := .tuple #[.agg #[.int .i64 0, .int .i64 0, .int .i64 0, .slice none 0 0], .int .i64 0]) (by simp at f0 f1 f2 f3; simp [results, Tryz.results73, go_sem, f0, f1, f2, f3]) rfl hff
end Go.Proofs.YthnmjafoplfikaaGreatDoor


namespace Go.Proofs.YthnmjafoplfikaaGreatDoor
open Go.RowKit

theorem rwF_b (g : List UInt8 × Int) : 0 ≤ rwF g ∧ rwF g ≤ 8 := by
  unfold rwF
  omega
theorem ceF_b (p : Pk) (g : Int) : 0 ≤ ceF p g ∧ ceF p g ≤ 8 := by
  unfold ceF
  split
  · exact rwF_b _
  · decide
set_option maxRecDepth 20000 in
set_option maxHeartbeats 1500000 in
theorem Cells_any (p : Pk) (a3 a4 a5 a6 a7 : Option Addr) (c3 c4 c5 c6 c7 : Nat) (W : World) (hR5 : RowR eG W AnyB p.grps a5) (hR6 : RowR eL W AnyB p.lns a6) (hR7 : RowR eK W AnyB p.cks a7) (h5 : p.grps.length ≤ 1000000) (h6 : p.lns.length ≤ 1000000) (h7 : p.cks.length ≤ 1000000) : Calls Tryz.prog 9 #[.agg #[.string ⟨p.name.toArray⟩, .int .i64 p.year, .slice a3 p.opts.length c3, .slice a4 p.tabs.length c4, .slice a5 p.grps.length c5, .slice a6 p.lns.length c6, .slice a7 p.cks.length c7]] W (Lk (.int .i64 (cesF p)) W) := by
  obtain ⟨T1, hT1e⟩ : ∃ T1, (p.lns.map (fun l => ceF p l.group)).sum = T1 := ⟨_, rfl⟩
  obtain ⟨T2, hT2e⟩ : ∃ T2, T1 + (p.cks.map (fun c => ceF p c.group)).sum = T2 := ⟨_, rfl⟩
  obtain ⟨T3, hT3e⟩ : ∃ T3, T2 + (p.grps.map rwF).sum = T3 := ⟨_, rfl⟩
  have hces : cesF p = T3 := by unfold cesF; rw [hT1e, hT2e, hT3e]
  rw [hces]
  have hT1 := Hid.mk hT2e
  have hT2 := Hid.mk hT3e
  have hT1z : (0 : Int) + (p.lns.map (fun l => ceF p l.group)).sum = T1 := by rw [hT1e, Int.zero_add]
  obtain ⟨W1, hW1⟩ : ∃ W1, W1 = W.alloc (.cells #[.string ⟨p.name.toArray⟩, .int .i64 p.year, .slice a3 p.opts.length c3, .slice a4 p.tabs.length c4, .slice a5 p.grps.length c5, .slice a6 p.lns.length c6, .slice a7 p.cks.length c7] 28) := ⟨_, rfl⟩
  have hB1 : Below W.heap.size W W1 := by rw [hW1]; exact (Below.refl _ _).alloc (Nat.le_refl _) _
  have hbp : Bx W1 W.heap.size [.string ⟨p.name.toArray⟩, .int .i64 p.year, .slice a3 p.opts.length c3, .slice a4 p.tabs.length c4, .slice a5 p.grps.length c5, .slice a6 p.lns.length c6, .slice a7 p.cks.length c7] := by rw [hW1]; exact bx_new _ _ _
  have hP : Hid (∀ w, Below W1.heap.size W1 w → w.cell? ⟨W.heap.size, 0, none⟩ = some (.string ⟨p.name.toArray⟩) ∧ w.cell? ⟨W.heap.size, 1, none⟩ = some (.int .i64 p.year) ∧ w.cell? ⟨W.heap.size, 2, none⟩ = some (.slice a3 p.opts.length c3) ∧ w.cell? ⟨W.heap.size, 3, none⟩ = some (.slice a4 p.tabs.length c4) ∧ w.cell? ⟨W.heap.size, 4, none⟩ = some (.slice a5 p.grps.length c5) ∧ w.cell? ⟨W.heap.size, 5, none⟩ = some (.slice a6 p.lns.length c6) ∧ w.cell? ⟨W.heap.size, 6, none⟩ = some (.slice a7 p.cks.length c7)) := ⟨fun w hw => by
    have h2 := hbp.bel hw hbp.1
    exact ⟨h2.2.1 0 (by simp), h2.2.1 1 (by simp), h2.2.1 2 (by simp), h2.2.1 3 (by simp), h2.2.1 4 (by simp), h2.2.1 5 (by simp), h2.2.1 6 (by simp)⟩⟩
  have hcin : Hid (∀ g X, Below W.heap.size W X → Calls Tryz.prog 31 #[.agg #[.string ⟨p.name.toArray⟩, .int .i64 p.year, .slice a3 p.opts.length c3, .slice a4 p.tabs.length c4, .slice a5 p.grps.length c5, .slice a6 p.lns.length c6, .slice a7 p.cks.length c7], .int .i64 g] X (Lk (.int .i64 (ceF p g)) X)) := ⟨fun g X hX => cellsIn_any p g a3 a4 a5 a6 a7 c3 c4 c5 c6 c7 X (row_bel hR5 hX (Nat.le_refl _))⟩
  have hW1H := Hid.mk hW1
  have h5' : (p.grps.length : Int) ≤ 1000000 := by omega
  have h6' : (p.lns.length : Int) ≤ 1000000 := by omega
  have h7' : (p.cks.length : Int) ≤ 1000000 := by omega
  clear hW1 hces hT1e hT2e hT3e
  subst hT1z
  go_enter Tryz.func9, Tryz.ntmps9
  go_wp2
  rw [← hW1H.out]
  clear hW1H
  go_loopw [3, 13] (fun nv iv wr => ∃ (i : Nat) (n : Int), nv = .int .i64 n ∧ iv = .int .i64 (i : Int) ∧ i ≤ p.lns.length ∧ Below W1.heap.size W1 wr ∧ 0 ≤ n ∧ n ≤ 0 + 8 * (i : Int) ∧ Hid (n + ((p.lns.drop i).map (fun l => ceF p l.group)).sum = (0 + (p.lns.map (fun l => ceF p l.group)).sum))) (fun _ iv _ => p.lns.length - (intOf iv).toNat)
  case atStart => exact ⟨0, 0, rfl, rfl, Nat.zero_le _, Below.refl _ _, Int.le_refl _, by omega, ⟨by rw [List.drop_zero]⟩⟩
  case round =>
    obtain ⟨i, n, rfl, rfl, hi, hBr, hn0, hn1, hinv⟩ := hrel
    obtain ⟨p0, p1, p2, p3, p4, p5, p6⟩ := hP.out wr hBr
    have hBw := bthr hB1 hBr (Nat.le_refl _)
    have hlr : W.heap.size < wr.heap.size := World.block_lt_of_cell? _ _ p0
    by_cases hlt : i < p.lns.length
    · have hlt' : (i : Int) < (p.lns.length : Int) := by omega
      have hi0 : (0 : Int) ≤ (i : Int) := by omega
      have hRr := row_bel hR6 hBw (Nat.le_refl _)
      obtain ⟨ge, oe, hga⟩ := hRr.some hlt
      subst hga
      obtain ⟨cs, -, -, ⟨an, cn, rfl, -⟩, hcs⟩ := hRr.item hlt
      have kx : wr.cell? ⟨ge, oe + i * 7, none⟩ = some (.string ⟨p.lns[i].name.toArray⟩) ∧ wr.cell? ⟨ge, oe + i * 7 + 1, none⟩ = some (.bool p.lns[i].input) ∧ wr.cell? ⟨ge, oe + i * 7 + 2, none⟩ = some (.bool p.lns[i].must) ∧ wr.cell? ⟨ge, oe + i * 7 + 3, none⟩ = some (.int .i64 p.lns[i].type) ∧ wr.cell? ⟨ge, oe + i * 7 + 4, none⟩ = some (.int .i64 p.lns[i].opts) ∧ wr.cell? ⟨ge, oe + i * 7 + 5, none⟩ = some (.int .i64 p.lns[i].group) ∧ wr.cell? ⟨ge, oe + i * 7 + 6, none⟩ = some (.slice an p.lns[i].cls.length cn) := ⟨hcs 0 (by decide), hcs 1 (by decide), hcs 2 (by decide), hcs 3 (by decide), hcs 4 (by decide), hcs 5 (by decide), hcs 6 (by decide)⟩
      have hinv2 := hinv.out
      rw [List.drop_eq_getElem_cons hlt, List.map_cons, List.sum_cons] at hinv2
      generalize p.lns[i] = y at kx hinv2
      have hcy := ceF_b p y.group
      have hadd : Hid ((n + ceF p y.group) + ((p.lns.drop (i + 1)).map (fun l => ceF p l.group)).sum = (0 + (p.lns.map (fun l => ceF p l.group)).sum)) := ⟨by rw [← hinv2, Int.add_assoc]⟩
      have hal : Below W1.heap.size W1 (wr.alloc (.cells #[.string ⟨y.name.toArray⟩, .bool y.input, .bool y.must, .int .i64 y.type, .int .i64 y.opts, .int .i64 y.group, .slice an y.cls.length cn] 78)) := hBr.alloc hBr.size _
      have hcall := hcin.out y.group (wr.alloc (.cells #[.string ⟨y.name.toArray⟩, .bool y.input, .bool y.must, .int .i64 y.type, .int .i64 y.opts, .int .i64 y.group, .slice an y.cls.length cn] 78)) (bthr hBw ((Below.refl _ _).alloc (Nat.le_refl _) _) (Nat.le_refl _))
      obtain ⟨d0, d1, d2, d3, d4, d5, d6⟩ := kx
      generalize ceF p y.group = z at hcy hadd hcall
      clear hcs hRr hinv hinv2
      go_wp2_with (go_at_call 31; refine hcall.mono ?_; clear hcall; rintro e w2 ⟨rfl, hb2⟩; have hb3 := bthr hal hb2 (Nat.le_refl _))
      exact ⟨⟨i + 1, n + z, (by first | rfl | go_num), (by first | rfl | go_num), hlt, hb3, by omega, by omega, hadd⟩, by simp only [intOf]; omega⟩
    · have hlt' : ¬ (i : Int) < (p.lns.length : Int) := by omega
      have hri := hinv.out
      rw [List.drop_eq_nil_of_le (by omega), List.map_nil, List.sum_nil, Int.add_zero] at hri
      obtain ⟨n1, hn1e⟩ : ∃ n1, n = n1 := ⟨_, rfl⟩
      rw [hn1e] at hri hn0 hn1 ⊢
      clear hinv hn1e
      have hn1' : n1 ≤ 8000000 := by omega
      have hBa := hBr
      have hT2e : n1 + (p.cks.map (fun c => ceF p c.group)).sum = T2 := by rw [hri]; exact hT1.out
      clear hri hn1
      subst hT2e
      go_wp2
      go_loopw [3, 27] (fun nv iv wr => ∃ (i : Nat) (n : Int), nv = .int .i64 n ∧ iv = .int .i64 (i : Int) ∧ i ≤ p.cks.length ∧ Below W1.heap.size W1 wr ∧ n1 ≤ n ∧ n ≤ n1 + 8 * (i : Int) ∧ Hid (n + ((p.cks.drop i).map (fun c => ceF p c.group)).sum = (n1 + (p.cks.map (fun c => ceF p c.group)).sum))) (fun _ iv _ => p.cks.length - (intOf iv).toNat)
      case atStart => exact ⟨0, n1, rfl, rfl, Nat.zero_le _, hBa, Int.le_refl _, by omega, ⟨by rw [List.drop_zero]⟩⟩
      case round =>
        obtain ⟨i, n, rfl, rfl, hi, hBr, hn0, hn1, hinv⟩ := hrel
        obtain ⟨p0, p1, p2, p3, p4, p5, p6⟩ := hP.out wr hBr
        have hBw := bthr hB1 hBr (Nat.le_refl _)
        have hlr : W.heap.size < wr.heap.size := World.block_lt_of_cell? _ _ p0
        by_cases hlt : i < p.cks.length
        · have hlt' : (i : Int) < (p.cks.length : Int) := by omega
          have hi0 : (0 : Int) ≤ (i : Int) := by omega
          have hRr := row_bel hR7 hBw (Nat.le_refl _)
          obtain ⟨ge, oe, hga⟩ := hRr.some hlt
          subst hga
          obtain ⟨cs, -, -, ⟨an, cn, rfl, -⟩, hcs⟩ := hRr.item hlt
          have kx : wr.cell? ⟨ge, oe + i * 9, none⟩ = some (.string ⟨p.cks[i].name.toArray⟩) ∧ wr.cell? ⟨ge, oe + i * 9 + 1, none⟩ = some (.bool p.cks[i].hard) ∧ wr.cell? ⟨ge, oe + i * 9 + 2, none⟩ = some (.int .i64 p.cks[i].group) ∧ wr.cell? ⟨ge, oe + i * 9 + 3, none⟩ = some (.int .i64 p.cks[i].when_.op) ∧ wr.cell? ⟨ge, oe + i * 9 + 4, none⟩ = some (.int .i64 p.cks[i].when_.num) ∧ wr.cell? ⟨ge, oe + i * 9 + 5, none⟩ = some (.int .i64 p.cks[i].when_.den) ∧ wr.cell? ⟨ge, oe + i * 9 + 6, none⟩ = some (.int .i64 p.cks[i].when_.mode) ∧ wr.cell? ⟨ge, oe + i * 9 + 7, none⟩ = some (.slice an p.cks[i].when_.args.len cn) ∧ wr.cell? ⟨ge, oe + i * 9 + 8, none⟩ = some (.string ⟨p.cks[i].text.toArray⟩) := ⟨hcs 0 (by decide), hcs 1 (by decide), hcs 2 (by decide), hcs 3 (by decide), hcs 4 (by decide), hcs 5 (by decide), hcs 6 (by decide), hcs 7 (by decide), hcs 8 (by decide)⟩
          have hinv2 := hinv.out
          rw [List.drop_eq_getElem_cons hlt, List.map_cons, List.sum_cons] at hinv2
          generalize p.cks[i] = y at kx hinv2
          have hcy := ceF_b p y.group
          have hadd : Hid ((n + ceF p y.group) + ((p.cks.drop (i + 1)).map (fun c => ceF p c.group)).sum = (n1 + (p.cks.map (fun c => ceF p c.group)).sum)) := ⟨by rw [← hinv2, Int.add_assoc]⟩
          have hal : Below W1.heap.size W1 (wr.alloc (.cells #[.string ⟨y.name.toArray⟩, .bool y.hard, .int .i64 y.group, .int .i64 y.when_.op, .int .i64 y.when_.num, .int .i64 y.when_.den, .int .i64 y.when_.mode, .slice an y.when_.args.len cn, .string ⟨y.text.toArray⟩] 75)) := hBr.alloc hBr.size _
          have hcall := hcin.out y.group (wr.alloc (.cells #[.string ⟨y.name.toArray⟩, .bool y.hard, .int .i64 y.group, .int .i64 y.when_.op, .int .i64 y.when_.num, .int .i64 y.when_.den, .int .i64 y.when_.mode, .slice an y.when_.args.len cn, .string ⟨y.text.toArray⟩] 75)) (bthr hBw ((Below.refl _ _).alloc (Nat.le_refl _) _) (Nat.le_refl _))
          obtain ⟨d0, d1, d2, d3, d4, d5, d6, d7, d8⟩ := kx
          generalize ceF p y.group = z at hcy hadd hcall
          clear hcs hRr hinv hinv2
          go_wp2_with (go_at_call 31; refine hcall.mono ?_; clear hcall; rintro e w2 ⟨rfl, hb2⟩; have hb3 := bthr hal hb2 (Nat.le_refl _))
          exact ⟨⟨i + 1, n + z, (by first | rfl | go_num), (by first | rfl | go_num), hlt, hb3, by omega, by omega, hadd⟩, by simp only [intOf]; omega⟩
        · have hlt' : ¬ (i : Int) < (p.cks.length : Int) := by omega
          have hri := hinv.out
          rw [List.drop_eq_nil_of_le (by omega), List.map_nil, List.sum_nil, Int.add_zero] at hri
          obtain ⟨n2, hn2⟩ : ∃ n2, n = n2 := ⟨_, rfl⟩
          rw [hn2] at hri hn0 hn1 ⊢
          clear hinv hn2
          have hn0' : 0 ≤ n2 := by omega
          have hn1' : n2 ≤ 16000000 := by omega
          have hT3 : n2 + (p.grps.map rwF).sum = T3 := by rw [hri]; exact hT2.out
          have hBb := hBr
          clear hn0 hn1 hri hBa
          subst hT3
          go_wp2
          go_loopw [3, 41] (fun nv iv wr => ∃ (i : Nat) (n : Int), nv = .int .i64 n ∧ iv = .int .i64 (i : Int) ∧ i ≤ p.grps.length ∧ Below W1.heap.size W1 wr ∧ n2 ≤ n ∧ n ≤ n2 + 8 * (i : Int) ∧ Hid (n + ((p.grps.drop i).map rwF).sum = (n2 + (p.grps.map rwF).sum))) (fun _ iv _ => p.grps.length - (intOf iv).toNat)
          case atStart => exact ⟨0, n2, rfl, rfl, Nat.zero_le _, hBb, Int.le_refl _, by omega, ⟨by rw [List.drop_zero]⟩⟩
          case round =>
            obtain ⟨i, n, rfl, rfl, hi, hBr, hn0, hn1, hinv⟩ := hrel
            obtain ⟨p0, p1, p2, p3, p4, p5, p6⟩ := hP.out wr hBr
            have hBw := bthr hB1 hBr (Nat.le_refl _)
            have hlr : W.heap.size < wr.heap.size := World.block_lt_of_cell? _ _ p0
            by_cases hlt : i < p.grps.length
            · have hlt' : (i : Int) < (p.grps.length : Int) := by omega
              have hi0 : (0 : Int) ≤ (i : Int) := by omega
              have hRr := row_bel hR5 hBw (Nat.le_refl _)
              obtain ⟨ge, oe, hga⟩ := hRr.some hlt
              subst hga
              obtain ⟨cs, -, -, ⟨rfl, -⟩, hcs⟩ := hRr.item hlt
              have kx : wr.cell? ⟨ge, oe + i * 2, none⟩ = some (.string ⟨p.grps[i].1.toArray⟩) ∧ wr.cell? ⟨ge, oe + i * 2 + 1, none⟩ = some (.int .i64 p.grps[i].2) := ⟨hcs 0 (by decide), hcs 1 (by decide)⟩
              have hinv2 := hinv.out
              rw [List.drop_eq_getElem_cons hlt, List.map_cons, List.sum_cons] at hinv2
              generalize p.grps[i] = y at kx hinv2
              have hcy := rwF_b y
              have hadd : Hid ((n + rwF y) + ((p.grps.drop (i + 1)).map rwF).sum = (n2 + (p.grps.map rwF).sum)) := ⟨by rw [← hinv2, Int.add_assoc]⟩
              have hal : Below W1.heap.size W1 (wr.alloc (.cells #[.string ⟨y.1.toArray⟩, .int .i64 y.2] 96)) := hBr.alloc hBr.size _
              have hcall := rows_any y (wr.alloc (.cells #[.string ⟨y.1.toArray⟩, .int .i64 y.2] 96))
              obtain ⟨d0, d1⟩ := kx
              generalize rwF y = z at hcy hadd hcall
              clear hcs hRr hinv hinv2
              go_wp2_with (go_at_call 32; refine hcall.mono ?_; clear hcall; rintro e w2 ⟨rfl, hb2⟩; have hb3 := bthr hal hb2 (Nat.le_refl _))
              exact ⟨⟨i + 1, n + z, (by first | rfl | go_num), (by first | rfl | go_num), hlt, hb3, by omega, by omega, hadd⟩, by simp only [intOf]; omega⟩
            · have hlt' : ¬ (i : Int) < (p.grps.length : Int) := by omega
              have hri := hinv.out
              rw [List.drop_eq_nil_of_le (by omega), List.map_nil, List.sum_nil, Int.add_zero] at hri
              have hff : Lk (.int .i64 (n2 + (p.grps.map rwF).sum)) W (.returned (.int .i64 n)) wr := ⟨by rw [hri], hBw⟩
              clear hinv hri
              go_wp2
              go_ret
              exact hff



end Go.Proofs.YthnmjafoplfikaaGreatDoor


namespace Go.Proofs.YthnmjafoplfikaaGreatDoor
open Go.RowKit

theorem CkS.rowL {p : Pk} {a3 a4 a5 a6 a7 : Option Addr} {c3 c4 c5 c6 c7 : Nat} {cb s : Nat} {W : World} {seen : Sn} {sv : Value} (h : CkS p [.string ⟨p.name.toArray⟩, .int .i64 p.year, .slice a3 p.opts.length c3, .slice a4 p.tabs.length c4, .slice a5 p.grps.length c5, .slice a6 p.lns.length c6, .slice a7 p.cks.length c7] cb s W seen sv) : RowR eL W (fun b => b < cb) p.lns a6 := by
  obtain ⟨b3, d3, b4, d4, b5, d5, b6, d6, b7, d7, h0, h1, r3, r4, r5, r6, r7⟩ := h.pk
  simp only [List.cons.injEq, Value.slice.injEq, and_true, true_and] at h0
  obtain ⟨⟨rfl, rfl⟩, ⟨rfl, rfl⟩, ⟨rfl, rfl⟩, ⟨rfl, rfl⟩, rfl, rfl⟩ := h0
  exact r6
set_option maxRecDepth 20000 in
set_option maxHeartbeats 2000000 in
theorem cellP_any (p : Pk) (a3 a4 a5 a6 a7 : Option Addr) (c3 c4 c5 c6 c7 : Nat) (cb s : Nat) (W : World) (seen : Sn) (sv : Value) (h : CkS p [.string ⟨p.name.toArray⟩, .int .i64 p.year, .slice a3 p.opts.length c3, .slice a4 p.tabs.length c4, .slice a5 p.grps.length c5, .slice a6 p.lns.length c6, .slice a7 p.cks.length c7] cb s W seen sv) (h5 : p.grps.length ≤ 1000000) (h6 : p.lns.length ≤ 1000000) (h7 : p.cks.length ≤ 1000000) : Calls Tryz.prog 80 #[.pointer (some ⟨cb, 0, none⟩)] W (PtP p [.string ⟨p.name.toArray⟩, .int .i64 p.year, .slice a3 p.opts.length c3, .slice a4 p.tabs.length c4, .slice a5 p.grps.length c5, .slice a6 p.lns.length c6, .slice a7 p.cks.length c7] cb s sv (seen, celF p) W) := by
  have hcb := h.lt
  obtain ⟨W1, hW1⟩ : ∃ W1, W1 = W.alloc (.cells #[.int .i64 0, .int .i64 0, .int .i64 0, .slice none 0 0] 105) := ⟨_, rfl⟩
  have hB1 : Below W.heap.size W W1 := by rw [hW1]; exact (Below.refl _ _).alloc (Nat.le_refl _) _
  have hbz : Bx W1 W.heap.size [.int .i64 0, .int .i64 0, .int .i64 0, .slice none 0 0] := by rw [hW1]; exact bx_new _ _ _
  have hk1 := h.bel hB1
  have hrb3 : some W.heap.size ≠ sv.ownBlock := fun e => by
    have := (h.pg _ e.symm).2
    omega
  have hrb1 : cb + 1 ≤ W.heap.size := hcb
  have hrb2 : W.heap.size ≤ W.heap.size := Nat.le_refl _
  obtain ⟨R, hR⟩ : ∃ R, celF p = R := ⟨_, rfl⟩
  rw [hR]
  obtain ⟨QQ, hQQ⟩ : ∃ QQ, PtP p [.string ⟨p.name.toArray⟩, .int .i64 p.year, .slice a3 p.opts.length c3, .slice a4 p.tabs.length c4, .slice a5 p.grps.length c5, .slice a6 p.lns.length c6, .slice a7 p.cks.length c7] cb s sv (seen, R) W = QQ := ⟨_, rfl⟩
  rw [hQQ]
  have hQH := Hid.mk hQQ
  have hW1H := Hid.mk hW1
  obtain ⟨q0, q1, q2, q3, q4, q5, q6⟩ := h.cells
  have hSt : Hid (∀ w, Below W1.heap.size W1 w → Bx w W.heap.size [.int .i64 0, .int .i64 0, .int .i64 0, .slice none 0 0] ∧ (CkS p [.string ⟨p.name.toArray⟩, .int .i64 p.year, .slice a3 p.opts.length c3, .slice a4 p.tabs.length c4, .slice a5 p.grps.length c5, .slice a6 p.lns.length c6, .slice a7 p.cks.length c7] cb s w seen sv ∧ Fr cb W sv w sv)) := ⟨fun w hw => ⟨hbz.bel hw hbz.1, hk1.bel hw, (Fr.bel hB1 _).trans (Fr.bel hw _)⟩⟩
  clear hQQ hW1
  have hce := Cells_any p a3 a4 a5 a6 a7 c3 c4 c5 c6 c7 W1 (hk1.rows.2.2.1.mo (fun _ _ _ => trivial)) (hk1.rowL.mo (fun _ _ _ => trivial)) (hk1.rows.2.2.2.2.mo (fun _ _ _ => trivial)) h5 h6 h7
  unfold celF at hR
  obtain ⟨n, hn⟩ : ∃ n, cesF p = n := ⟨_, rfl⟩
  rw [hn] at hce hR
  clear hn
  by_cases hb : 256 < n
  · rw [if_pos hb] at hR
    have hRH := Hid.mk hR.symm
    clear hR hk1 hbz
    go_enter Tryz.func80, Tryz.ntmps80
    go_wp2_with fail
    rw [← hW1H.out]
    refine hce.mono ?_
    clear hce
    rintro e w1 ⟨rfl, hb1⟩
    obtain ⟨hbr3, hk_st⟩ := hSt.out w1 hb1
    have hq0 := hbr3
    have kg0 : w1.cell? ⟨W.heap.size, 0, none⟩ = some (.int .i64 0) := hq0.2.1 0 (by simp)
    have kh0 := hq0.2.2 0; have kl0 := hq0.1
    obtain ⟨X1, hx0⟩ : ∃ X1, w1.setCell ⟨W.heap.size, 0, none⟩ (.int .i64 1) = X1 := ⟨_, rfl⟩
    have hq1 : Bx X1 W.heap.size [(.int .i64 1), (.int .i64 0), (.int .i64 0), (.slice none 0 0)] := (by rw [← hx0]; exact hq0.set 0 (.int .i64 1))
    have kg1 : X1.cell? ⟨W.heap.size, 1, none⟩ = some (.int .i64 0) := hq1.2.1 1 (by simp)
    have kh1 := hq1.2.2 1; have kl1 := hq1.1
    obtain ⟨X2, hx1⟩ : ∃ X2, X1.setCell ⟨W.heap.size, 1, none⟩ (.int .i64 0) = X2 := ⟨_, rfl⟩
    have hq2 : Bx X2 W.heap.size [(.int .i64 1), (.int .i64 0), (.int .i64 0), (.slice none 0 0)] := (by rw [← hx1]; exact hq1.set 1 (.int .i64 0))
    have kg2 : X2.cell? ⟨W.heap.size, 2, none⟩ = some (.int .i64 0) := hq2.2.1 2 (by simp)
    have kh2 := hq2.2.2 2; have kl2 := hq2.1
    obtain ⟨X3, hx2⟩ : ∃ X3, X2.setCell ⟨W.heap.size, 2, none⟩ (.int .i64 (-1)) = X3 := ⟨_, rfl⟩
    have hq3 : Bx X3 W.heap.size [(.int .i64 1), (.int .i64 0), (.int .i64 (-1)), (.slice none 0 0)] := (by rw [← hx2]; exact hq2.set 2 (.int .i64 (-1)))
    have kg3 : X3.cell? ⟨W.heap.size, 3, none⟩ = some (.slice none 0 0) := hq3.2.1 3 (by simp)
    have kh3 := hq3.2.2 3; have kl3 := hq3.1
    obtain ⟨X4, hx3⟩ : ∃ X4, X3.setCell ⟨W.heap.size, 3, none⟩ (.slice none 0 0) = X4 := ⟨_, rfl⟩
    have hq4 : Bx X4 W.heap.size [(.int .i64 1), (.int .i64 0), (.int .i64 (-1)), (.slice none 0 0)] := (by rw [← hx3]; exact hq3.set 3 (.slice none 0 0))
    have ht0 := hk_st
    have ht1 : CkS p [.string ⟨p.name.toArray⟩, .int .i64 p.year, .slice a3 p.opts.length c3, .slice a4 p.tabs.length c4, .slice a5 p.grps.length c5, .slice a6 p.lns.length c6, .slice a7 p.cks.length c7] cb s X1 seen sv ∧ Fr cb W sv X1 sv := (by rw [← hx0]; exact ck_set ht0 hrb1 hrb2 hrb3 0 (.int .i64 1))
    have ht2 : CkS p [.string ⟨p.name.toArray⟩, .int .i64 p.year, .slice a3 p.opts.length c3, .slice a4 p.tabs.length c4, .slice a5 p.grps.length c5, .slice a6 p.lns.length c6, .slice a7 p.cks.length c7] cb s X2 seen sv ∧ Fr cb W sv X2 sv := (by rw [← hx1]; exact ck_set ht1 hrb1 hrb2 hrb3 1 (.int .i64 0))
    have ht3 : CkS p [.string ⟨p.name.toArray⟩, .int .i64 p.year, .slice a3 p.opts.length c3, .slice a4 p.tabs.length c4, .slice a5 p.grps.length c5, .slice a6 p.lns.length c6, .slice a7 p.cks.length c7] cb s X3 seen sv ∧ Fr cb W sv X3 sv := (by rw [← hx2]; exact ck_set ht2 hrb1 hrb2 hrb3 2 (.int .i64 (-1)))
    have ht4 : CkS p [.string ⟨p.name.toArray⟩, .int .i64 p.year, .slice a3 p.opts.length c3, .slice a4 p.tabs.length c4, .slice a5 p.grps.length c5, .slice a6 p.lns.length c6, .slice a7 p.cks.length c7] cb s X4 seen sv ∧ Fr cb W sv X4 sv := (by rw [← hx3]; exact ck_set ht3 hrb1 hrb2 hrb3 3 (.slice none 0 0))
    have hB5 : Below X4.heap.size X4 (X4.alloc (.cells #[.int .i64 1, .int .i64 0, .int .i64 (-1), .slice none 0 0] 105)) := ((Below.refl X4.heap.size X4).alloc (Nat.le_refl _) _)
    have hff : QQ (.returned (.tuple #[.agg #[.int .i64 1, .int .i64 0, .int .i64 (-1), .slice none 0 0], .int .i64 60])) (X4.alloc (.cells #[.int .i64 1, .int .i64 0, .int .i64 (-1), .slice none 0 0] 105)) := by
      rw [← hQH.out, hRH.out]
      exact ⟨rfl, sv, ht4.1.bel hB5, ht4.2.trans (Fr.bel hB5 _)⟩
    have hq5 := hq4.bel hB5 hq4.1
    have f0 := hq5.2.1 0 (by simp)
    have f1 := hq5.2.1 1 (by simp)
    have f2 := hq5.2.1 2 (by simp)
    have f3 := hq5.2.1 3 (by simp)
    have l4 := hq4.1
    clear hq0 hq1 hq2 hq3 hq4 hq5 ht0 ht1 ht2 ht3 ht4 hk_st hbr3
    go_wp2_with (go_at_call 96; refine (itemAt_any _ _ _).mono ?_; rintro e w9 ⟨rfl, rfl⟩)
    exact bodyPost_ret (v := .tuple #[.agg #[.int .i64 1, .int .i64 0, .int .i64 (-1), .slice none 0 0], .int .i64 60]) (by simp [results, Tryz.results80, go_sem, f0, f1, f2, f3]) rfl hff
  · rw [if_neg hb] at hR
    have hRH := Hid.mk hR.symm
    clear hR hk1 hbz
    go_enter Tryz.func80, Tryz.ntmps80
    go_wp2_with fail
    rw [← hW1H.out]
    refine hce.mono ?_
    clear hce
    rintro e w1 ⟨rfl, hb1⟩
    obtain ⟨hbr3, hk_st⟩ := hSt.out w1 hb1
    have hff : QQ (.returned (.tuple #[.agg #[.int .i64 0, .int .i64 0, .int .i64 0, .slice none 0 0], .int .i64 0])) w1 := by
      rw [← hQH.out, hRH.out]
      exact ⟨rfl, sv, hk_st.1, hk_st.2⟩
    have f0 := hbr3.2.1 0 (by simp)
    have z0 := hbr3.2.2 0
    have f1 := hbr3.2.1 1 (by simp)
    have z1 := hbr3.2.2 1
    have f2 := hbr3.2.1 2 (by simp)
    have z2 := hbr3.2.2 2
    have f3 := hbr3.2.1 3 (by simp)
    have z3 := hbr3.2.2 3
    have j0 := set_id f0
    have j1 := set_id f1
    have j2 := set_id f2
    have j3 := set_id f3
    clear hbr3 hk_st
    go_wp2
    exact bodyPost_ret (v := .tuple #[.agg #[.int .i64 0, .int .i64 0, .int .i64 0, .slice none 0 0], .int .i64 0]) (by simp at f0 f1 f2 f3; simp [results, Tryz.results80, go_sem, f0, f1, f2, f3]) rfl hff
end Go.Proofs.YthnmjafoplfikaaGreatDoor


namespace Go.Proofs.YthnmjafoplfikaaGreatDoor
open Go.RowKit

/-- What any part answers. -/
def StP (p : Pk) (pc : List Value) (cb s : Nat) (sv : Value) (R : Sn × Option (Sp × Nat)) (W : World) (e : Ending) (W' : World) : Prop := (match R.2 with
  | none => e = .returned (.tuple #[.agg #[.int .i64 0, .int .i64 0, .int .i64 0, .slice none 0 0], .int .i64 0])
  | some f => ∃ pv, e = .returned (.tuple #[.agg #[.int .i64 f.1.part, .int .i64 f.1.at_, .int .i64 f.1.clause, pv], .int .i64 (f.2 : Int)]) ∧ W'.ownsRow W.heap.size 3 1 pv f.1.path.length (ptC f.1.path)) ∧ ∃ sv', CkS p pc cb s W' R.1 sv' ∧ Fr cb W sv W' sv'
theorem pt_st {p : Pk} {pc : List Value} {cb s : Nat} {sv : Value} {R : Sn × Option (Sp × Nat)} {W : World} {e : Ending} {W' : World} (hp : ∀ f, R.2 = some f → f.1.path = []) (h : PtP p pc cb s sv R W e W') : StP p pc cb s sv R W e W' := by
  obtain ⟨s1, o⟩ := R
  obtain ⟨rfl, h2⟩ := h
  cases o with
  | none => exact ⟨rfl, h2⟩
  | some f =>
    have := hp f rfl
    exact ⟨⟨.slice none 0 0, rfl, by rw [this]; exact World.ownsRow_nil _ _ _ _⟩, h2⟩
theorem pe_st {p : Pk} {pc : List Value} {cb s : Nat} {sv : Value} {seen : Sn} {o : Option (Sp × Nat)} {W : World} {e : Ending} {W' : World} (h : PeP p pc cb s sv seen o W e W') : StP p pc cb s sv (seen, o) W e W' := ⟨h.1, sv, h.2.1, h.2.2⟩
/-- The parts in their order. -/
def stg (p : Pk) (k : Nat) (seen : Sn) : Sn × Option (Sp × Nat) := match k with
  | 0 => (seen, szF p)
  | 1 => (seen, hdF p)
  | 2 => ((frF opF p.opts 0 seen).1, itO 2 (frF opF p.opts 0 seen).2)
  | 3 => ((frF tbF p.tabs 0 seen).1, itO 3 (frF tbF p.tabs 0 seen).2)
  | 4 => ((frF gpF p.grps 0 seen).1, itO 4 (frF gpF p.grps 0 seen).2)
  | 5 => lsF p p.lns 0 seen
  | 6 => ((frF (ckF p) p.cks 0 seen).1, itO 6 (frF (ckF p) p.cks 0 seen).2)
  | 7 => (seen, celF p)
  | 8 => (seen, leF p p.lns 0)
  | _ => (seen, keF p p.cks 0)
def chR (p : Pk) : Nat → Sn → Option (Sp × Nat)
  | 0, _ => none
  | m + 1, s => match stg p (9 - m) s with
    | (_, some f) => some f
    | (s', none) => chR p m s'
/-- The first fault of a pack, or none. -/
def ckP (p : Pk) : Option (Sp × Nat) := chR p 10 []
theorem fr_len {α : Type} {f : α → Sn → Sn × Nat} {nm : α → List UInt8} (hf : ∀ x s, (f x s).1 = s ++ [nm x]) : ∀ (l : List α) (i : Nat) (s s' : Sn), frF f l i s = (s', none) → s'.length = s.length + l.length
  | [], i, s, s', h => by
    injection h with h
    subst h
    rfl
  | x :: l, i, s, s', h => by
    unfold frF at h
    rcases hx : f x s with ⟨s1, _ | e⟩
    · rw [hx] at h
      have h1 := fr_len hf l (i + 1) s1 s' h
      have h2 := hf x s
      rw [hx] at h2
      simp only at h2
      rw [h1, h2, List.length_append, List.length_singleton, List.length_cons]
      omega
    · rw [hx] at h
      injection h with _ h
      cases h
theorem ls_none (p : Pk) : ∀ (l : List Ln) (i : Nat) (s s' : Sn), lsF p l i s = (s', none) → s'.length = s.length + l.length ∧ ∀ y ∈ l, y.cls.length ≤ 6
  | [], i, s, s', h => by
    injection h with h
    subst h
    exact ⟨rfl, fun _ h => by cases h⟩
  | y :: l, i, s, s', h => by
    unfold lsF at h
    rcases hx : lnE p y s with ⟨s1, _ | e⟩
    · rw [hx] at h
      simp only at h
      cases hc : clF y.cls y.cls 0 with
      | some j =>
        rw [hc] at h
        injection h with _ h
        cases h
      | none =>
        rw [hc] at h
        have h1 := ls_none p l (i + 1) s1 s' h
        have h2 : (lnE p y s).1 = s ++ [y.name] := rfl
        rw [hx] at h2
        simp only at h2
        refine ⟨by rw [h1.1, h2, List.length_append, List.length_singleton, List.length_cons]; omega, fun z hz => ?_⟩
        rcases List.mem_cons.1 hz with rfl | hz
        · exact lnE_len hx
        · exact h1.2 z hz
    · rw [hx] at h
      injection h with _ h
      cases h
theorem ls_path (p : Pk) : ∀ (l : List Ln) (i : Nat) (s : Sn) (f : Sp × Nat), (lsF p l i s).2 = some f → f.1.path = []
  | [], i, s, f, h => by cases h
  | y :: l, i, s, f, h => by
    unfold lsF at h
    rcases hx : lnE p y s with ⟨s1, _ | e⟩
    · rw [hx] at h
      simp only at h
      cases hc : clF y.cls y.cls 0 with
      | some j =>
        rw [hc] at h
        injection h with h
        subst h
        rfl
      | none =>
        rw [hc] at h
        exact ls_path p l (i + 1) s1 f h
    · rw [hx] at h
      injection h with h
      subst h
      rfl
theorem sz_none {p : Pk} (h : szF p = none) : p.opts.length ≤ 4 ∧ p.tabs.length ≤ 4 ∧ p.grps.length ≤ 4 ∧ p.lns.length ≤ 48 ∧ p.cks.length ≤ 16 := by
  unfold szF at h
  by_cases h1 : 4 < p.opts.length
  · rw [if_pos h1] at h; cases h
  rw [if_neg h1] at h
  by_cases h2 : 4 < p.tabs.length
  · rw [if_pos h2] at h; cases h
  rw [if_neg h2] at h
  by_cases h3 : 4 < p.grps.length
  · rw [if_pos h3] at h; cases h
  rw [if_neg h3] at h
  by_cases h4 : p.lns.length < 1 ∨ 48 < p.lns.length
  · rw [if_pos h4] at h; cases h
  rw [if_neg h4] at h
  by_cases h5 : 16 < p.cks.length
  · rw [if_pos h5] at h; cases h
  omega
/-- What stands behind the first parts. -/
structure Cnd (p : Pk) (k : Nat) (seen : Sn) : Prop where
  sz : 1 ≤ k → szF p = none
  len : seen.length ≤ 48 * k
  cl : 6 ≤ k → ∀ y ∈ p.lns, y.cls.length ≤ 6
def fnOf (k : Nat) : Nat := [73, 74, 75, 76, 77, 78, 79, 80, 81, 82].getD k 0
theorem cnd_step {p : Pk} {k : Nat} {seen s' : Sn} (hk : k < 10) (h : Cnd p k seen) (hs : stg p k seen = (s', none)) : Cnd p (k + 1) s' := by
  have hl := h.len
  have same : s' = seen → szF p = none → (6 ≤ k + 1 → ∀ y ∈ p.lns, y.cls.length ≤ 6) → Cnd p (k + 1) s' := fun e hz hc => ⟨fun _ => hz, by rw [e]; omega, hc⟩
  have grow : ∀ n, s'.length = seen.length + n → n ≤ 48 → szF p = none → (6 ≤ k + 1 → ∀ y ∈ p.lns, y.cls.length ≤ 6) → Cnd p (k + 1) s' := fun n e hn hz hc => ⟨fun _ => hz, by rw [e]; omega, hc⟩
  rcases (show k = 0 ∨ k = 1 ∨ k = 2 ∨ k = 3 ∨ k = 4 ∨ k = 5 ∨ k = 6 ∨ k = 7 ∨ k = 8 ∨ k = 9 by omega) with rfl | rfl | rfl | rfl | rfl | rfl | rfl | rfl | rfl | rfl
  · injection hs with h1 h2
    exact same h1.symm h2 (fun h => by omega)
  · injection hs with h1 h2
    exact same h1.symm (h.sz (by decide)) (fun h => by omega)
  · injection hs with h1 h2
    have hz := h.sz (by decide)
    have hr : frF opF p.opts 0 seen = (s', none) := by
      rcases hf : frF opF p.opts 0 seen with ⟨a, _ | ie⟩
      · rw [hf] at h1; rw [← h1]
      · rw [hf] at h2; cases h2
    exact grow _ (fr_len (nm := fun x => x.1) (fun _ _ => rfl) _ _ _ _ hr) (by have := (sz_none hz).1; omega) hz (fun h => by omega)
  · injection hs with h1 h2
    have hz := h.sz (by decide)
    have hr : frF tbF p.tabs 0 seen = (s', none) := by
      rcases hf : frF tbF p.tabs 0 seen with ⟨a, _ | ie⟩
      · rw [hf] at h1; rw [← h1]
      · rw [hf] at h2; cases h2
    exact grow _ (fr_len (nm := fun x => x.1) (fun _ _ => rfl) _ _ _ _ hr) (by have := (sz_none hz).2.1; omega) hz (fun h => by omega)
  · injection hs with h1 h2
    have hz := h.sz (by decide)
    have hr : frF gpF p.grps 0 seen = (s', none) := by
      rcases hf : frF gpF p.grps 0 seen with ⟨a, _ | ie⟩
      · rw [hf] at h1; rw [← h1]
      · rw [hf] at h2; cases h2
    exact grow _ (fr_len (nm := fun x => x.1) (fun _ _ => rfl) _ _ _ _ hr) (by have := (sz_none hz).2.2.1; omega) hz (fun h => by omega)
  · have hz := h.sz (by decide)
    have hn := ls_none p p.lns 0 seen s' hs
    exact grow _ hn.1 (by have := (sz_none hz).2.2.2.1; omega) hz (fun _ => hn.2)
  · injection hs with h1 h2
    have hz := h.sz (by decide)
    have hr : frF (ckF p) p.cks 0 seen = (s', none) := by
      rcases hf : frF (ckF p) p.cks 0 seen with ⟨a, _ | ie⟩
      · rw [hf] at h1; rw [← h1]
      · rw [hf] at h2; cases h2
    exact grow _ (fr_len (nm := fun x => x.name) (fun _ _ => rfl) _ _ _ _ hr) (by have := (sz_none hz).2.2.2.2; omega) hz (fun _ => h.cl (by decide))
  · injection hs with h1 h2
    exact same h1.symm (h.sz (by decide)) (fun _ => h.cl (by decide))
  · injection hs with h1 h2
    exact same h1.symm (h.sz (by decide)) (fun _ => h.cl (by decide))
  · injection hs with h1 h2
    exact same h1.symm (h.sz (by decide)) (fun _ => h.cl (by decide))
theorem ito_path (n : Nat) (o : Option (Nat × Nat)) (f : Sp × Nat) (h : itO n o = some f) : f.1.path = [] := by
  cases o with
  | none => cases h
  | some ie =>
    injection h with h
    subst h
    rfl
theorem sz_path (p : Pk) (f : Sp × Nat) (h : szF p = some f) : f.1.path = [] := by
  unfold szF at h
  repeat (split at h; (injection h with h; subst h; rfl))
  cases h
theorem hd_path (p : Pk) (f : Sp × Nat) (h : hdF p = some f) : f.1.path = [] := by
  unfold hdF at h
  split at h
  · split at h
    · injection h with h; subst h; rfl
    · cases h
  · injection h with h; subst h; rfl
theorem ce_path (p : Pk) (f : Sp × Nat) (h : celF p = some f) : f.1.path = [] := by
  unfold celF at h
  split at h
  · injection h with h; subst h; rfl
  · cases h
theorem stage_any (p : Pk) (a3 a4 a5 a6 a7 : Option Addr) (c3 c4 c5 c6 c7 : Nat) (cb s k : Nat) (hk : k < 10) (W : World) (seen : Sn) (sv : Value) (h : CkS p [.string ⟨p.name.toArray⟩, .int .i64 p.year, .slice a3 p.opts.length c3, .slice a4 p.tabs.length c4, .slice a5 p.grps.length c5, .slice a6 p.lns.length c6, .slice a7 p.cks.length c7] cb s W seen sv) (hc : Cnd p k seen) (hz : SzP p) : Calls Tryz.prog (fnOf k) #[.pointer (some ⟨cb, 0, none⟩)] W (StP p [.string ⟨p.name.toArray⟩, .int .i64 p.year, .slice a3 p.opts.length c3, .slice a4 p.tabs.length c4, .slice a5 p.grps.length c5, .slice a6 p.lns.length c6, .slice a7 p.cks.length c7] cb s sv (stg p k seen) W) := by
  have hl := hc.len
  rcases (show k = 0 ∨ k = 1 ∨ k = 2 ∨ k = 3 ∨ k = 4 ∨ k = 5 ∨ k = 6 ∨ k = 7 ∨ k = 8 ∨ k = 9 by omega) with rfl | rfl | rfl | rfl | rfl | rfl | rfl | rfl | rfl | rfl
  · exact (sizP_any p a3 a4 a5 a6 a7 c3 c4 c5 c6 c7 cb s W seen sv h).mono (fun e w hh => pt_st (fun f hf => sz_path p f hf) hh)
  · exact (headP_any p a3 a4 a5 a6 a7 c3 c4 c5 c6 c7 cb s W seen sv h).mono (fun e w hh => pt_st (fun f hf => hd_path p f hf) hh)
  · exact (optP_any p a3 a4 a5 a6 a7 c3 c4 c5 c6 c7 cb s W seen sv h (by have := (sz_none (hc.sz (by decide))).1; omega)).mono (fun e w hh => pt_st (fun f hf => ito_path 2 _ f hf) hh)
  · exact (tabP_any p a3 a4 a5 a6 a7 c3 c4 c5 c6 c7 cb s W seen sv h (by have := (sz_none (hc.sz (by decide))).2.1; omega)).mono (fun e w hh => pt_st (fun f hf => ito_path 3 _ f hf) hh)
  · exact (grpP_any p a3 a4 a5 a6 a7 c3 c4 c5 c6 c7 cb s W seen sv h (by have := (sz_none (hc.sz (by decide))).2.2.1; omega)).mono (fun e w hh => pt_st (fun f hf => ito_path 4 _ f hf) hh)
  · exact (linP_any p a3 a4 a5 a6 a7 c3 c4 c5 c6 c7 cb s W seen sv h (by have := (sz_none (hc.sz (by decide))).2.2.2.1; omega)).mono (fun e w hh => pt_st (fun f hf => ls_path p _ _ _ f hf) hh)
  · exact (chkP_any p a3 a4 a5 a6 a7 c3 c4 c5 c6 c7 cb s W seen sv h (by have := (sz_none (hc.sz (by decide))).2.2.2.2; omega)).mono (fun e w hh => pt_st (fun f hf => ito_path 6 _ f hf) hh)
  · have h1 := sz_none (hc.sz (by decide))
    exact (cellP_any p a3 a4 a5 a6 a7 c3 c4 c5 c6 c7 cb s W seen sv h (by omega) (by omega) (by omega)).mono (fun e w hh => pt_st (fun f hf => ce_path p f hf) hh)
  · have h1 := sz_none (hc.sz (by decide))
    exact (leP_any p a3 a4 a5 a6 a7 c3 c4 c5 c6 c7 cb s W seen sv h (by omega) (fun l hm => by have := hc.cl (by decide) l hm; omega) (fun l hm c hcm => (hz.lns.2 l hm).2.2 c hcm)).mono (fun e w hh => pe_st hh)
  · have h1 := sz_none (hc.sz (by decide))
    exact (keP_any p a3 a4 a5 a6 a7 c3 c4 c5 c6 c7 cb s W seen sv h (by omega) (fun k hm => (hz.cks.2 k hm).2.2)).mono (fun e w hh => pe_st hh)
end Go.Proofs.YthnmjafoplfikaaGreatDoor
