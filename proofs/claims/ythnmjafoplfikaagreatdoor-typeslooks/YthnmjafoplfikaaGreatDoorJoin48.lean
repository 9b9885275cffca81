import Derived.Test.YthnmjafoplfikaaGreatDoorJoin43
import Derived.Test.YthnmjafoplfikaaGreatDoorJoin42
import Derived.Test.YthnmjafoplfikaaGreatDoorJoin45
namespace Go.Proofs.YthnmjafoplfikaaGreatDoor
open Go.RowKit

set_option maxRecDepth 20000 in
set_option maxHeartbeats 2000000 in
theorem isClause_any (l : List Cl) (a : Option Addr) (c i : Nat) (hi : i < l.length) (W : World) (hR : RowR eC W AnyB l a) (hl : l.length ≤ 1000000) (hlc : l.length ≤ c) : Calls Tryz.prog 108 #[.slice a l.length c, .int .i64 (i : Int)] W (Lk (.bool (clB l i l[i])) W) := by
  obtain ⟨ge, oe, rfl⟩ := hR.some hi
  obtain ⟨cs, -, -, ⟨a1y, c1y, a2y, c2y, rfl, -⟩, hcs⟩ := hR.item hi
  have kx : W.cell? ⟨ge, oe + i * 12, none⟩ = some (.int .i64 l[i].pri) ∧ W.cell? ⟨ge, oe + i * 12 + 1, none⟩ = some (.bool l[i].guarded) ∧ W.cell? ⟨ge, oe + i * 12 + 2, none⟩ = some (.int .i64 l[i].guard.op) ∧ W.cell? ⟨ge, oe + i * 12 + 3, none⟩ = some (.int .i64 l[i].guard.num) ∧ W.cell? ⟨ge, oe + i * 12 + 4, none⟩ = some (.int .i64 l[i].guard.den) ∧ W.cell? ⟨ge, oe + i * 12 + 5, none⟩ = some (.int .i64 l[i].guard.mode) ∧ W.cell? ⟨ge, oe + i * 12 + 6, none⟩ = some (.slice a1y l[i].guard.args.len c1y) ∧ W.cell? ⟨ge, oe + i * 12 + 7, none⟩ = some (.int .i64 l[i].body.op) ∧ W.cell? ⟨ge, oe + i * 12 + 8, none⟩ = some (.int .i64 l[i].body.num) ∧ W.cell? ⟨ge, oe + i * 12 + 9, none⟩ = some (.int .i64 l[i].body.den) ∧ W.cell? ⟨ge, oe + i * 12 + 10, none⟩ = some (.int .i64 l[i].body.mode) ∧ W.cell? ⟨ge, oe + i * 12 + 11, none⟩ = some (.slice a2y l[i].body.args.len c2y) := ⟨hcs 0 (by decide), hcs 1 (by decide), hcs 2 (by decide), hcs 3 (by decide), hcs 4 (by decide), hcs 5 (by decide), hcs 6 (by decide), hcs 7 (by decide), hcs 8 (by decide), hcs 9 (by decide), hcs 10 (by decide), hcs 11 (by decide)⟩
  have hbd : clB l i l[i] = (if i = 0 then decide (l[i].pri = 0) && !l[i].guarded && zrB l[i].guard else (l.take i).all (fun a => decide (a.pri ≠ l[i].pri)) && l[i].guarded && decide (1 ≤ l[i].pri) && decide (l[i].pri ≤ 9)) := rfl
  have hi' : (i : Int) < (l.length : Int) := by omega
  have hi0 : (0 : Int) ≤ (i : Int) := by omega
  generalize l[i] = y at kx hbd ⊢
  obtain ⟨R, hRe⟩ : ∃ R, R = clB l i y := ⟨_, rfl⟩
  rw [← hRe] at hbd ⊢
  clear hRe hcs
  obtain ⟨d0, d1, d2, d3, d4, d5, d6, d7, d8, d9, d10, d11⟩ := kx
  have hq := bx_new W #[.int .i64 y.pri, .bool y.guarded, .int .i64 y.guard.op, .int .i64 y.guard.num, .int .i64 y.guard.den, .int .i64 y.guard.mode, .slice a1y y.guard.args.len c1y, .int .i64 y.body.op, .int .i64 y.body.num, .int .i64 y.body.den, .int .i64 y.body.mode, .slice a2y y.body.args.len c2y] 80
  have hB2 : Below W.heap.size W (W.alloc (.cells #[.int .i64 y.pri, .bool y.guarded, .int .i64 y.guard.op, .int .i64 y.guard.num, .int .i64 y.guard.den, .int .i64 y.guard.mode, .slice a1y y.guard.args.len c1y, .int .i64 y.body.op, .int .i64 y.body.num, .int .i64 y.body.den, .int .i64 y.body.mode, .slice a2y y.body.args.len c2y] 80)) := (Below.refl _ _).alloc (Nat.le_refl _) _
  by_cases h0 : i = 0
  · rw [if_pos h0] at hbd
    subst h0
    simp only [Nat.zero_mul, Nat.add_zero] at d0 d1 d2 d3 d4 d5 d6 d7 d8 d9 d10 d11
    have hzr := fun X => isZero_any y.guard a1y c1y X
    clear hR
    by_cases hp : y.pri = 0
    rotate_left
    · have hp' : (y.pri == 0) = false := beq_eq_false_iff_ne.2 hp
      rw [decide_eq_false hp, Bool.false_and, Bool.false_and] at hbd
      subst hbd
      go_enter Tryz.func108, Tryz.ntmps108
      go_wp2
      go_ret
      exact ⟨rfl, hB2⟩
    · have hp' : (y.pri == 0) = true := by simp; exact hp
      rw [decide_eq_true hp, Bool.true_and] at hbd
      clear hp
      cases hg : y.guarded with
      | true =>
        rw [hg] at hbd d1 hq hB2
        simp only [Bool.not_true, Bool.false_and] at hbd
        subst hbd
        clear hg
        go_enter Tryz.func108, Tryz.ntmps108
        go_wp2
        go_ret
        exact ⟨rfl, hB2⟩
      | false =>
        rw [hg] at hbd d1 hq hB2
        simp only [Bool.not_false, Bool.true_and] at hbd
        clear hg
        subst hbd
        go_enter Tryz.func108, Tryz.ntmps108
        go_wp2_with (go_at_call 128; refine (hzr _).mono ?_; rintro e w1 ⟨rfl, hb1⟩; have hb3 := bthr hB2 hb1 (Nat.le_refl _))
        go_ret
        exact ⟨rfl, hb3⟩
  · rw [if_neg h0] at hbd
    have h0' : ((i : Int) == 0) = false := by simp; omega
    have hbdH := Hid.mk hbd
    obtain ⟨W2, hW2⟩ : ∃ W2, W2 = W.alloc (.cells #[.int .i64 y.pri, .bool y.guarded, .int .i64 y.guard.op, .int .i64 y.guard.num, .int .i64 y.guard.den, .int .i64 y.guard.mode, .slice a1y y.guard.args.len c1y, .int .i64 y.body.op, .int .i64 y.body.num, .int .i64 y.body.den, .int .i64 y.body.mode, .slice a2y y.body.args.len c2y] 80) := ⟨_, rfl⟩
    rw [← hW2] at hq hB2
    have hW2H := Hid.mk hW2
    have hic : (i : Int) ≤ (c : Int) := by omega
    clear hbd hW2
    go_enter Tryz.func108, Tryz.ntmps108
    go_wp2
    rw [← hW2H.out]
    clear hW2H d0 d1 d2 d3 d4 d5 d6 d7 d8 d9 d10 d11
    go_loopw [31] (fun iv wr => ∃ j : Nat, iv = .int .i64 (j : Int) ∧ j ≤ i ∧ Below W2.heap.size W2 wr ∧ Hid (∀ k (h : k < l.length), k < j → l[k].pri ≠ y.pri)) (fun iv _ => i - (intOf iv).toNat)
    case atStart => exact ⟨0, rfl, Nat.zero_le _, Below.refl _ _, ⟨fun j _ h => absurd h (Nat.not_lt_zero _)⟩⟩
    case round =>
      obtain ⟨j, rfl, hj, hBr, hall⟩ := hrel
      have hqr := hq.bel hBr hq.1
      have q0 := hqr.2.1 0 (by simp)
      have q1 := hqr.2.1 1 (by simp)
      have hlr : W.heap.size < wr.heap.size := hqr.1
      have hBw := bthr hB2 hBr (Nat.le_refl _)
      by_cases hlt : j < i
      · have hlt' : (j : Int) < (i : Int) := by omega
        have hj0 : (0 : Int) ≤ (j : Int) := by omega
        have hjl : j < l.length := by omega
        obtain ⟨cs, -, -, ⟨a1z, c1z, a2z, c2z, rfl, -⟩, hcs⟩ := (row_bel hR hBw (Nat.le_refl _)).item hjl
        have kx : wr.cell? ⟨ge, oe + j * 12, none⟩ = some (.int .i64 l[j].pri) ∧ wr.cell? ⟨ge, oe + j * 12 + 1, none⟩ = some (.bool l[j].guarded) ∧ wr.cell? ⟨ge, oe + j * 12 + 2, none⟩ = some (.int .i64 l[j].guard.op) ∧ wr.cell? ⟨ge, oe + j * 12 + 3, none⟩ = some (.int .i64 l[j].guard.num) ∧ wr.cell? ⟨ge, oe + j * 12 + 4, none⟩ = some (.int .i64 l[j].guard.den) ∧ wr.cell? ⟨ge, oe + j * 12 + 5, none⟩ = some (.int .i64 l[j].guard.mode) ∧ wr.cell? ⟨ge, oe + j * 12 + 6, none⟩ = some (.slice a1z l[j].guard.args.len c1z) ∧ wr.cell? ⟨ge, oe + j * 12 + 7, none⟩ = some (.int .i64 l[j].body.op) ∧ wr.cell? ⟨ge, oe + j * 12 + 8, none⟩ = some (.int .i64 l[j].body.num) ∧ wr.cell? ⟨ge, oe + j * 12 + 9, none⟩ = some (.int .i64 l[j].body.den) ∧ wr.cell? ⟨ge, oe + j * 12 + 10, none⟩ = some (.int .i64 l[j].body.mode) ∧ wr.cell? ⟨ge, oe + j * 12 + 11, none⟩ = some (.slice a2z l[j].body.args.len c2z) := ⟨hcs 0 (by decide), hcs 1 (by decide), hcs 2 (by decide), hcs 3 (by decide), hcs 4 (by decide), hcs 5 (by decide), hcs 6 (by decide), hcs 7 (by decide), hcs 8 (by decide), hcs 9 (by decide), hcs 10 (by decide), hcs 11 (by decide)⟩
        have hst : Hid (l[j].pri ≠ y.pri → ∀ k (h : k < l.length), k < j + 1 → l[k].pri ≠ y.pri) := ⟨fun he k h hk => by
          by_cases hkj : k < j
          · exact hall.out k h hkj
          · obtain rfl : k = j := by omega
            exact he⟩
        have hno : Hid (l[j].pri = y.pri → R = false) := ⟨fun he => by
          rw [hbdH.out]
          have : (l.take i).all (fun a => decide (a.pri ≠ y.pri)) = false := by
            cases hq : (l.take i).all (fun a => decide (a.pri ≠ y.pri)) with
            | false => rfl
            | true =>
              have := List.all_eq_true.1 hq _ (List.mem_iff_getElem.2 ⟨j, by rw [List.length_take]; omega, List.getElem_take⟩)
              rw [decide_eq_true_eq] at this
              exact absurd he this
          rw [this, Bool.false_and, Bool.false_and, Bool.false_and]⟩
        generalize l[j] = z at kx hst hno
        have hal : Below W2.heap.size W2 (wr.alloc (.cells #[.int .i64 z.pri, .bool z.guarded, .int .i64 z.guard.op, .int .i64 z.guard.num, .int .i64 z.guard.den, .int .i64 z.guard.mode, .slice a1z z.guard.args.len c1z, .int .i64 z.body.op, .int .i64 z.body.num, .int .i64 z.body.den, .int .i64 z.body.mode, .slice a2z z.body.args.len c2z] 80)) := hBr.alloc hBr.size _
        obtain ⟨d0, d1, d2, d3, d4, d5, d6, d7, d8, d9, d10, d11⟩ := kx
        clear hcs hall hR
        by_cases hpz : z.pri = y.pri
        · have hf := hno.out hpz
          subst hf
          have hpz' : (z.pri == y.pri) = true := by simp; exact hpz
          clear hno hst hpz
          go_wp2
          go_ret
          exact ⟨rfl, bthr hB2 hal (Nat.le_refl _)⟩
        · have hs2 := Hid.mk (hst.out hpz)
          have hpz' : (z.pri == y.pri) = false := beq_eq_false_iff_ne.2 hpz
          clear hno hst hpz
          go_wp2
          exact ⟨⟨j + 1, rfl, hlt, hal, hs2⟩, by simp only [intOf]; omega⟩
      · have hlt' : ¬ (j : Int) < (i : Int) := by omega
        have hbd := hbdH.out
        have hta : (l.take i).all (fun a => decide (a.pri ≠ y.pri)) = true := List.all_eq_true.2 (fun a ha => by
          obtain ⟨k, hk, rfl⟩ := List.mem_iff_getElem.1 ha
          rw [List.length_take] at hk
          rw [List.getElem_take, decide_eq_true_eq]
          exact hall.out k (by omega) (by omega))
        rw [hta, Bool.true_and] at hbd
        clear hall hta hbdH hR
        cases hg : y.guarded with
        | false =>
          rw [hg] at hbd q1
          simp only [Bool.false_and] at hbd
          subst hbd
          clear hg
          go_wp2
          go_ret
          exact ⟨rfl, hBw⟩
        | true =>
          rw [hg] at hbd q1
          simp only [Bool.true_and] at hbd
          clear hg
          by_cases hp : 1 ≤ y.pri
          · rw [decide_eq_true hp, Bool.true_and] at hbd
            subst hbd
            go_wp2
            go_ret
            exact ⟨rfl, hBw⟩
          · rw [decide_eq_false hp, Bool.false_and] at hbd
            have hp' : y.pri < 1 := by omega
            subst hbd
            go_wp2
            go_ret
            exact ⟨rfl, hBw⟩
end Go.Proofs.YthnmjafoplfikaaGreatDoor


namespace Go.Proofs.YthnmjafoplfikaaGreatDoor
open Go.RowKit

set_option maxRecDepth 20000 in
set_option maxHeartbeats 2000000 in
theorem line_any (p : Pk) (a3 a4 a5 a6 a7 : Option Addr) (c3 c4 c5 c6 c7 : Nat) (cb s : Nat) (l : Ln) (an : Option Addr) (cn : Nat) (W : World) (seen : Sn) (sv : Value) (h : CkS p (scP p a3 a4 a5 a6 a7 c3 c4 c5 c6 c7) cb s W seen sv) (hl : seen.length ≤ 1000000)  : Calls Tryz.prog 107 #[.pointer (some ⟨cb, 0, none⟩), .agg #[.string ⟨l.name.toArray⟩, .bool l.input, .bool l.must, .int .i64 l.type, .int .i64 l.opts, .int .i64 l.group, .slice an l.cls.length cn]] W (NmP p (scP p a3 a4 a5 a6 a7 c3 c4 c5 c6 c7) cb s sv (lnE p l seen) W) := by
  obtain ⟨W1, hW1⟩ : ∃ W1, W1 = W.alloc (.cells #[.string ⟨l.name.toArray⟩, .bool l.input, .bool l.must, .int .i64 l.type, .int .i64 l.opts, .int .i64 l.group, .slice an l.cls.length cn] 78) := ⟨_, rfl⟩
  have hB1 : Below W.heap.size W W1 := by rw [hW1]; exact (Below.refl _ _).alloc (Nat.le_refl _) _
  have hbx : Bx W1 W.heap.size [.string ⟨l.name.toArray⟩, .bool l.input, .bool l.must, .int .i64 l.type, .int .i64 l.opts, .int .i64 l.group, .slice an l.cls.length cn] := by rw [hW1]; exact bx_new _ _ _
  have hk1 := h.bel hB1
  have b0 := hbx.2.1 0 (by simp)
  have hnm := name_any p (scP p a3 a4 a5 a6 a7 c3 c4 c5 c6 c7) cb s l.name W1 seen sv hk1 hl
  have hcb := h.lt
  have hne1 : W.heap.size ≠ cb := by omega
  have hne2 : some W.heap.size ≠ sv.ownBlock := fun e => by
    have := (h.pg _ e.symm).2
    omega
  have hrf : lnE p l seen = (seen ++ [l.name], (lnE p l seen).2) := rfl
  obtain ⟨r, hr⟩ : ∃ r, (lnE p l seen).2 = r := ⟨_, rfl⟩
  rw [hr] at hrf
  rw [hrf]
  clear hrf
  have hra : ∀ n0 : Nat, nwN l.name seen = n0 → r = (match n0 with
    | 0 => if tyB p l then (if inG p l.group then (if l.input then (if l.cls.length > 0 then 65 else 0) else if l.cls.length < 1 ∨ 6 < l.cls.length then 65 else 0) else 64) else 65
    | e + 1 => e + 1) := by
    rintro _ rfl
    exact hr.symm
  obtain ⟨n0, hn0⟩ : ∃ n0, nwN l.name seen = n0 := ⟨_, rfl⟩
  have hrr := hra n0 hn0
  rw [hn0] at hnm
  clear hra
  have hW1H := Hid.mk hW1
  have hrH := Hid.mk hrr
  have hbxH := Hid.mk hbx
  clear hW1 hr hn0 hrr hbx
  go_enter Tryz.func107, Tryz.ntmps107
  go_wp2_with fail
  rw [← hW1H.out]
  clear hW1H
  cases n0 with
  | succ n1 =>
    have hr1 := hrH.out
    simp only at hr1
    subst hr1
    have hs1 : (((n1 + 1 : Nat) : Int) != 0) = true := by simp; omega
    go_wp2_with (go_at_call 100; refine hnm.mono ?_; clear hnm; rintro e w2 ⟨rfl, sv2, hk2, hF2⟩; have hff : NmP p (scP p a3 a4 a5 a6 a7 c3 c4 c5 c6 c7) cb s sv (seen ++ [l.name], n1 + 1) W (.returned (.int .i64 ((n1 + 1 : Nat) : Int))) w2 := ⟨rfl, sv2, hk2, (Fr.bel hB1 _).trans hF2⟩)
    go_ret
    exact hff
  | zero =>
    have hr1 := hrH.out
    simp only at hr1
    have hr1H := Hid.mk hr1
    clear hr1 hrH
    have hIn : Hid (∀ w3 sv2, CkS p (scP p a3 a4 a5 a6 a7 c3 c4 c5 c6 c7) cb s w3 (seen ++ [l.name]) sv2 → Calls Tryz.prog 111 #[.pointer (some ⟨cb, 0, none⟩), .int .i64 l.group] w3 (Lk (.bool (inG p l.group)) w3)) := ⟨fun w3 sv2 hk3 => inGroup_any p a3 a4 a5 a6 a7 c3 c4 c5 c6 c7 cb s l.group w3 _ sv2 hk3⟩
    have hTy : Hid (∀ w2 sv2, CkS p (scP p a3 a4 a5 a6 a7 c3 c4 c5 c6 c7) cb s w2 (seen ++ [l.name]) sv2 → Calls Tryz.prog 127 #[.pointer (some ⟨cb, 0, none⟩), .agg #[.string ⟨l.name.toArray⟩, .bool l.input, .bool l.must, .int .i64 l.type, .int .i64 l.opts, .int .i64 l.group, .slice an l.cls.length cn]] w2 (Lk (.bool (tyB p l)) w2)) := ⟨fun w2 sv2 hk2 => isTyped_any p a3 a4 a5 a6 a7 c3 c4 c5 c6 c7 cb s l an cn w2 _ sv2 hk2⟩
    have hr2 := hr1H.out
    obtain ⟨tb, htb⟩ : ∃ tb, tyB p l = tb := ⟨_, rfl⟩
    obtain ⟨gb, hgb⟩ : ∃ gb, inG p l.group = gb := ⟨_, rfl⟩
    rw [hgb] at hIn hr2
    rw [htb] at hTy hr2
    clear hgb htb hr1H
    cases tb with
    | false =>
      simp only [Bool.false_eq_true, if_false] at hr2
      have hr2H := Hid.mk hr2
      clear hr2
      go_wp2_with (first | (go_at_call 100; refine hnm.mono ?_; clear hnm; rintro e w2 ⟨rfl, sv2, hk2, hF2⟩; have hbx2 := hF2.box hbxH.out hne1 hne2; have b0 := hbx2.2.1 0 (by simp); have b1 := hbx2.2.1 1 (by simp); have b2 := hbx2.2.1 2 (by simp); have b3 := hbx2.2.1 3 (by simp); have b4 := hbx2.2.1 4 (by simp); have b5 := hbx2.2.1 5 (by simp); have b6 := hbx2.2.1 6 (by simp); have hfin : Hid (∀ w3, Below w2.heap.size w2 w3 → NmP p (scP p a3 a4 a5 a6 a7 c3 c4 c5 c6 c7) cb s sv (seen ++ [l.name], r) W (.returned (.int .i64 (r : Int))) w3) := ⟨fun w3 h3 => ⟨rfl, sv2, hk2.bel h3, ((Fr.bel hB1 _).trans hF2).trans (Fr.bel h3 _)⟩⟩) | (go_at_call 127; refine (hTy.out w2 sv2 hk2).mono ?_; rintro e w3 ⟨rfl, hb3⟩; have hk3 := hk2.bel hb3; have hbx3 := hbx2.bel hb3 hbx2.1; have d5 := hbx3.2.1 5 (by simp)))
      have hff := hfin.out w3 hb3
      rw [hr2H.out] at hff ⊢
      go_ret
      exact hff
    | true =>
      simp only [if_true] at hr2
      cases gb with
      | false =>
        simp only [Bool.false_eq_true, if_false] at hr2
        have hr2H := Hid.mk hr2
        clear hr2
        go_wp2_with (first | (go_at_call 100; refine hnm.mono ?_; clear hnm; rintro e w2 ⟨rfl, sv2, hk2, hF2⟩; have hbx2 := hF2.box hbxH.out hne1 hne2; have b0 := hbx2.2.1 0 (by simp); have b1 := hbx2.2.1 1 (by simp); have b2 := hbx2.2.1 2 (by simp); have b3 := hbx2.2.1 3 (by simp); have b4 := hbx2.2.1 4 (by simp); have b5 := hbx2.2.1 5 (by simp); have b6 := hbx2.2.1 6 (by simp); have hfin : Hid (∀ w3, Below w2.heap.size w2 w3 → NmP p (scP p a3 a4 a5 a6 a7 c3 c4 c5 c6 c7) cb s sv (seen ++ [l.name], r) W (.returned (.int .i64 (r : Int))) w3) := ⟨fun w3 h3 => ⟨rfl, sv2, hk2.bel h3, ((Fr.bel hB1 _).trans hF2).trans (Fr.bel h3 _)⟩⟩) | (go_at_call 127; refine (hTy.out w2 sv2 hk2).mono ?_; rintro e w3 ⟨rfl, hb3⟩; have hk3 := hk2.bel hb3; have hbx3 := hbx2.bel hb3 hbx2.1; have d5 := hbx3.2.1 5 (by simp)) | (go_at_call 111; refine (hIn.out w3 sv2 hk3).mono ?_; rintro e w4 ⟨rfl, hb4⟩; have hbx4 := hbx3.bel hb4 hbx3.1; have f1 := hbx4.2.1 1 (by simp); have f6 := hbx4.2.1 6 (by simp)))
        have hff := hfin.out w4 (bthr hb3 hb4 (Nat.le_refl _))
        rw [hr2H.out] at hff ⊢
        go_ret
        exact hff
      | true =>
        simp only [if_true] at hr2
        obtain ⟨ib, hib⟩ : ∃ ib, l.input = ib := ⟨_, rfl⟩
        rw [hib] at hr2
        have hibH := Hid.mk hib
        clear hib
        cases ib with
        | true =>
          simp only [if_true] at hr2
          by_cases hn : l.cls.length > 0
          · have hn' : (0 : Int) < (l.cls.length : Int) := by omega
            have hn2 : 0 < l.cls.length := hn
            rw [if_pos hn] at hr2
            have hr2H := Hid.mk hr2
            clear hr2 hn
            go_wp2_with (first | (go_at_call 100; refine hnm.mono ?_; clear hnm; rintro e w2 ⟨rfl, sv2, hk2, hF2⟩; have hbx2 := hF2.box hbxH.out hne1 hne2; have b0 := hbx2.2.1 0 (by simp); have b1 := hbx2.2.1 1 (by simp); have b2 := hbx2.2.1 2 (by simp); have b3 := hbx2.2.1 3 (by simp); have b4 := hbx2.2.1 4 (by simp); have b5 := hbx2.2.1 5 (by simp); have b6 := hbx2.2.1 6 (by simp); have hfin : Hid (∀ w3, Below w2.heap.size w2 w3 → NmP p (scP p a3 a4 a5 a6 a7 c3 c4 c5 c6 c7) cb s sv (seen ++ [l.name], r) W (.returned (.int .i64 (r : Int))) w3) := ⟨fun w3 h3 => ⟨rfl, sv2, hk2.bel h3, ((Fr.bel hB1 _).trans hF2).trans (Fr.bel h3 _)⟩⟩) | (go_at_call 127; refine (hTy.out w2 sv2 hk2).mono ?_; rintro e w3 ⟨rfl, hb3⟩; have hk3 := hk2.bel hb3; have hbx3 := hbx2.bel hb3 hbx2.1; have d5 := hbx3.2.1 5 (by simp)) | (go_at_call 111; refine (hIn.out w3 sv2 hk3).mono ?_; rintro e w4 ⟨rfl, hb4⟩; have hbx4 := hbx3.bel hb4 hbx3.1; have f1 := hbx4.2.1 1 (by simp); have f6 := hbx4.2.1 6 (by simp); rw [hibH.out] at f1))
            have hff := hfin.out w4 (bthr hb3 hb4 (Nat.le_refl _))
            rw [hr2H.out] at hff ⊢
            go_ret
            exact hff
          · have hn' : decide ((0 : Int) < (l.cls.length : Int)) = false := decide_eq_false (by omega)
            have hn2 : decide (0 < l.cls.length) = false := decide_eq_false (by omega)
            rw [if_neg hn] at hr2
            have hr2H := Hid.mk hr2
            clear hr2 hn
            go_wp2_with (first | (go_at_call 100; refine hnm.mono ?_; clear hnm; rintro e w2 ⟨rfl, sv2, hk2, hF2⟩; have hbx2 := hF2.box hbxH.out hne1 hne2; have b0 := hbx2.2.1 0 (by simp); have b1 := hbx2.2.1 1 (by simp); have b2 := hbx2.2.1 2 (by simp); have b3 := hbx2.2.1 3 (by simp); have b4 := hbx2.2.1 4 (by simp); have b5 := hbx2.2.1 5 (by simp); have b6 := hbx2.2.1 6 (by simp); have hfin : Hid (∀ w3, Below w2.heap.size w2 w3 → NmP p (scP p a3 a4 a5 a6 a7 c3 c4 c5 c6 c7) cb s sv (seen ++ [l.name], r) W (.returned (.int .i64 (r : Int))) w3) := ⟨fun w3 h3 => ⟨rfl, sv2, hk2.bel h3, ((Fr.bel hB1 _).trans hF2).trans (Fr.bel h3 _)⟩⟩) | (go_at_call 127; refine (hTy.out w2 sv2 hk2).mono ?_; rintro e w3 ⟨rfl, hb3⟩; have hk3 := hk2.bel hb3; have hbx3 := hbx2.bel hb3 hbx2.1; have d5 := hbx3.2.1 5 (by simp)) | (go_at_call 111; refine (hIn.out w3 sv2 hk3).mono ?_; rintro e w4 ⟨rfl, hb4⟩; have hbx4 := hbx3.bel hb4 hbx3.1; have f1 := hbx4.2.1 1 (by simp); have f6 := hbx4.2.1 6 (by simp); rw [hibH.out] at f1))
            have hff := hfin.out w4 (bthr hb3 hb4 (Nat.le_refl _))
            rw [hr2H.out] at hff ⊢
            go_ret
            exact hff
        | false =>
          simp only [Bool.false_eq_true, if_false] at hr2
          by_cases hn : l.cls.length < 1
          · have hn' : (l.cls.length : Int) < 1 := by omega
            rw [if_pos (.inl hn)] at hr2
            have hr2H := Hid.mk hr2
            clear hr2
            go_wp2_with (first | (go_at_call 100; refine hnm.mono ?_; clear hnm; rintro e w2 ⟨rfl, sv2, hk2, hF2⟩; have hbx2 := hF2.box hbxH.out hne1 hne2; have b0 := hbx2.2.1 0 (by simp); have b1 := hbx2.2.1 1 (by simp); have b2 := hbx2.2.1 2 (by simp); have b3 := hbx2.2.1 3 (by simp); have b4 := hbx2.2.1 4 (by simp); have b5 := hbx2.2.1 5 (by simp); have b6 := hbx2.2.1 6 (by simp); have hfin : Hid (∀ w3, Below w2.heap.size w2 w3 → NmP p (scP p a3 a4 a5 a6 a7 c3 c4 c5 c6 c7) cb s sv (seen ++ [l.name], r) W (.returned (.int .i64 (r : Int))) w3) := ⟨fun w3 h3 => ⟨rfl, sv2, hk2.bel h3, ((Fr.bel hB1 _).trans hF2).trans (Fr.bel h3 _)⟩⟩) | (go_at_call 127; refine (hTy.out w2 sv2 hk2).mono ?_; rintro e w3 ⟨rfl, hb3⟩; have hk3 := hk2.bel hb3; have hbx3 := hbx2.bel hb3 hbx2.1; have d5 := hbx3.2.1 5 (by simp)) | (go_at_call 111; refine (hIn.out w3 sv2 hk3).mono ?_; rintro e w4 ⟨rfl, hb4⟩; have hbx4 := hbx3.bel hb4 hbx3.1; have f1 := hbx4.2.1 1 (by simp); have f6 := hbx4.2.1 6 (by simp); rw [hibH.out] at f1))
            have hff := hfin.out w4 (bthr hb3 hb4 (Nat.le_refl _))
            rw [hr2H.out] at hff ⊢
            go_ret
            exact hff
          · have hn' : ¬ (l.cls.length : Int) < 1 := by omega
            by_cases hm : 6 < l.cls.length
            · have hm' : (6 : Int) < (l.cls.length : Int) := by omega
              rw [if_pos (.inr hm)] at hr2
              have hr2H := Hid.mk hr2
              clear hr2
              go_wp2_with (first | (go_at_call 100; refine hnm.mono ?_; clear hnm; rintro e w2 ⟨rfl, sv2, hk2, hF2⟩; have hbx2 := hF2.box hbxH.out hne1 hne2; have b0 := hbx2.2.1 0 (by simp); have b1 := hbx2.2.1 1 (by simp); have b2 := hbx2.2.1 2 (by simp); have b3 := hbx2.2.1 3 (by simp); have b4 := hbx2.2.1 4 (by simp); have b5 := hbx2.2.1 5 (by simp); have b6 := hbx2.2.1 6 (by simp); have hfin : Hid (∀ w3, Below w2.heap.size w2 w3 → NmP p (scP p a3 a4 a5 a6 a7 c3 c4 c5 c6 c7) cb s sv (seen ++ [l.name], r) W (.returned (.int .i64 (r : Int))) w3) := ⟨fun w3 h3 => ⟨rfl, sv2, hk2.bel h3, ((Fr.bel hB1 _).trans hF2).trans (Fr.bel h3 _)⟩⟩) | (go_at_call 127; refine (hTy.out w2 sv2 hk2).mono ?_; rintro e w3 ⟨rfl, hb3⟩; have hk3 := hk2.bel hb3; have hbx3 := hbx2.bel hb3 hbx2.1; have d5 := hbx3.2.1 5 (by simp)) | (go_at_call 111; refine (hIn.out w3 sv2 hk3).mono ?_; rintro e w4 ⟨rfl, hb4⟩; have hbx4 := hbx3.bel hb4 hbx3.1; have f1 := hbx4.2.1 1 (by simp); have f6 := hbx4.2.1 6 (by simp); rw [hibH.out] at f1))
              have hff := hfin.out w4 (bthr hb3 hb4 (Nat.le_refl _))
              rw [hr2H.out] at hff ⊢
              go_ret
              exact hff
            · have hm' : ¬ (6 : Int) < (l.cls.length : Int) := by omega
              rw [if_neg (by omega)] at hr2
              have hr2H := Hid.mk hr2
              clear hr2
              go_wp2_with (first | (go_at_call 100; refine hnm.mono ?_; clear hnm; rintro e w2 ⟨rfl, sv2, hk2, hF2⟩; have hbx2 := hF2.box hbxH.out hne1 hne2; have b0 := hbx2.2.1 0 (by simp); have b1 := hbx2.2.1 1 (by simp); have b2 := hbx2.2.1 2 (by simp); have b3 := hbx2.2.1 3 (by simp); have b4 := hbx2.2.1 4 (by simp); have b5 := hbx2.2.1 5 (by simp); have b6 := hbx2.2.1 6 (by simp); have hfin : Hid (∀ w3, Below w2.heap.size w2 w3 → NmP p (scP p a3 a4 a5 a6 a7 c3 c4 c5 c6 c7) cb s sv (seen ++ [l.name], r) W (.returned (.int .i64 (r : Int))) w3) := ⟨fun w3 h3 => ⟨rfl, sv2, hk2.bel h3, ((Fr.bel hB1 _).trans hF2).trans (Fr.bel h3 _)⟩⟩) | (go_at_call 127; refine (hTy.out w2 sv2 hk2).mono ?_; rintro e w3 ⟨rfl, hb3⟩; have hk3 := hk2.bel hb3; have hbx3 := hbx2.bel hb3 hbx2.1; have d5 := hbx3.2.1 5 (by simp)) | (go_at_call 111; refine (hIn.out w3 sv2 hk3).mono ?_; rintro e w4 ⟨rfl, hb4⟩; have hbx4 := hbx3.bel hb4 hbx3.1; have f1 := hbx4.2.1 1 (by simp); have f6 := hbx4.2.1 6 (by simp); rw [hibH.out] at f1))
              have hff := hfin.out w4 (bthr hb3 hb4 (Nat.le_refl _))
              rw [hr2H.out] at hff ⊢
              go_ret
              exact hff
end Go.Proofs.YthnmjafoplfikaaGreatDoor


namespace Go.Proofs.YthnmjafoplfikaaGreatDoor
open Go.RowKit

theorem ls_step (p : Pk) (l : List Ln) {i : Nat} (h : i < l.length) (s : Sn) : lsF p (l.drop i) i s = match lnE p l[i] s with
    | (s', e + 1) => (s', some (itF 5 i, e + 1))
    | (s', 0) => match clF l[i].cls l[i].cls 0 with
      | some j => (s', some (⟨5, i, j, []⟩, 66))
      | none => lsF p (l.drop (i + 1)) (i + 1) s' := by
  rw [List.drop_eq_getElem_cons h]
  rfl
theorem cl_step (l : List Cl) {j : Nat} (h : j < l.length) : clF l (l.drop j) j = if clB l j l[j] then clF l (l.drop (j + 1)) (j + 1) else some j := by
  rw [List.drop_eq_getElem_cons h]
  rfl
theorem lnE_len {p : Pk} {l : Ln} {s s' : Sn} (h : lnE p l s = (s', 0)) : l.cls.length ≤ 6 := by
  unfold lnE at h
  injection h with _ h
  cases hn : nwN l.name s with
  | succ e => rw [hn] at h; cases h
  | zero =>
    rw [hn] at h
    simp only at h
    by_cases h1 : tyB p l = true
    · rw [if_pos h1] at h
      by_cases h2 : inG p l.group = true
      · rw [if_pos h2] at h
        by_cases h3 : l.input = true
        · rw [if_pos h3] at h
          by_cases h4 : l.cls.length > 0
          · rw [if_pos h4] at h; cases h
          · omega
        · rw [if_neg h3] at h
          by_cases h4 : l.cls.length < 1 ∨ 6 < l.cls.length
          · rw [if_pos h4] at h; cases h
          · omega
      · rw [if_neg h2] at h; cases h
    · rw [if_neg h1] at h; cases h
set_option maxRecDepth 20000 in
set_option maxHeartbeats 2000000 in
theorem linP_any (p : Pk) (a3 a4 a5 a6 a7 : Option Addr) (c3 c4 c5 c6 c7 : Nat) (cb s : Nat) (W : World) (seen : Sn) (sv : Value) (h : CkS p (scP p a3 a4 a5 a6 a7 c3 c4 c5 c6 c7) cb s W seen sv) (hl : seen.length + p.lns.length ≤ 1000000) : Calls Tryz.prog 78 #[.pointer (some ⟨cb, 0, none⟩)] W (PtP p (scP p a3 a4 a5 a6 a7 c3 c4 c5 c6 c7) cb s sv (lsF p p.lns 0 seen) W) := by
  have hcb := h.lt
  obtain ⟨W1, hW1⟩ : ∃ W1, W1 = W.alloc (.cells #[.int .i64 0, .int .i64 0, .int .i64 0, .slice none 0 0] 105) := ⟨_, rfl⟩
  have hB1 : Below W.heap.size W W1 := by rw [hW1]; exact (Below.refl _ _).alloc (Nat.le_refl _) _
  have hbz : Bx W1 W.heap.size [.int .i64 0, .int .i64 0, .int .i64 0, .slice none 0 0] := by rw [hW1]; exact bx_new _ _ _
  have hk1 := h.bel hB1
  have hrz : some W.heap.size ≠ sv.ownBlock := fun e => by
    have := (h.pg _ e.symm).2
    omega
  have hrb1 : cb + 1 ≤ W.heap.size := hcb
  have hrb2 : W.heap.size ≤ W.heap.size := Nat.le_refl _
  obtain ⟨R, hR⟩ : ∃ R, lsF p p.lns 0 seen = R := ⟨_, rfl⟩
  rw [hR]
  have hst : Hid (lsF p (p.lns.drop 0) 0 seen = R) := ⟨by rw [List.drop_zero]; exact hR⟩
  obtain ⟨QQ, hQQ⟩ : ∃ QQ, PtP p (scP p a3 a4 a5 a6 a7 c3 c4 c5 c6 c7) cb s sv R W = QQ := ⟨_, rfl⟩
  rw [hQQ]
  have hQH := Hid.mk hQQ
  have hW1H := Hid.mk hW1
  obtain ⟨q0, q1, q2, q3, q4, q5, q6⟩ := h.cells
  have hW1s : W.heap.size < W1.heap.size := hbz.1
  clear hQQ hW1 hR
  go_enter Tryz.func78, Tryz.ntmps78
  go_wp2
  rw [← hW1H.out]
  clear hW1H
  go_loopw [14] (fun iv wr => ∃ (i : Nat) (sn : Sn) (sv2 : Value), iv = .int .i64 (i : Int) ∧ i ≤ p.lns.length ∧ Hid (sn.length = seen.length + i) ∧ CkS p (scP p a3 a4 a5 a6 a7 c3 c4 c5 c6 c7) cb s wr sn sv2 ∧ Fr cb W1 sv wr sv2 ∧ Hid (lsF p (p.lns.drop i) i sn = R)) (fun iv _ => p.lns.length - (intOf iv).toNat)
  case atStart => exact ⟨0, seen, sv, rfl, Nat.zero_le _, ⟨rfl⟩, hk1, Fr.refl _ _ _, hst⟩
  case round =>
    obtain ⟨i, sn, sv2, rfl, hi, hsn, hkr, hFr, hinv⟩ := hrel
    have hsr : some W.heap.size ≠ sv2.ownBlock := by
      rcases hFr.new with e | ⟨c, e, hc⟩
      · rw [e]; exact hrz
      · rw [e]; intro e2; injection e2 with e2; omega
    have hFW : Fr cb W sv wr sv2 := (Fr.bel hB1 _).trans hFr
    have hbr := hFr.box hbz (by omega) hrz
    by_cases hlt : i < p.lns.length
    · have hlt' : (i : Int) < (p.lns.length : Int) := by omega
      have hi0 : (0 : Int) ≤ (i : Int) := by omega
      have hRr := hkr.rows.2.2.2.1
      obtain ⟨ge, oe, hga⟩ := hRr.some hlt
      subst hga
      obtain ⟨cs, -, hge, ⟨an, cn, rfl, -, hRc, hcn⟩, hcs⟩ := hRr.item hlt
      have kx : wr.cell? ⟨ge, oe + i * 7, none⟩ = some (.string ⟨p.lns[i].name.toArray⟩) ∧ wr.cell? ⟨ge, oe + i * 7 + 1, none⟩ = some (.bool p.lns[i].input) ∧ wr.cell? ⟨ge, oe + i * 7 + 2, none⟩ = some (.bool p.lns[i].must) ∧ wr.cell? ⟨ge, oe + i * 7 + 3, none⟩ = some (.int .i64 p.lns[i].type) ∧ wr.cell? ⟨ge, oe + i * 7 + 4, none⟩ = some (.int .i64 p.lns[i].opts) ∧ wr.cell? ⟨ge, oe + i * 7 + 5, none⟩ = some (.int .i64 p.lns[i].group) ∧ wr.cell? ⟨ge, oe + i * 7 + 6, none⟩ = some (.slice an p.lns[i].cls.length cn) := ⟨hcs 0 (by decide), hcs 1 (by decide), hcs 2 (by decide), hcs 3 (by decide), hcs 4 (by decide), hcs 5 (by decide), hcs 6 (by decide)⟩
      have hinv2 := hinv.out
      rw [ls_step p p.lns hlt] at hinv2
      have hls : sn.length ≤ 1000000 := by have := hsn.out; omega
      have hlE : ∀ s', lnE p p.lns[i] sn = (s', 0) → p.lns[i].cls.length ≤ 6 := fun s' hh => lnE_len hh
      have hlF : (lnE p p.lns[i] sn).1 = sn ++ [p.lns[i].name] := rfl
      generalize p.lns[i] = y at kx hinv2 hRc hcn hlE hlF
      obtain ⟨X0, hX0⟩ : ∃ X0, X0 = wr.alloc (.cells #[.string ⟨y.name.toArray⟩, .bool y.input, .bool y.must, .int .i64 y.type, .int .i64 y.opts, .int .i64 y.group, .slice an y.cls.length cn] 78) := ⟨_, rfl⟩
      have hB0 : Below wr.heap.size wr X0 := by rw [hX0]; exact (Below.refl _ _).alloc (Nat.le_refl _) _
      have hk0 := hkr.bel hB0
      have hby : Bx X0 wr.heap.size [.string ⟨y.name.toArray⟩, .bool y.input, .bool y.must, .int .i64 y.type, .int .i64 y.opts, .int .i64 y.group, .slice an y.cls.length cn] := by rw [hX0]; exact bx_new _ _ _
      have hcall := line_any p _ _ _ _ _ _ _ _ _ _ cb s y an cn X0 sn sv2 hk0 hls
      have hFW0 : Fr cb W sv X0 sv2 := hFW.trans (Fr.bel hB0 _)
      have hbr0 := hbr.bel hB0 hbr.1
      have hne1 : W.heap.size ≠ cb := by omega
      have hne2 : wr.heap.size ≠ cb := by have := hkr.lt; omega
      have hsy : some wr.heap.size ≠ sv2.ownBlock := fun e => by
        have := (hkr.pg _ e.symm).2
        omega
      have hF01 : Hid (∀ w3 sv3, Fr cb X0 sv2 w3 sv3 → Bx w3 W.heap.size [.int .i64 0, .int .i64 0, .int .i64 0, .slice none 0 0] ∧ some W.heap.size ≠ sv3.ownBlock ∧ Bx w3 wr.heap.size [.string ⟨y.name.toArray⟩, .bool y.input, .bool y.must, .int .i64 y.type, .int .i64 y.opts, .int .i64 y.group, .slice an y.cls.length cn] ∧ RowR eC w3 AnyB y.cls an) := ⟨fun w3 sv3 hF3 => ⟨hF3.box hbr0 hne1 hsr, by
        rcases hF3.new with e | ⟨c, e, hc⟩
        · rw [e]; exact hsr
        · rw [e]; intro e2; injection e2 with e2; have := hbr0.1; omega, hF3.box hby hne2 hsy, (hRc.fr (Nat.le_trans hB0.size hF3.size) (fun b hb hlt => (hF3.blk b (Nat.lt_of_lt_of_le hlt hB0.size) (by omega) (fun e => by have := (hkr.pg b e.symm).1; omega)).trans (hB0.block b hlt))).mo (fun _ _ _ => trivial)⟩⟩
      obtain ⟨rr, hrr⟩ : ∃ rr, lnE p y sn = rr := ⟨_, rfl⟩
      rw [hrr] at hinv2 hcall hlE hlF
      obtain ⟨s2, e2⟩ := rr
      have hfH : Hid (s2.length = sn.length + 1) := ⟨by have h1 : s2 = sn ++ [y.name] := hlF; rw [h1, List.length_append, List.length_singleton]⟩
      obtain ⟨d0, d1, d2, d3, d4, d5, d6⟩ := kx
      have hX0H := Hid.mk hX0
      have hlEH := Hid.mk hlE
      clear hcs hRr hinv hX0 hrr hlE hlF hRc hk1 hbz
      go_wp2_with fail
      rw [← hX0H.out]
      clear hX0H
      cases e2 with
      | succ e3 =>
        have hRH := Hid.mk hinv2.symm
        clear hinv2
        have hne : (((e3 + 1 : Nat) : Int) != 0) = true := by simp; omega
        refine hcall.mono ?_
        clear hcall
        rintro e w3 ⟨rfl, sv3, hk3, hF3⟩
        obtain ⟨hbr3, hrb3, -, -⟩ := hF01.out w3 sv3 hF3
        have hk_st : CkS p [.string ⟨p.name.toArray⟩, .int .i64 p.year, .slice a3 p.opts.length c3, .slice a4 p.tabs.length c4, .slice a5 p.grps.length c5, .slice (some ⟨ge, oe, none⟩) p.lns.length c6, .slice a7 p.cks.length c7] cb s w3 s2 sv3 ∧ Fr cb W sv w3 sv3 := ⟨hk3, hFW0.trans hF3⟩
        clear hlEH
        have hq0 := hbr3
        have kg0 : w3.cell? ⟨W.heap.size, 0, none⟩ = some (.int .i64 0) := hq0.2.1 0 (by simp)
        have kh0 := hq0.2.2 0; have kl0 := hq0.1
        obtain ⟨X1, hx0⟩ : ∃ X1, w3.setCell ⟨W.heap.size, 0, none⟩ (.int .i64 5) = X1 := ⟨_, rfl⟩
        have hq1 : Bx X1 W.heap.size [(.int .i64 5), (.int .i64 0), (.int .i64 0), (.slice none 0 0)] := (by rw [← hx0]; exact hq0.set 0 (.int .i64 5))
        have kg1 : X1.cell? ⟨W.heap.size, 1, none⟩ = some (.int .i64 0) := hq1.2.1 1 (by simp)
        have kh1 := hq1.2.2 1; have kl1 := hq1.1
        obtain ⟨X2, hx1⟩ : ∃ X2, X1.setCell ⟨W.heap.size, 1, none⟩ (.int .i64 (i : Int)) = X2 := ⟨_, rfl⟩
        have hq2 : Bx X2 W.heap.size [(.int .i64 5), (.int .i64 (i : Int)), (.int .i64 0), (.slice none 0 0)] := (by rw [← hx1]; exact hq1.set 1 (.int .i64 (i : Int)))
        have kg2 : X2.cell? ⟨W.heap.size, 2, none⟩ = some (.int .i64 0) := hq2.2.1 2 (by simp)
        have kh2 := hq2.2.2 2; have kl2 := hq2.1
        obtain ⟨X3, hx2⟩ : ∃ X3, X2.setCell ⟨W.heap.size, 2, none⟩ (.int .i64 (-1)) = X3 := ⟨_, rfl⟩
        have hq3 : Bx X3 W.heap.size [(.int .i64 5), (.int .i64 (i : Int)), (.int .i64 (-1)), (.slice none 0 0)] := (by rw [← hx2]; exact hq2.set 2 (.int .i64 (-1)))
        have kg3 : X3.cell? ⟨W.heap.size, 3, none⟩ = some (.slice none 0 0) := hq3.2.1 3 (by simp)
        have kh3 := hq3.2.2 3; have kl3 := hq3.1
        obtain ⟨X4, hx3⟩ : ∃ X4, X3.setCell ⟨W.heap.size, 3, none⟩ (.slice none 0 0) = X4 := ⟨_, rfl⟩
        have hq4 : Bx X4 W.heap.size [(.int .i64 5), (.int .i64 (i : Int)), (.int .i64 (-1)), (.slice none 0 0)] := (by rw [← hx3]; exact hq3.set 3 (.slice none 0 0))
        have ht0 := hk_st
        have ht1 : CkS p [.string ⟨p.name.toArray⟩, .int .i64 p.year, .slice a3 p.opts.length c3, .slice a4 p.tabs.length c4, .slice a5 p.grps.length c5, .slice (some ⟨ge, oe, none⟩) p.lns.length c6, .slice a7 p.cks.length c7] cb s X1 s2 sv3 ∧ Fr cb W sv X1 sv3 := (by rw [← hx0]; exact ck_set ht0 hrb1 hrb2 hrb3 0 (.int .i64 5))
        have ht2 : CkS p [.string ⟨p.name.toArray⟩, .int .i64 p.year, .slice a3 p.opts.length c3, .slice a4 p.tabs.length c4, .slice a5 p.grps.length c5, .slice (some ⟨ge, oe, none⟩) p.lns.length c6, .slice a7 p.cks.length c7] cb s X2 s2 sv3 ∧ Fr cb W sv X2 sv3 := (by rw [← hx1]; exact ck_set ht1 hrb1 hrb2 hrb3 1 (.int .i64 (i : Int)))
        have ht3 : CkS p [.string ⟨p.name.toArray⟩, .int .i64 p.year, .slice a3 p.opts.length c3, .slice a4 p.tabs.length c4, .slice a5 p.grps.length c5, .slice (some ⟨ge, oe, none⟩) p.lns.length c6, .slice a7 p.cks.length c7] cb s X3 s2 sv3 ∧ Fr cb W sv X3 sv3 := (by rw [← hx2]; exact ck_set ht2 hrb1 hrb2 hrb3 2 (.int .i64 (-1)))
        have ht4 : CkS p [.string ⟨p.name.toArray⟩, .int .i64 p.year, .slice a3 p.opts.length c3, .slice a4 p.tabs.length c4, .slice a5 p.grps.length c5, .slice (some ⟨ge, oe, none⟩) p.lns.length c6, .slice a7 p.cks.length c7] cb s X4 s2 sv3 ∧ Fr cb W sv X4 sv3 := (by rw [← hx3]; exact ck_set ht3 hrb1 hrb2 hrb3 3 (.slice none 0 0))
        have hB5 : Below X4.heap.size X4 (X4.alloc (.cells #[.int .i64 5, .int .i64 (i : Int), .int .i64 (-1), .slice none 0 0] 105)) := ((Below.refl X4.heap.size X4).alloc (Nat.le_refl _) _)
        have hff : QQ (.returned (.tuple #[.agg #[.int .i64 5, .int .i64 (i : Int), .int .i64 (-1), .slice none 0 0], .int .i64 ((e3 + 1 : Nat) : Int)])) (X4.alloc (.cells #[.int .i64 5, .int .i64 (i : Int), .int .i64 (-1), .slice none 0 0] 105)) := by
          rw [← hQH.out, hRH.out]
          exact ⟨rfl, sv3, ht4.1.bel hB5, ht4.2.trans (Fr.bel hB5 _)⟩
        have hq5 := hq4.bel hB5 hq4.1
        have f0 := hq5.2.1 0 (by simp)
        have f1 := hq5.2.1 1 (by simp)
        have f2 := hq5.2.1 2 (by simp)
        have f3 := hq5.2.1 3 (by simp)
        have l4 := hq4.1
        clear hq0 hq1 hq2 hq3 hq4 hq5 ht0 ht1 ht2 ht3 ht4 hk_st hbr3
        go_wp2_with (go_at_call 96; refine (itemAt_any _ _ _).mono ?_; rintro e w9 ⟨rfl, rfl⟩)
        exact bodyPost_ret (v := .tuple #[.agg #[.int .i64 5, .int .i64 (i : Int), .int .i64 (-1), .slice none 0 0], .int .i64 ((e3 + 1 : Nat) : Int)]) (by simp [results, Tryz.results78, go_sem, f0, f1, f2, f3]) rfl hff
      | zero =>
        have hc6 := hlEH.out s2 rfl
        have hin2 := Hid.mk hinv2
        clear hinv2
        refine hcall.mono ?_
        clear hcall
        rintro e w3 ⟨rfl, sv3, hk3, hF3⟩
        obtain ⟨hbr4, hrb3, hby3, hRc3⟩ := hF01.out w3 sv3 hF3
        have l6 := hby3.2.1 6 (by simp)
        have hFW3 := hFW0.trans hF3
        have hFr3 : Fr cb W1 sv w3 sv3 := (hFr.trans (Fr.bel hB0 _)).trans hF3
        obtain ⟨C, hC⟩ : ∃ C, clF y.cls y.cls 0 = C := ⟨_, rfl⟩
        have hstc : Hid (clF y.cls (y.cls.drop 0) 0 = C) := ⟨by rw [List.drop_zero]; exact hC⟩
        have hin3 := hin2.out
        simp only at hin3
        rw [hC] at hin3
        have hin3H := Hid.mk hin3
        have hwl : wr.heap.size < w3.heap.size := hby3.1
        clear hin2 hin3 hC hlEH
        go_wp2
        go_loopw [30] (fun jv wq => ∃ (j : Nat), jv = .int .i64 (j : Int) ∧ j ≤ y.cls.length ∧ Below w3.heap.size w3 wq ∧ Hid (clF y.cls (y.cls.drop j) j = C)) (fun jv _ => y.cls.length - (intOf jv).toNat)
        case atStart => exact ⟨0, rfl, Nat.zero_le _, Below.refl _ _, hstc⟩
        case round =>
          obtain ⟨j, rfl, hj, hBq, hjnv⟩ := hrel
          have m6 := (bel_cell hBq hwl 6).trans l6
          by_cases hjl : j < y.cls.length
          · have hjl' : (j : Int) < (y.cls.length : Int) := by omega
            have hj0 : (0 : Int) ≤ (j : Int) := by omega
            have hic := isClause_any y.cls an cn j hjl wr (row_bel hRc3 hBq (Nat.le_refl _)) (by omega) hcn
            have hjn2 := hjnv.out
            rw [cl_step y.cls hjl] at hjn2
            obtain ⟨cb2, hcb2⟩ : ∃ cb2, clB y.cls j y.cls[j] = cb2 := ⟨_, rfl⟩
            rw [hcb2] at hic hjn2
            clear hcb2 hjnv
            cases cb2 with
            | true =>
              simp only [if_true] at hjn2
              have hj2 := Hid.mk hjn2
              clear hjn2
              go_wp2_with (go_at_call 108; refine hic.mono ?_; clear hic; rintro e w4 ⟨rfl, hb4⟩; have hb5 := bthr hBq hb4 (Nat.le_refl _))
              exact ⟨⟨j + 1, rfl, hjl, hb5, hj2⟩, by simp only [intOf]; omega⟩
            | false =>
              simp only [Bool.false_eq_true, if_false] at hjn2
              have hin4 := hin3H.out
              rw [← hjn2] at hin4
              have hRH := Hid.mk hin4.symm
              clear hin4 hjn2
              go_wp2_with fail
              refine hic.mono ?_
              clear hic
              rintro e w4 ⟨rfl, hb4⟩
              have hb5 := bthr hBq hb4 (Nat.le_refl _)
              have hbr3 := hbr4.bel hb5 hbr4.1
              have hk_st : CkS p [.string ⟨p.name.toArray⟩, .int .i64 p.year, .slice a3 p.opts.length c3, .slice a4 p.tabs.length c4, .slice a5 p.grps.length c5, .slice (some ⟨ge, oe, none⟩) p.lns.length c6, .slice a7 p.cks.length c7] cb s w4 s2 sv3 ∧ Fr cb W sv w4 sv3 := ⟨hk3.bel hb5, hFW3.trans (Fr.bel hb5 _)⟩
              have hq0 := hbr3
              have kg0 : w4.cell? ⟨W.heap.size, 0, none⟩ = some (.int .i64 0) := hq0.2.1 0 (by simp)
              have kh0 := hq0.2.2 0; have kl0 := hq0.1
              obtain ⟨X1, hx0⟩ : ∃ X1, w4.setCell ⟨W.heap.size, 0, none⟩ (.int .i64 5) = X1 := ⟨_, rfl⟩
              have hq1 : Bx X1 W.heap.size [(.int .i64 5), (.int .i64 0), (.int .i64 0), (.slice none 0 0)] := (by rw [← hx0]; exact hq0.set 0 (.int .i64 5))
              have kg1 : X1.cell? ⟨W.heap.size, 1, none⟩ = some (.int .i64 0) := hq1.2.1 1 (by simp)
              have kh1 := hq1.2.2 1; have kl1 := hq1.1
              obtain ⟨X2, hx1⟩ : ∃ X2, X1.setCell ⟨W.heap.size, 1, none⟩ (.int .i64 (i : Int)) = X2 := ⟨_, rfl⟩
              have hq2 : Bx X2 W.heap.size [(.int .i64 5), (.int .i64 (i : Int)), (.int .i64 0), (.slice none 0 0)] := (by rw [← hx1]; exact hq1.set 1 (.int .i64 (i : Int)))
              have kg2 : X2.cell? ⟨W.heap.size, 2, none⟩ = some (.int .i64 0) := hq2.2.1 2 (by simp)
              have kh2 := hq2.2.2 2; have kl2 := hq2.1
              obtain ⟨X3, hx2⟩ : ∃ X3, X2.setCell ⟨W.heap.size, 2, none⟩ (.int .i64 (j : Int)) = X3 := ⟨_, rfl⟩
              have hq3 : Bx X3 W.heap.size [(.int .i64 5), (.int .i64 (i : Int)), (.int .i64 (j : Int)), (.slice none 0 0)] := (by rw [← hx2]; exact hq2.set 2 (.int .i64 (j : Int)))
              have kg3 : X3.cell? ⟨W.heap.size, 3, none⟩ = some (.slice none 0 0) := hq3.2.1 3 (by simp)
              have kh3 := hq3.2.2 3; have kl3 := hq3.1
              obtain ⟨X4, hx3⟩ : ∃ X4, X3.setCell ⟨W.heap.size, 3, none⟩ (.slice none 0 0) = X4 := ⟨_, rfl⟩
              have hq4 : Bx X4 W.heap.size [(.int .i64 5), (.int .i64 (i : Int)), (.int .i64 (j : Int)), (.slice none 0 0)] := (by rw [← hx3]; exact hq3.set 3 (.slice none 0 0))
              have ht0 := hk_st
              have ht1 : CkS p [.string ⟨p.name.toArray⟩, .int .i64 p.year, .slice a3 p.opts.length c3, .slice a4 p.tabs.length c4, .slice a5 p.grps.length c5, .slice (some ⟨ge, oe, none⟩) p.lns.length c6, .slice a7 p.cks.length c7] cb s X1 s2 sv3 ∧ Fr cb W sv X1 sv3 := (by rw [← hx0]; exact ck_set ht0 hrb1 hrb2 hrb3 0 (.int .i64 5))
              have ht2 : CkS p [.string ⟨p.name.toArray⟩, .int .i64 p.year, .slice a3 p.opts.length c3, .slice a4 p.tabs.length c4, .slice a5 p.grps.length c5, .slice (some ⟨ge, oe, none⟩) p.lns.length c6, .slice a7 p.cks.length c7] cb s X2 s2 sv3 ∧ Fr cb W sv X2 sv3 := (by rw [← hx1]; exact ck_set ht1 hrb1 hrb2 hrb3 1 (.int .i64 (i : Int)))
              have ht3 : CkS p [.string ⟨p.name.toArray⟩, .int .i64 p.year, .slice a3 p.opts.length c3, .slice a4 p.tabs.length c4, .slice a5 p.grps.length c5, .slice (some ⟨ge, oe, none⟩) p.lns.length c6, .slice a7 p.cks.length c7] cb s X3 s2 sv3 ∧ Fr cb W sv X3 sv3 := (by rw [← hx2]; exact ck_set ht2 hrb1 hrb2 hrb3 2 (.int .i64 (j : Int)))
              have ht4 : CkS p [.string ⟨p.name.toArray⟩, .int .i64 p.year, .slice a3 p.opts.length c3, .slice a4 p.tabs.length c4, .slice a5 p.grps.length c5, .slice (some ⟨ge, oe, none⟩) p.lns.length c6, .slice a7 p.cks.length c7] cb s X4 s2 sv3 ∧ Fr cb W sv X4 sv3 := (by rw [← hx3]; exact ck_set ht3 hrb1 hrb2 hrb3 3 (.slice none 0 0))
              have hB5 : Below X4.heap.size X4 X4 := (Below.refl X4.heap.size X4)
              have hff : QQ (.returned (.tuple #[.agg #[.int .i64 5, .int .i64 (i : Int), .int .i64 (j : Int), .slice none 0 0], .int .i64 66])) X4 := by
                rw [← hQH.out, hRH.out]
                exact ⟨rfl, sv3, ht4.1.bel hB5, ht4.2.trans (Fr.bel hB5 _)⟩
              have hq5 := hq4.bel hB5 hq4.1
              have f0 := hq5.2.1 0 (by simp)
              have f1 := hq5.2.1 1 (by simp)
              have f2 := hq5.2.1 2 (by simp)
              have f3 := hq5.2.1 3 (by simp)
              have l4 := hq4.1
              clear hq0 hq1 hq2 hq3 hq4 hq5 ht0 ht1 ht2 ht3 ht4 hk_st hbr3
              go_wp2
              exact bodyPost_ret (v := .tuple #[.agg #[.int .i64 5, .int .i64 (i : Int), .int .i64 (j : Int), .slice none 0 0], .int .i64 66]) (by simp [results, Tryz.results78, go_sem, f0, f1, f2, f3]) rfl hff
          · have hjl' : ¬ (j : Int) < (y.cls.length : Int) := by omega
            have hjn2 := hjnv.out
            rw [List.drop_eq_nil_of_le (by omega)] at hjn2
            have hin4 := hin3H.out
            rw [← hjn2] at hin4
            have hs2 := Hid.mk hin4
            have hkq := hk3.bel hBq
            have hFq := hFr3.trans (Fr.bel hBq _)
            clear hjnv hjn2 hin4 hin3H
            go_wp2
            exact ⟨⟨i + 1, s2, sv3, rfl, hlt, ⟨by have h1 := hfH.out; have h2 := hsn.out; omega⟩, hkq, hFq, hs2⟩, by simp only [intOf]; omega⟩
    · have hlt' : ¬ (i : Int) < (p.lns.length : Int) := by omega
      have hri := hinv.out
      rw [List.drop_eq_nil_of_le (by omega)] at hri
      have hRH : Hid (R = (sn, none)) := ⟨hri.symm⟩
      have hbr3 := hbr
      have hk_st : CkS p (scP p a3 a4 a5 a6 a7 c3 c4 c5 c6 c7) cb s wr sn sv2 ∧ Fr cb W sv wr sv2 := ⟨hkr, hFW⟩
      clear hri hinv
      have hff : QQ (.returned (.tuple #[.agg #[.int .i64 0, .int .i64 0, .int .i64 0, .slice none 0 0], .int .i64 0])) wr := by
        rw [← hQH.out, hRH.out]
        exact ⟨rfl, sv2, hk_st.1, hk_st.2⟩
      have f0 := hbr3.2.1 0 (by simp)
      have z0 := hbr3.2.2 0
      have f1 := hbr3.2.1 1 (by simp)
      have z1 := hbr3.2.2 1
      have f2 := hbr3.2.1 2 (by simp)
      have z2 := hbr3.2.2 2
      have f3 := hbr3.2.1 3 (by simp)
      have z3 := hbr3.2.2 3
      have j0 := set_id f0
      have j1 := set_id f1
      have j2 := set_id f2
      have j3 := set_id f3
      clear hbr3 hk_st
      go_wp2
      exact bodyPost_ret (v := .tuple #[.agg #[.int .i64 0, .int .i64 0, .int .i64 0, .slice none 0 0], .int .i64 0]) (by simp at f0 f1 f2 f3; simp [results, Tryz.results78, go_sem, f0, f1, f2, f3]) rfl hff
end Go.Proofs.YthnmjafoplfikaaGreatDoor
