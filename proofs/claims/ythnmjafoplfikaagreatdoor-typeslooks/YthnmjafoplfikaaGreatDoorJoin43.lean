import Derived.Test.YthnmjafoplfikaaGreatDoorJoin42
import Derived.Test.YthnmjafoplfikaaGreatDoorJoin41
import Derived.Test.YthnmjafoplfikaaGreatDoorTurnYL1
import Derived.Test.YthnmjafoplfikaaGreatDoorTurnYN1
import Derived.Lib.MinMax
namespace Go.Proofs.YthnmjafoplfikaaGreatDoor
open Go.RowKit

theorem ns_step (l : List (List UInt8)) {i : Nat} (h : i < l.length) : nsF l (l.drop i) i = match nwN l[i] (l.take i) with
    | 0 => nsF l (l.drop (i + 1)) (i + 1)
    | e + 1 => e + 1 := by
  rw [List.drop_eq_getElem_cons h]
  rfl
theorem RowR.take {α : Type} {D : Elt α} {W : World} {S : Nat → Prop} {xs : List α} {a : Option Addr} (h : RowR D W S xs a) (n : Nat) : RowR D W S (xs.take n) a := by
  rcases h with rfl | ⟨g, o, cs, rfl, hS, hg, hc, hE⟩
  · exact .inl (by simp)
  · refine .inr ⟨g, o, cs.take ((xs.take n).length * D.k), rfl, hS, hg, fun j hj => ?_, ?_⟩
    · rw [List.length_take] at hj
      rw [List.getElem?_take, if_pos (by omega)]
      exact hc j (by omega)
    · refine ⟨by rw [List.length_take, hE.1, List.length_take, Nat.min_eq_left (Nat.mul_le_mul_right _ (Nat.min_le_right _ _))], fun i hi => ?_⟩
      have hi2 := hi
      rw [List.length_take] at hi2
      have := hE.2 i (by omega)
      rw [List.getElem_take]
      have e : (((cs.take ((xs.take n).length * D.k)).drop (i * D.k)).take D.k) = ((cs.drop (i * D.k)).take D.k) := by
        rw [List.drop_take, List.take_take, Nat.min_eq_left]
        have : (i + 1) * D.k ≤ (xs.take n).length * D.k := Nat.mul_le_mul_right _ hi
        rw [Nat.add_mul, Nat.one_mul] at this
        omega
      rw [e]
      exact this
set_option maxRecDepth 20000 in
set_option maxHeartbeats 2000000 in
theorem opt1_any (p : Pk) (pc : List Value) (cb s xb : Nat) (nm : List UInt8) (ns : List (List UInt8)) (an : Option Addr) (cn : Nat) (W : World) (seen : Sn) (sv : Value) (h : CkS p pc cb s W seen sv) (hl : seen.length ≤ 1000000) (hx : W.cell? ⟨xb, 0, none⟩ = some (.pointer (some ⟨cb, 0, none⟩))) (hR : RowR eS W (fun b => b < cb) ns an) (hcn : ns.length ≤ cn) : Calls Tryz.prog 99 #[.agg #[.string ⟨nm.toArray⟩, .slice an ns.length cn], .pointer (some ⟨xb, 0, none⟩)] W (NmP p pc cb s sv (opF (nm, ns) seen) W) := by
  obtain ⟨W1, hW1⟩ : ∃ W1, W1 = W.alloc (.cells #[.string ⟨nm.toArray⟩, .slice an ns.length cn] 66) := ⟨_, rfl⟩
  have hB1 : Below W.heap.size W W1 := by rw [hW1]; exact (Below.refl _ _).alloc (Nat.le_refl _) _
  have hbx : Bx W1 W.heap.size [.string ⟨nm.toArray⟩, .slice an ns.length cn] := by rw [hW1]; exact bx_new _ _ _
  have hk1 := h.bel hB1
  have hxl := World.block_lt_of_cell? _ _ hx
  have x1 := (bel_cell hB1 hxl 0).trans hx
  have b0 := hbx.2.1 0 (by simp)
  have hnm := name_any p pc cb s nm W1 seen sv hk1 hl
  have hcb := h.lt
  have hne1 : W.heap.size ≠ cb := by omega
  have hne2 : some W.heap.size ≠ sv.ownBlock := fun e => by
    have := (h.pg _ e.symm).2
    omega
  have hrf : opF (nm, ns) seen = (seen ++ [nm], (opF (nm, ns) seen).2) := rfl
  obtain ⟨r, hr⟩ : ∃ r, (opF (nm, ns) seen).2 = r := ⟨_, rfl⟩
  rw [hr] at hrf
  rw [hrf]
  clear hrf
  have hra : ∀ n0 : Nat, nwN nm seen = n0 → r = (match n0 with
    | 0 => if ns.length < 1 ∨ 8 < ns.length then 60 else nsF ns ns 0
    | e + 1 => e + 1) := by
    rintro _ rfl
    exact hr.symm
  obtain ⟨n0, hn0⟩ : ∃ n0, nwN nm seen = n0 := ⟨_, rfl⟩
  have hrr := hra n0 hn0
  rw [hn0] at hnm
  clear hra
  have hW1H := Hid.mk hW1
  have hrH := Hid.mk hrr
  have hbxH := Hid.mk hbx
  clear hW1 hr hn0 hrr hbx
  go_enter Tryz.func99, Tryz.ntmps99
  go_wp2_with fail
  rw [← hW1H.out]
  clear hW1H
  cases n0 with
  | succ n1 =>
    have hr1 := hrH.out
    simp only at hr1
    subst hr1
    have hs1 : (((n1 + 1 : Nat) : Int) != 0) = true := by simp; omega
    go_wp2_with (go_at_call 100; refine hnm.mono ?_; clear hnm; rintro e w2 ⟨rfl, sv2, hk2, hF2⟩; have hff : NmP p pc cb s sv (seen ++ [nm], n1 + 1) W (.returned (.int .i64 ((n1 + 1 : Nat) : Int))) w2 := ⟨rfl, sv2, hk2, (Fr.bel hB1 _).trans hF2⟩)
    go_ret
    exact hff
  | zero =>
    have hr1 := hrH.out
    simp only at hr1
    have hr1H := Hid.mk hr1
    clear hr1 hrH
    by_cases hl1 : ns.length < 1
    · have hl1' : (ns.length : Int) < 1 := by omega
      have hr2 := hr1H.out
      rw [if_pos (.inl hl1)] at hr2
      have hr2H := Hid.mk hr2
      clear hr1H hr2
      go_wp2_with (go_at_call 100; refine hnm.mono ?_; clear hnm; rintro e w2 ⟨rfl, sv2, hk2, hF2⟩; have hbx2 := hF2.box hbxH.out hne1 hne2; have b1 := hbx2.2.1 1 (by simp); have hfin : Hid (∀ w3, Below w2.heap.size w2 w3 → NmP p pc cb s sv (seen ++ [nm], r) W (.returned (.int .i64 (r : Int))) w3) := ⟨fun w3 h3 => ⟨rfl, sv2, hk2.bel h3, ((Fr.bel hB1 _).trans hF2).trans (Fr.bel h3 _)⟩⟩)
      have hff := hfin.out w2 (Below.refl _ _)
      rw [hr2H.out] at hff ⊢
      go_ret
      exact hff
    · have hl1' : ¬ (ns.length : Int) < 1 := by omega
      by_cases hl2 : 8 < ns.length
      · have hl2' : (8 : Int) < (ns.length : Int) := by omega
        have hr2 := hr1H.out
        rw [if_pos (.inr hl2)] at hr2
        have hr2H := Hid.mk hr2
        clear hr1H hr2
        go_wp2_with (go_at_call 100; refine hnm.mono ?_; clear hnm; rintro e w2 ⟨rfl, sv2, hk2, hF2⟩; have hbx2 := hF2.box hbxH.out hne1 hne2; have b1 := hbx2.2.1 1 (by simp); have hfin : Hid (∀ w3, Below w2.heap.size w2 w3 → NmP p pc cb s sv (seen ++ [nm], r) W (.returned (.int .i64 (r : Int))) w3) := ⟨fun w3 h3 => ⟨rfl, sv2, hk2.bel h3, ((Fr.bel hB1 _).trans hF2).trans (Fr.bel h3 _)⟩⟩)
        have hff := hfin.out w2 (Below.refl _ _)
        rw [hr2H.out] at hff ⊢
        go_ret
        exact hff
      · have hl2' : ¬ (8 : Int) < (ns.length : Int) := by omega
        have hr2 := hr1H.out
        rw [if_neg (by omega)] at hr2
        have hst : Hid (nsF ns (ns.drop 0) 0 = r) := ⟨by rw [hr2]; rfl⟩
        clear hr1H hr2
        go_wp2_with (go_at_call 100; refine hnm.mono ?_; clear hnm; rintro e w2 ⟨rfl, sv2, hk2, hF2⟩; have hbx2 := hF2.box hbxH.out hne1 hne2; have b1 := hbx2.2.1 1 (by simp); have hfin : Hid (∀ w3, Below w2.heap.size w2 w3 → NmP p pc cb s sv (seen ++ [nm], r) W (.returned (.int .i64 (r : Int))) w3) := ⟨fun w3 h3 => ⟨rfl, sv2, hk2.bel h3, ((Fr.bel hB1 _).trans hF2).trans (Fr.bel h3 _)⟩⟩)
        have hR2 : RowR eS w2 AnyB ns an := ((hR.fr (Nat.le_trans hB1.size hF2.size) (fun b hb hlt => (hF2.blk b (Nat.lt_of_lt_of_le hlt hB1.size) (by omega) (fun e => by have := (h.pg b e.symm).1; omega)).trans (hB1.block b hlt))).mo (fun _ _ _ => trivial))
        have hw2 : W.heap.size < w2.heap.size := hbx2.1
        go_loopw [28] (fun iv wr => ∃ i : Nat, iv = .int .i64 (i : Int) ∧ i ≤ ns.length ∧ Below w2.heap.size w2 wr ∧ Hid (nsF ns (ns.drop i) i = r)) (fun iv _ => ns.length - (intOf iv).toNat)
        case atStart => exact ⟨0, rfl, Nat.zero_le _, Below.refl _ _, hst⟩
        case round =>
          obtain ⟨i, rfl, hi, hBr, hinv⟩ := hrel
          have q1 := (hbx2.bel hBr hbx2.1).2.1 1 (by simp)
          by_cases hlt : i < ns.length
          · have hlt' : (i : Int) < (ns.length : Int) := by omega
            have hi0 : (0 : Int) ≤ (i : Int) := by omega
            have hRr := row_bel hR2 hBr (Nat.le_refl _)
            obtain ⟨ge, oe, rfl⟩ := hRr.some hlt
            obtain ⟨cs, -, -, rfl, hcs⟩ := hRr.item hlt
            have k0 : wr.cell? ⟨ge, oe + i, none⟩ = some (.string ⟨(ns[i]).toArray⟩) := by
              have := hcs 0 (by decide)
              rw [show oe + i * eS.k + 0 = oe + i by show oe + i * 1 + 0 = oe + i; omega] at this
              exact this
            have hinv2 := hinv.out
            rw [ns_step ns hlt] at hinv2
            have hnn := newName_any ns[i] (ns.take i) (some ⟨ge, oe, none⟩) cn wr (hRr.take i) (by rw [List.length_take]; omega)
            rw [List.length_take, Nat.min_eq_left hi] at hnn
            obtain ⟨e1, he1⟩ : ∃ e1, nwN ns[i] (ns.take i) = e1 := ⟨_, rfl⟩
            rw [he1] at hinv2 hnn
            generalize ns[i] = y at k0 hnn he1
            have hic : (i : Int) ≤ (cn : Int) := by omega
            clear hinv he1 hcs
            cases e1 with
            | zero =>
              have hs2 := Hid.mk hinv2
              clear hinv2
              go_wp2_with (go_at_call 101; refine hnn.mono ?_; clear hnn; rintro e w3 ⟨rfl, hb3⟩; have hb4 := bthr hBr hb3 (Nat.le_refl _))
              exact ⟨⟨i + 1, rfl, hlt, hb4, hs2⟩, by simp only [intOf]; omega⟩
            | succ e2 =>
              simp only at hinv2
              subst hinv2
              have hs1 : (((e2 + 1 : Nat) : Int) != 0) = true := by simp; omega
              go_wp2_with (go_at_call 101; refine hnn.mono ?_; clear hnn; rintro e w3 ⟨rfl, hb3⟩; have hff := hfin.out w3 (bthr hBr hb3 (Nat.le_refl _)))
              go_ret
              exact hff
          · have hlt' : ¬ (i : Int) < (ns.length : Int) := by omega
            have hr2 := hinv.out
            rw [List.drop_eq_nil_of_le (by omega)] at hr2
            have hr3 : 0 = r := hr2
            subst hr3
            have hff := hfin.out wr hBr
            clear hinv hr2
            go_wp2
            go_ret
            exact hff
end Go.Proofs.YthnmjafoplfikaaGreatDoor


namespace Go.Proofs.YthnmjafoplfikaaGreatDoor
open Go.RowKit

set_option maxRecDepth 20000 in
theorem itemAt_any (a b : Int) (W : World) : Calls Tryz.prog 96 #[.int .i64 a, .int .i64 b] W fun e W' => e = .returned (.agg #[.int .i64 a, .int .i64 b, .int .i64 (-1), .slice none 0 0]) ∧ W.alloc (.cells #[.int .i64 a, .int .i64 b, .int .i64 (-1), .slice none 0 0] 105) = W' := by
  go_enter Tryz.func96, Tryz.ntmps96
  go_wp2
  exact bodyPost_ret (v := .agg #[.int .i64 a, .int .i64 b, .int .i64 (-1), .slice none 0 0]) (by simp [results, Tryz.results96, go_sem]) rfl ⟨rfl, rfl⟩
set_option maxRecDepth 20000 in
theorem isZero_any (x : Ex) (ax : Option Addr) (cx : Nat) (W : World) : Calls Tryz.prog 128 #[.agg #[.int .i64 x.op, .int .i64 x.num, .int .i64 x.den, .int .i64 x.mode, .slice ax x.args.len cx]] W (Lk (.bool (zrB x)) W) := by
  obtain ⟨op, num, den, mode, args⟩ := x
  have hB : Below W.heap.size W (W.alloc (.cells #[.int .i64 op, .int .i64 num, .int .i64 den, .int .i64 mode, .slice ax args.len cx] 73)) := (Below.refl _ _).alloc (Nat.le_refl _) _
  have hz : zrB ⟨op, num, den, mode, args⟩ = (decide (op = 0) && decide (num = 0) && decide (den = 0) && decide (mode = 0) && decide (args.len = 0)) := rfl
  simp only
  by_cases h0 : op = 0
  rotate_left
  · have g0 : (op == 0) = false := beq_eq_false_iff_ne.2 h0
    have hf : Lk (.bool (zrB ⟨op, num, den, mode, args⟩)) W (.returned (.bool false)) (W.alloc (.cells #[.int .i64 op, .int .i64 num, .int .i64 den, .int .i64 mode, .slice ax args.len cx] 73)) := ⟨by rw [hz, decide_eq_false h0]; simp, hB⟩
    clear hz hB h0
    go_enter Tryz.func128, Tryz.ntmps128
    go_wp2
    go_ret
    exact hf
  subst h0
  by_cases h1 : num = 0
  rotate_left
  · have g1 : (num == 0) = false := beq_eq_false_iff_ne.2 h1
    have hf : Lk (.bool (zrB ⟨0, num, den, mode, args⟩)) W (.returned (.bool false)) (W.alloc (.cells #[.int .i64 0, .int .i64 num, .int .i64 den, .int .i64 mode, .slice ax args.len cx] 73)) := ⟨by rw [hz, decide_eq_false h1]; simp, hB⟩
    clear hz hB h1
    go_enter Tryz.func128, Tryz.ntmps128
    go_wp2
    go_ret
    exact hf
  subst h1
  by_cases h2 : den = 0
  rotate_left
  · have g2 : (den == 0) = false := beq_eq_false_iff_ne.2 h2
    have hf : Lk (.bool (zrB ⟨0, 0, den, mode, args⟩)) W (.returned (.bool false)) (W.alloc (.cells #[.int .i64 0, .int .i64 0, .int .i64 den, .int .i64 mode, .slice ax args.len cx] 73)) := ⟨by rw [hz, decide_eq_false h2]; simp, hB⟩
    clear hz hB h2
    go_enter Tryz.func128, Tryz.ntmps128
    go_wp2
    go_ret
    exact hf
  subst h2
  by_cases h3 : mode = 0
  rotate_left
  · have g3 : (mode == 0) = false := beq_eq_false_iff_ne.2 h3
    have hf : Lk (.bool (zrB ⟨0, 0, 0, mode, args⟩)) W (.returned (.bool false)) (W.alloc (.cells #[.int .i64 0, .int .i64 0, .int .i64 0, .int .i64 mode, .slice ax args.len cx] 73)) := ⟨by rw [hz, decide_eq_false h3]; simp, hB⟩
    clear hz hB h3
    go_enter Tryz.func128, Tryz.ntmps128
    go_wp2
    go_ret
    exact hf
  subst h3
  by_cases h4 : args.len = 0
  rotate_left
  · have g4 : ((args.len : Int) == 0) = false := by simp; omega
    have g5 : ¬ (args.len : Int) = 0 := by omega
    have hf : Lk (.bool (zrB ⟨0, 0, 0, 0, args⟩)) W (.returned (.bool false)) (W.alloc (.cells #[.int .i64 0, .int .i64 0, .int .i64 0, .int .i64 0, .slice ax args.len cx] 73)) := ⟨by rw [hz, decide_eq_false h4]; rfl, hB⟩
    clear hz hB h4
    go_enter Tryz.func128, Tryz.ntmps128
    go_wp2
    go_ret
    exact hf
  · have g4 : ((args.len : Int) == 0) = true := by simp; omega
    have g5 : (args.len : Int) = 0 := by omega
    have hf : Lk (.bool (zrB ⟨0, 0, 0, 0, args⟩)) W (.returned (.bool true)) (W.alloc (.cells #[.int .i64 0, .int .i64 0, .int .i64 0, .int .i64 0, .slice ax args.len cx] 73)) := ⟨by rw [hz, decide_eq_true h4]; rfl, hB⟩
    clear hz hB h4
    go_enter Tryz.func128, Tryz.ntmps128
    go_wp2
    go_ret
    exact hf
set_option maxRecDepth 20000 in
theorem rows_any (g : List UInt8 × Int) (W : World) : Calls Tryz.prog 32 #[.agg #[.string ⟨g.1.toArray⟩, .int .i64 g.2]] W (Lk (.int .i64 (rwF g)) W) := by
  obtain ⟨nm, r⟩ := g
  simp only
  have hB : Below W.heap.size W (W.alloc (.cells #[.string ⟨nm.toArray⟩, .int .i64 r] 96)) := (Below.refl _ _).alloc (Nat.le_refl _) _
  have hr : rwF (nm, r) = min (max r 0) 8 := rfl
  go_enter Tryz.func32, Tryz.ntmps32
  go_wp2
  go_ret
  exact ⟨rfl, hB⟩
set_option maxRecDepth 20000 in
theorem cellsIn_any (p : Pk) (g : Int) (a3 a4 a5 a6 a7 : Option Addr) (c3 c4 c5 c6 c7 : Nat) (W : World) (hR : RowR eG W AnyB p.grps a5) : Calls Tryz.prog 31 #[.agg #[.string ⟨p.name.toArray⟩, .int .i64 p.year, .slice a3 p.opts.length c3, .slice a4 p.tabs.length c4, .slice a5 p.grps.length c5, .slice a6 p.lns.length c6, .slice a7 p.cks.length c7], .int .i64 g] W (Lk (.int .i64 (ceF p g)) W) := by
  have hq := bx_new W #[.string ⟨p.name.toArray⟩, .int .i64 p.year, .slice a3 p.opts.length c3, .slice a4 p.tabs.length c4, .slice a5 p.grps.length c5, .slice a6 p.lns.length c6, .slice a7 p.cks.length c7] 28
  obtain ⟨W2, hW2⟩ : ∃ W2, W2 = W.alloc (.cells #[.string ⟨p.name.toArray⟩, .int .i64 p.year, .slice a3 p.opts.length c3, .slice a4 p.tabs.length c4, .slice a5 p.grps.length c5, .slice a6 p.lns.length c6, .slice a7 p.cks.length c7] 28) := ⟨_, rfl⟩
  have hB2 : Below W.heap.size W W2 := by rw [hW2]; exact (Below.refl _ _).alloc (Nat.le_refl _) _
  rw [← hW2] at hq
  have hhas := fun X => has_grp a5 p.grps.length c5 g X
  by_cases hg : 0 ≤ g ∧ g < p.grps.length
  · rw [decide_eq_true hg.1, decide_eq_true hg.2] at hhas
    obtain ⟨k, rfl⟩ : ∃ k : Nat, g = (k : Int) := ⟨g.toNat, by omega⟩
    have hk : k < p.grps.length := by omega
    have hce : ceF p (k : Int) = rwF p.grps[k] := by
      unfold ceF
      rw [at?_some hg.1 hg.2]
      rfl
    rw [hce]
    obtain ⟨ge, oe, rfl⟩ := hR.some hk
    have hC : Hid (∀ X, Below W2.heap.size W2 X → X.cell? ⟨W.heap.size, 4, none⟩ = some (.slice (some ⟨ge, oe, none⟩) p.grps.length c5) ∧ X.cell? ⟨ge, oe + k * 2, none⟩ = some (.string ⟨(p.grps[k]).1.toArray⟩) ∧ X.cell? ⟨ge, oe + k * 2 + 1, none⟩ = some (.int .i64 (p.grps[k]).2) ∧ Below W.heap.size W X) := ⟨fun X hX => by
      have hBX := bthr hB2 hX (Nat.le_refl _)
      obtain ⟨cs, -, -, ⟨rfl, -⟩, hcs⟩ := (row_bel hR hBX (Nat.le_refl _)).item hk
      exact ⟨(hq.bel hX hq.1).2.1 4 (by simp), hcs 0 (by decide), hcs 1 (by decide), hBX⟩⟩
    generalize p.grps[k] = y at hC
    obtain ⟨q4, k0, k1, -⟩ := hC.out W2 (Below.refl _ _)
    have hi0 := hg.1
    have hi1 := hg.2
    have hW2H := Hid.mk hW2
    clear hg hce hR hq hW2
    go_enter Tryz.func31, Tryz.ntmps31
    go_wp2_with fail
    rw [← hW2H.out]
    go_wp2_with (first | (go_at_call 70; refine (hhas _).mono ?_; rintro e w1 ⟨rfl, hb1⟩; obtain ⟨f4, f0, f1, hbw⟩ := hC.out w1 hb1) | (go_at_call 32; refine (rows_any y _).mono ?_; rintro e w2 ⟨rfl, hb2⟩; have hb3 := bthr hbw hb2 (Nat.le_refl _)))
    go_ret
    exact ⟨rfl, hb3⟩
  · have hhas2 : (decide (0 ≤ g) && decide (g < p.grps.length)) = false := by
      cases hd : (decide (0 ≤ g) && decide (g < p.grps.length)) with
      | false => rfl
      | true =>
        rw [Bool.and_eq_true, decide_eq_true_eq, decide_eq_true_eq] at hd
        exact absurd hd hg
    rw [hhas2] at hhas
    have hce : ceF p g = 1 := by
      unfold ceF
      rw [at?_none hg]
    rw [hce]
    have q4 := hq.2.1 4 (by simp)
    have hW2H := Hid.mk hW2
    clear hg hhas2 hce hR hq hW2
    go_enter Tryz.func31, Tryz.ntmps31
    go_wp2_with fail
    rw [← hW2H.out]
    go_wp2_with (go_at_call 70; refine (hhas _).mono ?_; rintro e w1 ⟨rfl, hb1⟩; have hb3 := bthr hB2 hb1 (Nat.le_refl _))
    go_ret
    exact ⟨rfl, hb3⟩
end Go.Proofs.YthnmjafoplfikaaGreatDoor


namespace Go.Proofs.YthnmjafoplfikaaGreatDoor
open Go.RowKit

def fsV : Option (Sp × Nat) → Value
  | none => .tuple #[.agg #[.int .i64 0, .int .i64 0, .int .i64 0, .slice none 0 0], .int .i64 0]
  | some (sp, e) => .tuple #[.agg #[.int .i64 sp.part, .int .i64 sp.at_, .int .i64 sp.clause, .slice none 0 0], .int .i64 (e : Int)]
/-- What a part answers. -/
def PtP (p : Pk) (pc : List Value) (cb s : Nat) (sv : Value) (R : Sn × Option (Sp × Nat)) (W : World) (e : Ending) (W' : World) : Prop := e = .returned (fsV R.2) ∧ ∃ sv', CkS p pc cb s W' R.1 sv' ∧ Fr cb W sv W' sv'
theorem fr_step {α : Type} (f : α → Sn → Sn × Nat) (l : List α) {i : Nat} (h : i < l.length) (s : Sn) : frF f (l.drop i) i s = match f l[i] s with
    | (s', 0) => frF f (l.drop (i + 1)) (i + 1) s'
    | (s', e + 1) => (s', some (i, e + 1)) := by
  rw [List.drop_eq_getElem_cons h]
  rfl
/-- A cell behind is set. -/
theorem ck_set {p : Pk} {pc : List Value} {cb s : Nat} {W X : World} {seen : Sn} {sv sv2 : Value} (h : CkS p pc cb s X seen sv2 ∧ Fr cb W sv X sv2) {b : Nat} (h1 : cb + 1 ≤ b) (h2 : W.heap.size ≤ b) (h3 : some b ≠ sv2.ownBlock) (i : Nat) (v : Value) : CkS p pc cb s (X.setCell ⟨b, i, none⟩ v) seen sv2 ∧ Fr cb W sv (X.setCell ⟨b, i, none⟩ v) sv2 :=
  ⟨h.1.gr (gr_set X b i v) (fun c e => by injection e with e; omega) (fun c e => by injection e with e; rw [← e]; exact h3), h.2.gr (gr_set X b i v) (fun c e => by injection e with e; omega)⟩
set_option maxRecDepth 20000 in
set_option maxHeartbeats 2000000 in
theorem first_opt (p : Pk) (a3 a4 a5 a6 a7 : Option Addr) (c3 c4 c5 c6 c7 : Nat) (cb s xb : Nat) (part : Nat) (l : List (List UInt8 × List (List UInt8))) (al : Option Addr) (cl : Nat) (W : World) (seen : Sn) (sv : Value) (h : CkS p (scP p a3 a4 a5 a6 a7 c3 c4 c5 c6 c7) cb s W seen sv) (hl : seen.length + l.length ≤ 1000000) (hx : W.cell? ⟨xb, 0, none⟩ = some (.pointer (some ⟨cb, 0, none⟩))) (hxn : xb ≠ cb) (hxs : some xb ≠ sv.ownBlock) (hR : RowR eOc W (fun b => b < cb) l al) : Calls Tryz.prog 98 #[.int .i64 (part : Int), .slice al l.length cl, .func (Fn.func 99) #[] #[.pointer (some ⟨xb, 0, none⟩)]] W (PtP p (scP p a3 a4 a5 a6 a7 c3 c4 c5 c6 c7) cb s sv ((frF opF l 0 seen).1, itO part (frF opF l 0 seen).2) W) := by
  obtain ⟨R, hRe⟩ : ∃ R, R = frF opF l 0 seen := ⟨_, rfl⟩
  rw [← hRe]
  have hst : Hid (frF opF (l.drop 0) 0 seen = R) := ⟨by rw [hRe]; rfl⟩
  have hxl := World.block_lt_of_cell? _ _ hx
  have hcb := h.lt
  obtain ⟨W1, hW1⟩ : ∃ W1, W1 = W.alloc (.cells #[.int .i64 0, .int .i64 0, .int .i64 0, .slice none 0 0] 105) := ⟨_, rfl⟩
  have hB1 : Below W.heap.size W W1 := by rw [hW1]; exact (Below.refl _ _).alloc (Nat.le_refl _) _
  have hbz : Bx W1 W.heap.size [.int .i64 0, .int .i64 0, .int .i64 0, .slice none 0 0] := by rw [hW1]; exact bx_new _ _ _
  obtain ⟨Q, hQ⟩ : ∃ Q, PtP p (scP p a3 a4 a5 a6 a7 c3 c4 c5 c6 c7) cb s sv (R.1, itO part R.2) W = Q := ⟨_, rfl⟩
  rw [hQ]
  have hQH := Hid.mk hQ
  have hW1H := Hid.mk hW1
  clear hRe hQ hW1
  go_enter Tryz.func98, Tryz.ntmps98
  go_wp2
  rw [← hW1H.out]
  clear hW1H
  go_loopw [13] (fun iv wr => ∃ (i : Nat) (sn : Sn) (sv2 : Value), iv = .int .i64 (i : Int) ∧ i ≤ l.length ∧ Hid (sn.length = seen.length + i) ∧ CkS p (scP p a3 a4 a5 a6 a7 c3 c4 c5 c6 c7) cb s wr sn sv2 ∧ Fr cb W1 sv wr sv2 ∧ Hid (frF opF (l.drop i) i sn = R)) (fun iv _ => l.length - (intOf iv).toNat)
  case atStart => exact ⟨0, seen, sv, rfl, Nat.zero_le _, ⟨rfl⟩, h.bel hB1, Fr.refl _ _ _, hst⟩
  case round =>
    obtain ⟨i, sn, sv2, rfl, hi, hsn, hkr, hFr, hinv⟩ := hrel
    have hsv : ∀ b, b < W1.heap.size → b ≠ cb → some b ≠ sv.ownBlock → some b ≠ sv2.ownBlock := fun b hb h1 h2 => by
      rcases hFr.new with e | ⟨c, e, hc⟩
      · rw [e]; exact h2
      · rw [e]; intro e2; injection e2 with e2; omega
    have hrz : some W.heap.size ≠ sv.ownBlock := fun e => by
      have := (h.pg _ e.symm).2
      omega
    have hW1s : W.heap.size < W1.heap.size := hbz.1
    have hFW : Fr cb W sv wr sv2 := (Fr.bel hB1 _).trans hFr
    have hbr := hFr.box hbz (by omega) hrz
    by_cases hlt : i < l.length
    · have hlt' : (i : Int) < (l.length : Int) := by omega
      have hi0 : (0 : Int) ≤ (i : Int) := by omega
      have hRr : RowR eOc wr (fun b => b < cb) l al := hR.fr hFW.size (fun b hb hbl => hFW.blk b hbl (by omega) (fun e => by have := (h.pg b e.symm).1; omega))
      obtain ⟨ge, oe, rfl⟩ := hRr.some hlt
      obtain ⟨cs, -, hge, ⟨an, cn, rfl, hRn, hcn⟩, hcs⟩ := hRr.item hlt
      have kx : wr.cell? ⟨ge, oe + i * 2, none⟩ = some (.string ⟨l[i].1.toArray⟩) ∧ wr.cell? ⟨ge, oe + i * 2 + 1, none⟩ = some (.slice an l[i].2.length cn) := ⟨hcs 0 (by decide), hcs 1 (by decide)⟩
      have hinv2 := hinv.out
      rw [fr_step opF l hlt] at hinv2
      have hxr : wr.cell? ⟨xb, 0, none⟩ = some (.pointer (some ⟨cb, 0, none⟩)) := (World.cell?_of_block (a := ⟨xb, 0, none⟩) (hFW.blk xb hxl hxn hxs)).trans hx
      have hsx := hsv xb (Nat.lt_of_lt_of_le hxl hB1.size) hxn hxs
      have hsr := hsv W.heap.size hW1s (by omega) hrz
      have hls : sn.length ≤ 1000000 := by have := hsn.out; omega
      generalize l[i] = y at kx hinv2 hRn hcn
      obtain ⟨X0, hX0⟩ : ∃ X0, X0 = wr.alloc (.cells #[.string ⟨y.1.toArray⟩, .slice an y.2.length cn] 66) := ⟨_, rfl⟩
      have hB0 : Below wr.heap.size wr X0 := by rw [hX0]; exact (Below.refl _ _).alloc (Nat.le_refl _) _
      have hk0 := hkr.bel hB0
      have hxl2 := World.block_lt_of_cell? _ _ hxr
      have hx0 := (bel_cell hB0 hxl2 0).trans hxr
      have hby : Bx X0 wr.heap.size [.string ⟨y.1.toArray⟩, .slice an y.2.length cn] := by rw [hX0]; exact bx_new _ _ _
      skip
      have hcall := opt1_any p (scP p a3 a4 a5 a6 a7 c3 c4 c5 c6 c7) cb s xb y.1 y.2 an cn X0 sn sv2 hk0 hls hx0 (hRn.fr hB0.size (fun b _ hlt => hB0.block b hlt)) hcn
      obtain ⟨d0, d1⟩ := kx
      have hX0H := Hid.mk hX0
      clear hcs hRr hinv hX0
      go_wp2_with fail
      rw [← hX0H.out]
      clear hX0H
      have hFW0 : Fr cb W sv X0 sv2 := hFW.trans (Fr.bel hB0 _)
      have hbr0 := hbr.bel hB0 hbr.1
      have hne1 : W.heap.size ≠ cb := by omega
      have hF01 : ∀ w3 sv3, Fr cb X0 sv2 w3 sv3 → Bx w3 W.heap.size [.int .i64 0, .int .i64 0, .int .i64 0, .slice none 0 0] ∧ some W.heap.size ≠ sv3.ownBlock := fun w3 sv3 hF3 => ⟨hF3.box hbr0 hne1 hsr, by
        rcases hF3.new with e | ⟨c, e, hc⟩
        · rw [e]; exact hsr
        · rw [e]; intro e2; injection e2 with e2; have := hbr0.1; omega⟩
      have hF01H := Hid.mk hF01
      have hrb1 : cb + 1 ≤ W.heap.size := hcb
      have hrb2 : W.heap.size ≤ W.heap.size := Nat.le_refl _
      obtain ⟨rr, hrr⟩ : ∃ rr, opF y sn = rr := ⟨_, rfl⟩
      have hfst : rr.1.length = sn.length + 1 := by rw [← hrr]; show (sn ++ [_]).length = _; rw [List.length_append, List.length_singleton]
      rw [hrr] at hinv2 hcall
      clear hrr hF01
      obtain ⟨s2, e2⟩ := rr
      have hfH := Hid.mk hfst
      clear hfst
      cases e2 with
      | zero =>
        have hs2 := Hid.mk hinv2
        clear hinv2
        refine hcall.mono ?_
        clear hcall
        rintro e w3 ⟨rfl, sv3, hk3, hF3⟩
        have hFf : Fr cb W1 sv w3 sv3 := (hFr.trans (Fr.bel hB0 _)).trans hF3
        go_wp2
        exact ⟨⟨i + 1, s2, sv3, rfl, hlt, ⟨by have h1 : s2.length = sn.length + 1 := hfH.out; have h2 := hsn.out; omega⟩, hk3, hFf, hs2⟩, by simp only [intOf]; omega⟩
      | succ e3 =>
        have hs2 := Hid.mk hinv2
        clear hinv2
        have hne : (((e3 + 1 : Nat) : Int) != 0) = true := by simp; omega
        refine hcall.mono ?_
        clear hcall
        rintro e w3 ⟨rfl, sv3, hk3, hF3⟩
        obtain ⟨hbr3, hrb3⟩ := hF01H.out w3 sv3 hF3
        have hk_st : CkS p (scP p a3 a4 a5 a6 a7 c3 c4 c5 c6 c7) cb s w3 s2 sv3 ∧ Fr cb W sv w3 sv3 := ⟨hk3, hFW0.trans hF3⟩
        have hq0 := hbr3
        have kg0 : w3.cell? ⟨W.heap.size, 0, none⟩ = some (.int .i64 0) := hq0.2.1 0 (by simp)
        have kh0 := hq0.2.2 0; have kl0 := hq0.1
        obtain ⟨X1, hx0⟩ : ∃ X1, w3.setCell ⟨W.heap.size, 0, none⟩ (.int .i64 (part : Int)) = X1 := ⟨_, rfl⟩
        have hq1 : Bx X1 W.heap.size [(.int .i64 (part : Int)), (.int .i64 0), (.int .i64 0), (.slice none 0 0)] := (by rw [← hx0]; exact hq0.set 0 (.int .i64 (part : Int)))
        have kg1 : X1.cell? ⟨W.heap.size, 1, none⟩ = some (.int .i64 0) := hq1.2.1 1 (by simp)
        have kh1 := hq1.2.2 1; have kl1 := hq1.1
        obtain ⟨X2, hx1⟩ : ∃ X2, X1.setCell ⟨W.heap.size, 1, none⟩ (.int .i64 (i : Int)) = X2 := ⟨_, rfl⟩
        have hq2 : Bx X2 W.heap.size [(.int .i64 (part : Int)), (.int .i64 (i : Int)), (.int .i64 0), (.slice none 0 0)] := (by rw [← hx1]; exact hq1.set 1 (.int .i64 (i : Int)))
        have kg2 : X2.cell? ⟨W.heap.size, 2, none⟩ = some (.int .i64 0) := hq2.2.1 2 (by simp)
        have kh2 := hq2.2.2 2; have kl2 := hq2.1
        obtain ⟨X3, hx2⟩ : ∃ X3, X2.setCell ⟨W.heap.size, 2, none⟩ (.int .i64 (-1)) = X3 := ⟨_, rfl⟩
        have hq3 : Bx X3 W.heap.size [(.int .i64 (part : Int)), (.int .i64 (i : Int)), (.int .i64 (-1)), (.slice none 0 0)] := (by rw [← hx2]; exact hq2.set 2 (.int .i64 (-1)))
        have kg3 : X3.cell? ⟨W.heap.size, 3, none⟩ = some (.slice none 0 0) := hq3.2.1 3 (by simp)
        have kh3 := hq3.2.2 3; have kl3 := hq3.1
        obtain ⟨X4, hx3⟩ : ∃ X4, X3.setCell ⟨W.heap.size, 3, none⟩ (.slice none 0 0) = X4 := ⟨_, rfl⟩
        have hq4 : Bx X4 W.heap.size [(.int .i64 (part : Int)), (.int .i64 (i : Int)), (.int .i64 (-1)), (.slice none 0 0)] := (by rw [← hx3]; exact hq3.set 3 (.slice none 0 0))
        have ht0 := hk_st
        have ht1 : CkS p (scP p a3 a4 a5 a6 a7 c3 c4 c5 c6 c7) cb s X1 s2 sv3 ∧ Fr cb W sv X1 sv3 := (by rw [← hx0]; exact ck_set ht0 hrb1 hrb2 hrb3 0 (.int .i64 (part : Int)))
        have ht2 : CkS p (scP p a3 a4 a5 a6 a7 c3 c4 c5 c6 c7) cb s X2 s2 sv3 ∧ Fr cb W sv X2 sv3 := (by rw [← hx1]; exact ck_set ht1 hrb1 hrb2 hrb3 1 (.int .i64 (i : Int)))
        have ht3 : CkS p (scP p a3 a4 a5 a6 a7 c3 c4 c5 c6 c7) cb s X3 s2 sv3 ∧ Fr cb W sv X3 sv3 := (by rw [← hx2]; exact ck_set ht2 hrb1 hrb2 hrb3 2 (.int .i64 (-1)))
        have ht4 : CkS p (scP p a3 a4 a5 a6 a7 c3 c4 c5 c6 c7) cb s X4 s2 sv3 ∧ Fr cb W sv X4 sv3 := (by rw [← hx3]; exact ck_set ht3 hrb1 hrb2 hrb3 3 (.slice none 0 0))
        have hB5 : Below X4.heap.size X4 (X4.alloc (.cells #[.int .i64 (part : Int), .int .i64 (i : Int), .int .i64 (-1), .slice none 0 0] 105)) := (Below.refl _ _).alloc (Nat.le_refl _) _
        have hff : Q (.returned (.tuple #[.agg #[.int .i64 (part : Int), .int .i64 (i : Int), .int .i64 (-1), .slice none 0 0], .int .i64 ((e3 + 1 : Nat) : Int)])) (X4.alloc (.cells #[.int .i64 (part : Int), .int .i64 (i : Int), .int .i64 (-1), .slice none 0 0] 105)) := by
          rw [← hQH.out, ← hs2.out]
          exact ⟨rfl, sv3, ht4.1.bel hB5, ht4.2.trans (Fr.bel hB5 _)⟩
        have hq5 := hq4.bel hB5 hq4.1
        have f0 := hq5.2.1 0 (by simp)
        have f1 := hq5.2.1 1 (by simp)
        have f2 := hq5.2.1 2 (by simp)
        have f3 := hq5.2.1 3 (by simp)
        have l4 : W.heap.size < X4.heap.size := hq4.1
        clear hq0 hq1 hq2 hq3 hq4 hq5 ht0 ht1 ht2 ht3 ht4 hk_st hs2
        go_wp2_with (go_at_call 96; refine (itemAt_any _ _ _).mono ?_; rintro e w4 ⟨rfl, rfl⟩)
        exact bodyPost_ret (v := .tuple #[.agg #[.int .i64 (part : Int), .int .i64 (i : Int), .int .i64 (-1), .slice none 0 0], .int .i64 ((e3 + 1 : Nat) : Int)]) (by simp [results, Tryz.results98, go_sem, f0, f1, f2, f3]) rfl hff
    · have hlt' : ¬ (i : Int) < (l.length : Int) := by omega
      have hri := hinv.out
      rw [List.drop_eq_nil_of_le (by omega)] at hri
      have hff : Q (.returned (.tuple #[.agg #[.int .i64 0, .int .i64 0, .int .i64 0, .slice none 0 0], .int .i64 0])) wr := by
        rw [← hQH.out, ← hri]
        exact ⟨rfl, sv2, hkr, hFW⟩
      have f0 := hbr.2.1 0 (by simp)
      have f1 := hbr.2.1 1 (by simp)
      have f2 := hbr.2.1 2 (by simp)
      have f3 := hbr.2.1 3 (by simp)
      have z0 := hbr.2.2 0
      have z1 := hbr.2.2 1
      have z2 := hbr.2.2 2
      have z3 := hbr.2.2 3
      have j0 := set_id f0
      have j1 := set_id f1
      have j2 := set_id f2
      have j3 := set_id f3
      clear hinv hri
      go_wp2
      exact bodyPost_ret (v := .tuple #[.agg #[.int .i64 0, .int .i64 0, .int .i64 0, .slice none 0 0], .int .i64 0]) (by simp at f0 f1 f2 f3; simp [results, Tryz.results98, go_sem, f0, f1, f2, f3]) rfl hff
end Go.Proofs.YthnmjafoplfikaaGreatDoor


namespace Go.Proofs.YthnmjafoplfikaaGreatDoor
open Go.RowKit

set_option maxRecDepth 20000 in
set_option maxHeartbeats 2000000 in
theorem first_chk (p : Pk) (a3 a4 a5 a6 a7 : Option Addr) (c3 c4 c5 c6 c7 : Nat) (cb s xb : Nat) (part : Nat) (l : List Ck) (al : Option Addr) (cl : Nat) (W : World) (seen : Sn) (sv : Value) (h : CkS p (scP p a3 a4 a5 a6 a7 c3 c4 c5 c6 c7) cb s W seen sv) (hl : seen.length + l.length ≤ 1000000) (hx : W.cell? ⟨xb, 0, none⟩ = some (.pointer (some ⟨cb, 0, none⟩))) (hxn : xb ≠ cb) (hxs : some xb ≠ sv.ownBlock) (hR : RowR eK W (fun b => b < cb) l al) : Calls Tryz.prog 109 #[.int .i64 (part : Int), .slice al l.length cl, .func (Fn.func 110) #[] #[.pointer (some ⟨xb, 0, none⟩)]] W (PtP p (scP p a3 a4 a5 a6 a7 c3 c4 c5 c6 c7) cb s sv ((frF (ckF p) l 0 seen).1, itO part (frF (ckF p) l 0 seen).2) W) := by
  obtain ⟨R, hRe⟩ : ∃ R, R = frF (ckF p) l 0 seen := ⟨_, rfl⟩
  rw [← hRe]
  have hst : Hid (frF (ckF p) (l.drop 0) 0 seen = R) := ⟨by rw [hRe]; rfl⟩
  have hxl := World.block_lt_of_cell? _ _ hx
  have hcb := h.lt
  obtain ⟨W1, hW1⟩ : ∃ W1, W1 = W.alloc (.cells #[.int .i64 0, .int .i64 0, .int .i64 0, .slice none 0 0] 105) := ⟨_, rfl⟩
  have hB1 : Below W.heap.size W W1 := by rw [hW1]; exact (Below.refl _ _).alloc (Nat.le_refl _) _
  have hbz : Bx W1 W.heap.size [.int .i64 0, .int .i64 0, .int .i64 0, .slice none 0 0] := by rw [hW1]; exact bx_new _ _ _
  obtain ⟨Q, hQ⟩ : ∃ Q, PtP p (scP p a3 a4 a5 a6 a7 c3 c4 c5 c6 c7) cb s sv (R.1, itO part R.2) W = Q := ⟨_, rfl⟩
  rw [hQ]
  have hQH := Hid.mk hQ
  have hW1H := Hid.mk hW1
  clear hRe hQ hW1
  go_enter Tryz.func109, Tryz.ntmps109
  go_wp2
  rw [← hW1H.out]
  clear hW1H
  go_loopw [13] (fun iv wr => ∃ (i : Nat) (sn : Sn) (sv2 : Value), iv = .int .i64 (i : Int) ∧ i ≤ l.length ∧ Hid (sn.length = seen.length + i) ∧ CkS p (scP p a3 a4 a5 a6 a7 c3 c4 c5 c6 c7) cb s wr sn sv2 ∧ Fr cb W1 sv wr sv2 ∧ Hid (frF (ckF p) (l.drop i) i sn = R)) (fun iv _ => l.length - (intOf iv).toNat)
  case atStart => exact ⟨0, seen, sv, rfl, Nat.zero_le _, ⟨rfl⟩, h.bel hB1, Fr.refl _ _ _, hst⟩
  case round =>
    obtain ⟨i, sn, sv2, rfl, hi, hsn, hkr, hFr, hinv⟩ := hrel
    have hsv : ∀ b, b < W1.heap.size → b ≠ cb → some b ≠ sv.ownBlock → some b ≠ sv2.ownBlock := fun b hb h1 h2 => by
      rcases hFr.new with e | ⟨c, e, hc⟩
      · rw [e]; exact h2
      · rw [e]; intro e2; injection e2 with e2; omega
    have hrz : some W.heap.size ≠ sv.ownBlock := fun e => by
      have := (h.pg _ e.symm).2
      omega
    have hW1s : W.heap.size < W1.heap.size := hbz.1
    have hFW : Fr cb W sv wr sv2 := (Fr.bel hB1 _).trans hFr
    have hbr := hFr.box hbz (by omega) hrz
    by_cases hlt : i < l.length
    · have hlt' : (i : Int) < (l.length : Int) := by omega
      have hi0 : (0 : Int) ≤ (i : Int) := by omega
      have hRr : RowR eK wr (fun b => b < cb) l al := hR.fr hFW.size (fun b hb hbl => hFW.blk b hbl (by omega) (fun e => by have := (h.pg b e.symm).1; omega))
      obtain ⟨ge, oe, rfl⟩ := hRr.some hlt
      obtain ⟨cs, -, hge, ⟨an, cn, rfl, -⟩, hcs⟩ := hRr.item hlt
      have kx : wr.cell? ⟨ge, oe + i * 9, none⟩ = some (.string ⟨l[i].name.toArray⟩) ∧ wr.cell? ⟨ge, oe + i * 9 + 1, none⟩ = some (.bool l[i].hard) ∧ wr.cell? ⟨ge, oe + i * 9 + 2, none⟩ = some (.int .i64 l[i].group) ∧ wr.cell? ⟨ge, oe + i * 9 + 3, none⟩ = some (.int .i64 l[i].when_.op) ∧ wr.cell? ⟨ge, oe + i * 9 + 4, none⟩ = some (.int .i64 l[i].when_.num) ∧ wr.cell? ⟨ge, oe + i * 9 + 5, none⟩ = some (.int .i64 l[i].when_.den) ∧ wr.cell? ⟨ge, oe + i * 9 + 6, none⟩ = some (.int .i64 l[i].when_.mode) ∧ wr.cell? ⟨ge, oe + i * 9 + 7, none⟩ = some (.slice an l[i].when_.args.len cn) ∧ wr.cell? ⟨ge, oe + i * 9 + 8, none⟩ = some (.string ⟨l[i].text.toArray⟩) := ⟨hcs 0 (by decide), hcs 1 (by decide), hcs 2 (by decide), hcs 3 (by decide), hcs 4 (by decide), hcs 5 (by decide), hcs 6 (by decide), hcs 7 (by decide), hcs 8 (by decide)⟩
      have hinv2 := hinv.out
      rw [fr_step (ckF p) l hlt] at hinv2
      have hxr : wr.cell? ⟨xb, 0, none⟩ = some (.pointer (some ⟨cb, 0, none⟩)) := (World.cell?_of_block (a := ⟨xb, 0, none⟩) (hFW.blk xb hxl hxn hxs)).trans hx
      have hsx := hsv xb (Nat.lt_of_lt_of_le hxl hB1.size) hxn hxs
      have hsr := hsv W.heap.size hW1s (by omega) hrz
      have hls : sn.length ≤ 1000000 := by have := hsn.out; omega
      generalize l[i] = y at kx hinv2
      obtain ⟨X0, hX0⟩ : ∃ X0, X0 = wr.alloc (.cells #[.string ⟨y.name.toArray⟩, .bool y.hard, .int .i64 y.group, .int .i64 y.when_.op, .int .i64 y.when_.num, .int .i64 y.when_.den, .int .i64 y.when_.mode, .slice an y.when_.args.len cn, .string ⟨y.text.toArray⟩] 75) := ⟨_, rfl⟩
      have hB0 : Below wr.heap.size wr X0 := by rw [hX0]; exact (Below.refl _ _).alloc (Nat.le_refl _) _
      have hk0 := hkr.bel hB0
      have hxl2 := World.block_lt_of_cell? _ _ hxr
      have hx0 := (bel_cell hB0 hxl2 0).trans hxr
      have hby : Bx X0 wr.heap.size [.string ⟨y.name.toArray⟩, .bool y.hard, .int .i64 y.group, .int .i64 y.when_.op, .int .i64 y.when_.num, .int .i64 y.when_.den, .int .i64 y.when_.mode, .slice an y.when_.args.len cn, .string ⟨y.text.toArray⟩] := by rw [hX0]; exact bx_new _ _ _
      skip
      have hcall := chk1_any p a3 a4 a5 a6 a7 c3 c4 c5 c6 c7 cb s xb y an cn X0 sn sv2 hk0 hls hx0 hxn hsx
      obtain ⟨d0, d1, d2, d3, d4, d5, d6, d7, d8⟩ := kx
      have hX0H := Hid.mk hX0
      clear hcs hRr hinv hX0
      go_wp2_with fail
      rw [← hX0H.out]
      clear hX0H
      have hFW0 : Fr cb W sv X0 sv2 := hFW.trans (Fr.bel hB0 _)
      have hbr0 := hbr.bel hB0 hbr.1
      have hne1 : W.heap.size ≠ cb := by omega
      have hF01 : ∀ w3 sv3, Fr cb X0 sv2 w3 sv3 → Bx w3 W.heap.size [.int .i64 0, .int .i64 0, .int .i64 0, .slice none 0 0] ∧ some W.heap.size ≠ sv3.ownBlock := fun w3 sv3 hF3 => ⟨hF3.box hbr0 hne1 hsr, by
        rcases hF3.new with e | ⟨c, e, hc⟩
        · rw [e]; exact hsr
        · rw [e]; intro e2; injection e2 with e2; have := hbr0.1; omega⟩
      have hF01H := Hid.mk hF01
      have hrb1 : cb + 1 ≤ W.heap.size := hcb
      have hrb2 : W.heap.size ≤ W.heap.size := Nat.le_refl _
      obtain ⟨rr, hrr⟩ : ∃ rr, (ckF p) y sn = rr := ⟨_, rfl⟩
      have hfst : rr.1.length = sn.length + 1 := by rw [← hrr]; show (sn ++ [_]).length = _; rw [List.length_append, List.length_singleton]
      rw [hrr] at hinv2 hcall
      clear hrr hF01
      obtain ⟨s2, e2⟩ := rr
      have hfH := Hid.mk hfst
      clear hfst
      cases e2 with
      | zero =>
        have hs2 := Hid.mk hinv2
        clear hinv2
        refine hcall.mono ?_
        clear hcall
        rintro e w3 ⟨rfl, sv3, hk3, hF3⟩
        have hFf : Fr cb W1 sv w3 sv3 := (hFr.trans (Fr.bel hB0 _)).trans hF3
        go_wp2
        exact ⟨⟨i + 1, s2, sv3, rfl, hlt, ⟨by have h1 : s2.length = sn.length + 1 := hfH.out; have h2 := hsn.out; omega⟩, hk3, hFf, hs2⟩, by simp only [intOf]; omega⟩
      | succ e3 =>
        have hs2 := Hid.mk hinv2
        clear hinv2
        have hne : (((e3 + 1 : Nat) : Int) != 0) = true := by simp; omega
        refine hcall.mono ?_
        clear hcall
        rintro e w3 ⟨rfl, sv3, hk3, hF3⟩
        obtain ⟨hbr3, hrb3⟩ := hF01H.out w3 sv3 hF3
        have hk_st : CkS p (scP p a3 a4 a5 a6 a7 c3 c4 c5 c6 c7) cb s w3 s2 sv3 ∧ Fr cb W sv w3 sv3 := ⟨hk3, hFW0.trans hF3⟩
        have hq0 := hbr3
        have kg0 : w3.cell? ⟨W.heap.size, 0, none⟩ = some (.int .i64 0) := hq0.2.1 0 (by simp)
        have kh0 := hq0.2.2 0; have kl0 := hq0.1
        obtain ⟨X1, hx0⟩ : ∃ X1, w3.setCell ⟨W.heap.size, 0, none⟩ (.int .i64 (part : Int)) = X1 := ⟨_, rfl⟩
        have hq1 : Bx X1 W.heap.size [(.int .i64 (part : Int)), (.int .i64 0), (.int .i64 0), (.slice none 0 0)] := (by rw [← hx0]; exact hq0.set 0 (.int .i64 (part : Int)))
        have kg1 : X1.cell? ⟨W.heap.size, 1, none⟩ = some (.int .i64 0) := hq1.2.1 1 (by simp)
        have kh1 := hq1.2.2 1; have kl1 := hq1.1
        obtain ⟨X2, hx1⟩ : ∃ X2, X1.setCell ⟨W.heap.size, 1, none⟩ (.int .i64 (i : Int)) = X2 := ⟨_, rfl⟩
        have hq2 : Bx X2 W.heap.size [(.int .i64 (part : Int)), (.int .i64 (i : Int)), (.int .i64 0), (.slice none 0 0)] := (by rw [← hx1]; exact hq1.set 1 (.int .i64 (i : Int)))
        have kg2 : X2.cell? ⟨W.heap.size, 2, none⟩ = some (.int .i64 0) := hq2.2.1 2 (by simp)
        have kh2 := hq2.2.2 2; have kl2 := hq2.1
        obtain ⟨X3, hx2⟩ : ∃ X3, X2.setCell ⟨W.heap.size, 2, none⟩ (.int .i64 (-1)) = X3 := ⟨_, rfl⟩
        have hq3 : Bx X3 W.heap.size [(.int .i64 (part : Int)), (.int .i64 (i : Int)), (.int .i64 (-1)), (.slice none 0 0)] := (by rw [← hx2]; exact hq2.set 2 (.int .i64 (-1)))
        have kg3 : X3.cell? ⟨W.heap.size, 3, none⟩ = some (.slice none 0 0) := hq3.2.1 3 (by simp)
        have kh3 := hq3.2.2 3; have kl3 := hq3.1
        obtain ⟨X4, hx3⟩ : ∃ X4, X3.setCell ⟨W.heap.size, 3, none⟩ (.slice none 0 0) = X4 := ⟨_, rfl⟩
        have hq4 : Bx X4 W.heap.size [(.int .i64 (part : Int)), (.int .i64 (i : Int)), (.int .i64 (-1)), (.slice none 0 0)] := (by rw [← hx3]; exact hq3.set 3 (.slice none 0 0))
        have ht0 := hk_st
        have ht1 : CkS p (scP p a3 a4 a5 a6 a7 c3 c4 c5 c6 c7) cb s X1 s2 sv3 ∧ Fr cb W sv X1 sv3 := (by rw [← hx0]; exact ck_set ht0 hrb1 hrb2 hrb3 0 (.int .i64 (part : Int)))
        have ht2 : CkS p (scP p a3 a4 a5 a6 a7 c3 c4 c5 c6 c7) cb s X2 s2 sv3 ∧ Fr cb W sv X2 sv3 := (by rw [← hx1]; exact ck_set ht1 hrb1 hrb2 hrb3 1 (.int .i64 (i : Int)))
        have ht3 : CkS p (scP p a3 a4 a5 a6 a7 c3 c4 c5 c6 c7) cb s X3 s2 sv3 ∧ Fr cb W sv X3 sv3 := (by rw [← hx2]; exact ck_set ht2 hrb1 hrb2 hrb3 2 (.int .i64 (-1)))
        have ht4 : CkS p (scP p a3 a4 a5 a6 a7 c3 c4 c5 c6 c7) cb s X4 s2 sv3 ∧ Fr cb W sv X4 sv3 := (by rw [← hx3]; exact ck_set ht3 hrb1 hrb2 hrb3 3 (.slice none 0 0))
        have hB5 : Below X4.heap.size X4 (X4.alloc (.cells #[.int .i64 (part : Int), .int .i64 (i : Int), .int .i64 (-1), .slice none 0 0] 105)) := (Below.refl _ _).alloc (Nat.le_refl _) _
        have hff : Q (.returned (.tuple #[.agg #[.int .i64 (part : Int), .int .i64 (i : Int), .int .i64 (-1), .slice none 0 0], .int .i64 ((e3 + 1 : Nat) : Int)])) (X4.alloc (.cells #[.int .i64 (part : Int), .int .i64 (i : Int), .int .i64 (-1), .slice none 0 0] 105)) := by
          rw [← hQH.out, ← hs2.out]
          exact ⟨rfl, sv3, ht4.1.bel hB5, ht4.2.trans (Fr.bel hB5 _)⟩
        have hq5 := hq4.bel hB5 hq4.1
        have f0 := hq5.2.1 0 (by simp)
        have f1 := hq5.2.1 1 (by simp)
        have f2 := hq5.2.1 2 (by simp)
        have f3 := hq5.2.1 3 (by simp)
        have l4 : W.heap.size < X4.heap.size := hq4.1
        clear hq0 hq1 hq2 hq3 hq4 hq5 ht0 ht1 ht2 ht3 ht4 hk_st hs2
        go_wp2_with (go_at_call 96; refine (itemAt_any _ _ _).mono ?_; rintro e w4 ⟨rfl, rfl⟩)
        exact bodyPost_ret (v := .tuple #[.agg #[.int .i64 (part : Int), .int .i64 (i : Int), .int .i64 (-1), .slice none 0 0], .int .i64 ((e3 + 1 : Nat) : Int)]) (by simp [results, Tryz.results109, go_sem, f0, f1, f2, f3]) rfl hff
    · have hlt' : ¬ (i : Int) < (l.length : Int) := by omega
      have hri := hinv.out
      rw [List.drop_eq_nil_of_le (by omega)] at hri
      have hff : Q (.returned (.tuple #[.agg #[.int .i64 0, .int .i64 0, .int .i64 0, .slice none 0 0], .int .i64 0])) wr := by
        rw [← hQH.out, ← hri]
        exact ⟨rfl, sv2, hkr, hFW⟩
      have f0 := hbr.2.1 0 (by simp)
      have f1 := hbr.2.1 1 (by simp)
      have f2 := hbr.2.1 2 (by simp)
      have f3 := hbr.2.1 3 (by simp)
      have z0 := hbr.2.2 0
      have z1 := hbr.2.2 1
      have z2 := hbr.2.2 2
      have z3 := hbr.2.2 3
      have j0 := set_id f0
      have j1 := set_id f1
      have j2 := set_id f2
      have j3 := set_id f3
      clear hinv hri
      go_wp2
      exact bodyPost_ret (v := .tuple #[.agg #[.int .i64 0, .int .i64 0, .int .i64 0, .slice none 0 0], .int .i64 0]) (by simp at f0 f1 f2 f3; simp [results, Tryz.results109, go_sem, f0, f1, f2, f3]) rfl hff
end Go.Proofs.YthnmjafoplfikaaGreatDoor


namespace Go.Proofs.YthnmjafoplfikaaGreatDoor
open Go.RowKit

set_option maxRecDepth 20000 in
set_option maxHeartbeats 2000000 in
theorem first_grp (p : Pk) (a3 a4 a5 a6 a7 : Option Addr) (c3 c4 c5 c6 c7 : Nat) (cb s xb : Nat) (part : Nat) (l : List (List UInt8 × Int)) (al : Option Addr) (cl : Nat) (W : World) (seen : Sn) (sv : Value) (h : CkS p (scP p a3 a4 a5 a6 a7 c3 c4 c5 c6 c7) cb s W seen sv) (hl : seen.length + l.length ≤ 1000000) (hx : W.cell? ⟨xb, 0, none⟩ = some (.pointer (some ⟨cb, 0, none⟩))) (hxn : xb ≠ cb) (hxs : some xb ≠ sv.ownBlock) (hR : RowR eG W (fun b => b < cb) l al) : Calls Tryz.prog 105 #[.int .i64 (part : Int), .slice al l.length cl, .func (Fn.func 106) #[] #[.pointer (some ⟨xb, 0, none⟩)]] W (PtP p (scP p a3 a4 a5 a6 a7 c3 c4 c5 c6 c7) cb s sv ((frF gpF l 0 seen).1, itO part (frF gpF l 0 seen).2) W) := by
  obtain ⟨R, hRe⟩ : ∃ R, R = frF gpF l 0 seen := ⟨_, rfl⟩
  rw [← hRe]
  have hst : Hid (frF gpF (l.drop 0) 0 seen = R) := ⟨by rw [hRe]; rfl⟩
  have hxl := World.block_lt_of_cell? _ _ hx
  have hcb := h.lt
  obtain ⟨W1, hW1⟩ : ∃ W1, W1 = W.alloc (.cells #[.int .i64 0, .int .i64 0, .int .i64 0, .slice none 0 0] 105) := ⟨_, rfl⟩
  have hB1 : Below W.heap.size W W1 := by rw [hW1]; exact (Below.refl _ _).alloc (Nat.le_refl _) _
  have hbz : Bx W1 W.heap.size [.int .i64 0, .int .i64 0, .int .i64 0, .slice none 0 0] := by rw [hW1]; exact bx_new _ _ _
  obtain ⟨Q, hQ⟩ : ∃ Q, PtP p (scP p a3 a4 a5 a6 a7 c3 c4 c5 c6 c7) cb s sv (R.1, itO part R.2) W = Q := ⟨_, rfl⟩
  rw [hQ]
  have hQH := Hid.mk hQ
  have hW1H := Hid.mk hW1
  clear hRe hQ hW1
  go_enter Tryz.func105, Tryz.ntmps105
  go_wp2
  rw [← hW1H.out]
  clear hW1H
  go_loopw [13] (fun iv wr => ∃ (i : Nat) (sn : Sn) (sv2 : Value), iv = .int .i64 (i : Int) ∧ i ≤ l.length ∧ Hid (sn.length = seen.length + i) ∧ CkS p (scP p a3 a4 a5 a6 a7 c3 c4 c5 c6 c7) cb s wr sn sv2 ∧ Fr cb W1 sv wr sv2 ∧ Hid (frF gpF (l.drop i) i sn = R)) (fun iv _ => l.length - (intOf iv).toNat)
  case atStart => exact ⟨0, seen, sv, rfl, Nat.zero_le _, ⟨rfl⟩, h.bel hB1, Fr.refl _ _ _, hst⟩
  case round =>
    obtain ⟨i, sn, sv2, rfl, hi, hsn, hkr, hFr, hinv⟩ := hrel
    have hsv : ∀ b, b < W1.heap.size → b ≠ cb → some b ≠ sv.ownBlock → some b ≠ sv2.ownBlock := fun b hb h1 h2 => by
      rcases hFr.new with e | ⟨c, e, hc⟩
      · rw [e]; exact h2
      · rw [e]; intro e2; injection e2 with e2; omega
    have hrz : some W.heap.size ≠ sv.ownBlock := fun e => by
      have := (h.pg _ e.symm).2
      omega
    have hW1s : W.heap.size < W1.heap.size := hbz.1
    have hFW : Fr cb W sv wr sv2 := (Fr.bel hB1 _).trans hFr
    have hbr := hFr.box hbz (by omega) hrz
    by_cases hlt : i < l.length
    · have hlt' : (i : Int) < (l.length : Int) := by omega
      have hi0 : (0 : Int) ≤ (i : Int) := by omega
      have hRr : RowR eG wr (fun b => b < cb) l al := hR.fr hFW.size (fun b hb hbl => hFW.blk b hbl (by omega) (fun e => by have := (h.pg b e.symm).1; omega))
      obtain ⟨ge, oe, rfl⟩ := hRr.some hlt
      obtain ⟨cs, -, hge, ⟨rfl, -⟩, hcs⟩ := hRr.item hlt
      have kx : wr.cell? ⟨ge, oe + i * 2, none⟩ = some (.string ⟨l[i].1.toArray⟩) ∧ wr.cell? ⟨ge, oe + i * 2 + 1, none⟩ = some (.int .i64 l[i].2) := ⟨hcs 0 (by decide), hcs 1 (by decide)⟩
      have hinv2 := hinv.out
      rw [fr_step gpF l hlt] at hinv2
      have hxr : wr.cell? ⟨xb, 0, none⟩ = some (.pointer (some ⟨cb, 0, none⟩)) := (World.cell?_of_block (a := ⟨xb, 0, none⟩) (hFW.blk xb hxl hxn hxs)).trans hx
      have hsx := hsv xb (Nat.lt_of_lt_of_le hxl hB1.size) hxn hxs
      have hsr := hsv W.heap.size hW1s (by omega) hrz
      have hls : sn.length ≤ 1000000 := by have := hsn.out; omega
      generalize l[i] = y at kx hinv2
      obtain ⟨X0, hX0⟩ : ∃ X0, X0 = wr.alloc (.cells #[.string ⟨y.1.toArray⟩, .int .i64 y.2] 96) := ⟨_, rfl⟩
      have hB0 : Below wr.heap.size wr X0 := by rw [hX0]; exact (Below.refl _ _).alloc (Nat.le_refl _) _
      have hk0 := hkr.bel hB0
      have hxl2 := World.block_lt_of_cell? _ _ hxr
      have hx0 := (bel_cell hB0 hxl2 0).trans hxr
      have hby : Bx X0 wr.heap.size [.string ⟨y.1.toArray⟩, .int .i64 y.2] := by rw [hX0]; exact bx_new _ _ _
      skip
      have hcall := grp1_any p (scP p a3 a4 a5 a6 a7 c3 c4 c5 c6 c7) cb s xb y.1 y.2 X0 sn sv2 hk0 hls hx0
      obtain ⟨d0, d1⟩ := kx
      have hX0H := Hid.mk hX0
      clear hcs hRr hinv hX0
      go_wp2_with fail
      rw [← hX0H.out]
      clear hX0H
      have hFW0 : Fr cb W sv X0 sv2 := hFW.trans (Fr.bel hB0 _)
      have hbr0 := hbr.bel hB0 hbr.1
      have hne1 : W.heap.size ≠ cb := by omega
      have hF01 : ∀ w3 sv3, Fr cb X0 sv2 w3 sv3 → Bx w3 W.heap.size [.int .i64 0, .int .i64 0, .int .i64 0, .slice none 0 0] ∧ some W.heap.size ≠ sv3.ownBlock := fun w3 sv3 hF3 => ⟨hF3.box hbr0 hne1 hsr, by
        rcases hF3.new with e | ⟨c, e, hc⟩
        · rw [e]; exact hsr
        · rw [e]; intro e2; injection e2 with e2; have := hbr0.1; omega⟩
      have hF01H := Hid.mk hF01
      have hrb1 : cb + 1 ≤ W.heap.size := hcb
      have hrb2 : W.heap.size ≤ W.heap.size := Nat.le_refl _
      obtain ⟨rr, hrr⟩ : ∃ rr, gpF y sn = rr := ⟨_, rfl⟩
      have hfst : rr.1.length = sn.length + 1 := by rw [← hrr]; show (sn ++ [_]).length = _; rw [List.length_append, List.length_singleton]
      rw [hrr] at hinv2 hcall
      clear hrr hF01
      obtain ⟨s2, e2⟩ := rr
      have hfH := Hid.mk hfst
      clear hfst
      cases e2 with
      | zero =>
        have hs2 := Hid.mk hinv2
        clear hinv2
        refine hcall.mono ?_
        clear hcall
        rintro e w3 ⟨rfl, sv3, hk3, hF3⟩
        have hFf : Fr cb W1 sv w3 sv3 := (hFr.trans (Fr.bel hB0 _)).trans hF3
        go_wp2
        exact ⟨⟨i + 1, s2, sv3, rfl, hlt, ⟨by have h1 : s2.length = sn.length + 1 := hfH.out; have h2 := hsn.out; omega⟩, hk3, hFf, hs2⟩, by simp only [intOf]; omega⟩
      | succ e3 =>
        have hs2 := Hid.mk hinv2
        clear hinv2
        have hne : (((e3 + 1 : Nat) : Int) != 0) = true := by simp; omega
        refine hcall.mono ?_
        clear hcall
        rintro e w3 ⟨rfl, sv3, hk3, hF3⟩
        obtain ⟨hbr3, hrb3⟩ := hF01H.out w3 sv3 hF3
        have hk_st : CkS p (scP p a3 a4 a5 a6 a7 c3 c4 c5 c6 c7) cb s w3 s2 sv3 ∧ Fr cb W sv w3 sv3 := ⟨hk3, hFW0.trans hF3⟩
        have hq0 := hbr3
        have kg0 : w3.cell? ⟨W.heap.size, 0, none⟩ = some (.int .i64 0) := hq0.2.1 0 (by simp)
        have kh0 := hq0.2.2 0; have kl0 := hq0.1
        obtain ⟨X1, hx0⟩ : ∃ X1, w3.setCell ⟨W.heap.size, 0, none⟩ (.int .i64 (part : Int)) = X1 := ⟨_, rfl⟩
        have hq1 : Bx X1 W.heap.size [(.int .i64 (part : Int)), (.int .i64 0), (.int .i64 0), (.slice none 0 0)] := (by rw [← hx0]; exact hq0.set 0 (.int .i64 (part : Int)))
        have kg1 : X1.cell? ⟨W.heap.size, 1, none⟩ = some (.int .i64 0) := hq1.2.1 1 (by simp)
        have kh1 := hq1.2.2 1; have kl1 := hq1.1
        obtain ⟨X2, hx1⟩ : ∃ X2, X1.setCell ⟨W.heap.size, 1, none⟩ (.int .i64 (i : Int)) = X2 := ⟨_, rfl⟩
        have hq2 : Bx X2 W.heap.size [(.int .i64 (part : Int)), (.int .i64 (i : Int)), (.int .i64 0), (.slice none 0 0)] := (by rw [← hx1]; exact hq1.set 1 (.int .i64 (i : Int)))
        have kg2 : X2.cell? ⟨W.heap.size, 2, none⟩ = some (.int .i64 0) := hq2.2.1 2 (by simp)
        have kh2 := hq2.2.2 2; have kl2 := hq2.1
        obtain ⟨X3, hx2⟩ : ∃ X3, X2.setCell ⟨W.heap.size, 2, none⟩ (.int .i64 (-1)) = X3 := ⟨_, rfl⟩
        have hq3 : Bx X3 W.heap.size [(.int .i64 (part : Int)), (.int .i64 (i : Int)), (.int .i64 (-1)), (.slice none 0 0)] := (by rw [← hx2]; exact hq2.set 2 (.int .i64 (-1)))
        have kg3 : X3.cell? ⟨W.heap.size, 3, none⟩ = some (.slice none 0 0) := hq3.2.1 3 (by simp)
        have kh3 := hq3.2.2 3; have kl3 := hq3.1
        obtain ⟨X4, hx3⟩ : ∃ X4, X3.setCell ⟨W.heap.size, 3, none⟩ (.slice none 0 0) = X4 := ⟨_, rfl⟩
        have hq4 : Bx X4 W.heap.size [(.int .i64 (part : Int)), (.int .i64 (i : Int)), (.int .i64 (-1)), (.slice none 0 0)] := (by rw [← hx3]; exact hq3.set 3 (.slice none 0 0))
        have ht0 := hk_st
        have ht1 : CkS p (scP p a3 a4 a5 a6 a7 c3 c4 c5 c6 c7) cb s X1 s2 sv3 ∧ Fr cb W sv X1 sv3 := (by rw [← hx0]; exact ck_set ht0 hrb1 hrb2 hrb3 0 (.int .i64 (part : Int)))
        have ht2 : CkS p (scP p a3 a4 a5 a6 a7 c3 c4 c5 c6 c7) cb s X2 s2 sv3 ∧ Fr cb W sv X2 sv3 := (by rw [← hx1]; exact ck_set ht1 hrb1 hrb2 hrb3 1 (.int .i64 (i : Int)))
        have ht3 : CkS p (scP p a3 a4 a5 a6 a7 c3 c4 c5 c6 c7) cb s X3 s2 sv3 ∧ Fr cb W sv X3 sv3 := (by rw [← hx2]; exact ck_set ht2 hrb1 hrb2 hrb3 2 (.int .i64 (-1)))
        have ht4 : CkS p (scP p a3 a4 a5 a6 a7 c3 c4 c5 c6 c7) cb s X4 s2 sv3 ∧ Fr cb W sv X4 sv3 := (by rw [← hx3]; exact ck_set ht3 hrb1 hrb2 hrb3 3 (.slice none 0 0))
        have hB5 : Below X4.heap.size X4 (X4.alloc (.cells #[.int .i64 (part : Int), .int .i64 (i : Int), .int .i64 (-1), .slice none 0 0] 105)) := (Below.refl _ _).alloc (Nat.le_refl _) _
        have hff : Q (.returned (.tuple #[.agg #[.int .i64 (part : Int), .int .i64 (i : Int), .int .i64 (-1), .slice none 0 0], .int .i64 ((e3 + 1 : Nat) : Int)])) (X4.alloc (.cells #[.int .i64 (part : Int), .int .i64 (i : Int), .int .i64 (-1), .slice none 0 0] 105)) := by
          rw [← hQH.out, ← hs2.out]
          exact ⟨rfl, sv3, ht4.1.bel hB5, ht4.2.trans (Fr.bel hB5 _)⟩
        have hq5 := hq4.bel hB5 hq4.1
        have f0 := hq5.2.1 0 (by simp)
        have f1 := hq5.2.1 1 (by simp)
        have f2 := hq5.2.1 2 (by simp)
        have f3 := hq5.2.1 3 (by simp)
        have l4 : W.heap.size < X4.heap.size := hq4.1
        clear hq0 hq1 hq2 hq3 hq4 hq5 ht0 ht1 ht2 ht3 ht4 hk_st hs2
        go_wp2_with (go_at_call 96; refine (itemAt_any _ _ _).mono ?_; rintro e w4 ⟨rfl, rfl⟩)
        exact bodyPost_ret (v := .tuple #[.agg #[.int .i64 (part : Int), .int .i64 (i : Int), .int .i64 (-1), .slice none 0 0], .int .i64 ((e3 + 1 : Nat) : Int)]) (by simp [results, Tryz.results105, go_sem, f0, f1, f2, f3]) rfl hff
    · have hlt' : ¬ (i : Int) < (l.length : Int) := by omega
      have hri := hinv.out
      rw [List.drop_eq_nil_of_le (by omega)] at hri
      have hff : Q (.returned (.tuple #[.agg #[.int .i64 0, .int .i64 0, .int .i64 0, .slice none 0 0], .int .i64 0])) wr := by
        rw [← hQH.out, ← hri]
        exact ⟨rfl, sv2, hkr, hFW⟩
      have f0 := hbr.2.1 0 (by simp)
      have f1 := hbr.2.1 1 (by simp)
      have f2 := hbr.2.1 2 (by simp)
      have f3 := hbr.2.1 3 (by simp)
      have z0 := hbr.2.2 0
      have z1 := hbr.2.2 1
      have z2 := hbr.2.2 2
      have z3 := hbr.2.2 3
      have j0 := set_id f0
      have j1 := set_id f1
      have j2 := set_id f2
      have j3 := set_id f3
      clear hinv hri
      go_wp2
      exact bodyPost_ret (v := .tuple #[.agg #[.int .i64 0, .int .i64 0, .int .i64 0, .slice none 0 0], .int .i64 0]) (by simp at f0 f1 f2 f3; simp [results, Tryz.results105, go_sem, f0, f1, f2, f3]) rfl hff
end Go.Proofs.YthnmjafoplfikaaGreatDoor
