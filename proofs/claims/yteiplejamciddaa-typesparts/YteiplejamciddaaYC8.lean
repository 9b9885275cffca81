import Derived.Test.YteiplejamciddaaYC4
namespace Go.Proofs.Yteiplejamciddaa
open Go.RowKit

theorem ns_step (l : List (List UInt8)) {i : Nat} (h : i < l.length) : nsF l (l.drop i) i = match nwN l[i] (l.take i) with
    | 0 => nsF l (l.drop (i + 1)) (i + 1)
    | e + 1 => e + 1 := by
  rw [List.drop_eq_getElem_cons h]
  rfl
theorem RowR.take {α : Type} {D : Elt α} {W : World} {S : Nat → Prop} {xs : List α} {a : Option Addr} (h : RowR D W S xs a) (n : Nat) : RowR D W S (xs.take n) a := by
  rcases h with rfl | ⟨g, o, cs, rfl, hS, hg, hc, hE⟩
  · exact .inl (by simp)
  · refine .inr ⟨g, o, cs.take ((xs.take n).length * D.k), rfl, hS, hg, fun j hj => ?_, ?_⟩
    · rw [List.length_take] at hj
      rw [List.getElem?_take, if_pos (by omega)]
      exact hc j (by omega)
    · refine ⟨by rw [List.length_take, hE.1, List.length_take, Nat.min_eq_left (Nat.mul_le_mul_right _ (Nat.min_le_right _ _))], fun i hi => ?_⟩
      have hi2 := hi
      rw [List.length_take] at hi2
      have := hE.2 i (by omega)
      rw [List.getElem_take]
      have e : (((cs.take ((xs.take n).length * D.k)).drop (i * D.k)).take D.k) = ((cs.drop (i * D.k)).take D.k) := by
        rw [List.drop_take, List.take_take, Nat.min_eq_left]
        have : (i + 1) * D.k ≤ (xs.take n).length * D.k := Nat.mul_le_mul_right _ hi
        rw [Nat.add_mul, Nat.one_mul] at this
        omega
      rw [e]
      exact this
set_option maxRecDepth 20000 in
set_option maxHeartbeats 2000000 in
theorem opt1_any (p : Pk) (pc : List Value) (cb s xb : Nat) (nm : List UInt8) (ns : List (List UInt8)) (an : Option Addr) (cn : Nat) (W : World) (seen : Sn) (sv : Value) (h : CkS p pc cb s W seen sv) (hl : seen.length ≤ 1000000) (hx : W.cell? ⟨xb, 0, none⟩ = some (.pointer (some ⟨cb, 0, none⟩))) (hR : RowR eS W (fun b => b < cb) ns an) (hcn : ns.length ≤ cn) : Calls Try.prog 40 #[.agg #[.string ⟨nm.toArray⟩, .slice an ns.length cn], .pointer (some ⟨xb, 0, none⟩)] W (NmP p pc cb s sv (opF (nm, ns) seen) W) := by
  obtain ⟨W1, hW1⟩ : ∃ W1, W1 = W.alloc (.cells #[.string ⟨nm.toArray⟩, .slice an ns.length cn] 96) := ⟨_, rfl⟩
  have hB1 : Below W.heap.size W W1 := by rw [hW1]; exact (Below.refl _ _).alloc (Nat.le_refl _) _
  have hbx : Bx W1 W.heap.size [.string ⟨nm.toArray⟩, .slice an ns.length cn] := by rw [hW1]; exact bx_new _ _ _
  have hk1 := h.bel hB1
  have hxl := World.block_lt_of_cell? _ _ hx
  have x1 := (bel_cell hB1 hxl 0).trans hx
  have b0 := hbx.2.1 0 (by simp)
  have hnm := name_any p pc cb s nm W1 seen sv hk1 hl
  have hcb := h.lt
  have hne1 : W.heap.size ≠ cb := by omega
  have hne2 : some W.heap.size ≠ sv.ownBlock := fun e => by
    have := (h.pg _ e.symm).2
    omega
  have hrf : opF (nm, ns) seen = (seen ++ [nm], (opF (nm, ns) seen).2) := rfl
  obtain ⟨r, hr⟩ : ∃ r, (opF (nm, ns) seen).2 = r := ⟨_, rfl⟩
  rw [hr] at hrf
  rw [hrf]
  clear hrf
  have hra : ∀ n0 : Nat, nwN nm seen = n0 → r = (match n0 with
    | 0 => if ns.length < 1 ∨ 8 < ns.length then 60 else nsF ns ns 0
    | e + 1 => e + 1) := by
    rintro _ rfl
    exact hr.symm
  obtain ⟨n0, hn0⟩ : ∃ n0, nwN nm seen = n0 := ⟨_, rfl⟩
  have hrr := hra n0 hn0
  rw [hn0] at hnm
  clear hra
  have hW1H := Hid.mk hW1
  have hrH := Hid.mk hrr
  have hbxH := Hid.mk hbx
  clear hW1 hr hn0 hrr hbx
  go_enter Try.func40, Try.ntmps40
  go_wp2_with fail
  rw [← hW1H.out]
  clear hW1H
  cases n0 with
  | succ n1 =>
    have hr1 := hrH.out
    simp only at hr1
    subst hr1
    have hs1 : (((n1 + 1 : Nat) : Int) != 0) = true := by simp; omega
    go_wp2_with (go_at_call 41; refine hnm.mono ?_; clear hnm; rintro e w2 ⟨rfl, sv2, hk2, hF2⟩; have hff : NmP p pc cb s sv (seen ++ [nm], n1 + 1) W (.returned (.int .i64 ((n1 + 1 : Nat) : Int))) w2 := ⟨rfl, sv2, hk2, (Fr.bel hB1 _).trans hF2⟩)
    go_ret
    exact hff
  | zero =>
    have hr1 := hrH.out
    simp only at hr1
    have hr1H := Hid.mk hr1
    clear hr1 hrH
    by_cases hl1 : ns.length < 1
    · have hl1' : (ns.length : Int) < 1 := by omega
      have hr2 := hr1H.out
      rw [if_pos (.inl hl1)] at hr2
      have hr2H := Hid.mk hr2
      clear hr1H hr2
      go_wp2_with (go_at_call 41; refine hnm.mono ?_; clear hnm; rintro e w2 ⟨rfl, sv2, hk2, hF2⟩; have hbx2 := hF2.box hbxH.out hne1 hne2; have b1 := hbx2.2.1 1 (by simp); have hfin : Hid (∀ w3, Below w2.heap.size w2 w3 → NmP p pc cb s sv (seen ++ [nm], r) W (.returned (.int .i64 (r : Int))) w3) := ⟨fun w3 h3 => ⟨rfl, sv2, hk2.bel h3, ((Fr.bel hB1 _).trans hF2).trans (Fr.bel h3 _)⟩⟩)
      have hff := hfin.out w2 (Below.refl _ _)
      rw [hr2H.out] at hff ⊢
      go_ret
      exact hff
    · have hl1' : ¬ (ns.length : Int) < 1 := by omega
      by_cases hl2 : 8 < ns.length
      · have hl2' : (8 : Int) < (ns.length : Int) := by omega
        have hr2 := hr1H.out
        rw [if_pos (.inr hl2)] at hr2
        have hr2H := Hid.mk hr2
        clear hr1H hr2
        go_wp2_with (go_at_call 41; refine hnm.mono ?_; clear hnm; rintro e w2 ⟨rfl, sv2, hk2, hF2⟩; have hbx2 := hF2.box hbxH.out hne1 hne2; have b1 := hbx2.2.1 1 (by simp); have hfin : Hid (∀ w3, Below w2.heap.size w2 w3 → NmP p pc cb s sv (seen ++ [nm], r) W (.returned (.int .i64 (r : Int))) w3) := ⟨fun w3 h3 => ⟨rfl, sv2, hk2.bel h3, ((Fr.bel hB1 _).trans hF2).trans (Fr.bel h3 _)⟩⟩)
        have hff := hfin.out w2 (Below.refl _ _)
        rw [hr2H.out] at hff ⊢
        go_ret
        exact hff
      · have hl2' : ¬ (8 : Int) < (ns.length : Int) := by omega
        have hr2 := hr1H.out
        rw [if_neg (by omega)] at hr2
        have hst : Hid (nsF ns (ns.drop 0) 0 = r) := ⟨by rw [hr2]; rfl⟩
        clear hr1H hr2
        go_wp2_with (go_at_call 41; refine hnm.mono ?_; clear hnm; rintro e w2 ⟨rfl, sv2, hk2, hF2⟩; have hbx2 := hF2.box hbxH.out hne1 hne2; have b1 := hbx2.2.1 1 (by simp); have hfin : Hid (∀ w3, Below w2.heap.size w2 w3 → NmP p pc cb s sv (seen ++ [nm], r) W (.returned (.int .i64 (r : Int))) w3) := ⟨fun w3 h3 => ⟨rfl, sv2, hk2.bel h3, ((Fr.bel hB1 _).trans hF2).trans (Fr.bel h3 _)⟩⟩)
        have hR2 : RowR eS w2 AnyB ns an := ((hR.fr (Nat.le_trans hB1.size hF2.size) (fun b hb hlt => (hF2.blk b (Nat.lt_of_lt_of_le hlt hB1.size) (by omega) (fun e => by have := (h.pg b e.symm).1; omega)).trans (hB1.block b hlt))).mo (fun _ _ _ => trivial))
        have hw2 : W.heap.size < w2.heap.size := hbx2.1
        go_loopw [28] (fun iv wr => ∃ i : Nat, iv = .int .i64 (i : Int) ∧ i ≤ ns.length ∧ Below w2.heap.size w2 wr ∧ Hid (nsF ns (ns.drop i) i = r)) (fun iv _ => ns.length - (intOf iv).toNat)
        case atStart => exact ⟨0, rfl, Nat.zero_le _, Below.refl _ _, hst⟩
        case round =>
          obtain ⟨i, rfl, hi, hBr, hinv⟩ := hrel
          have q1 := (hbx2.bel hBr hbx2.1).2.1 1 (by simp)
          by_cases hlt : i < ns.length
          · have hlt' : (i : Int) < (ns.length : Int) := by omega
            have hi0 : (0 : Int) ≤ (i : Int) := by omega
            have hRr := row_bel hR2 hBr (Nat.le_refl _)
            obtain ⟨ge, oe, rfl⟩ := hRr.some hlt
            obtain ⟨cs, -, -, rfl, hcs⟩ := hRr.item hlt
            have k0 : wr.cell? ⟨ge, oe + i, none⟩ = some (.string ⟨(ns[i]).toArray⟩) := by
              have := hcs 0 (by decide)
              rw [show oe + i * eS.k + 0 = oe + i by show oe + i * 1 + 0 = oe + i; omega] at this
              exact this
            have hinv2 := hinv.out
            rw [ns_step ns hlt] at hinv2
            have hnn := newName_any ns[i] (ns.take i) (some ⟨ge, oe, none⟩) cn wr (hRr.take i) (by rw [List.length_take]; omega)
            rw [List.length_take, Nat.min_eq_left hi] at hnn
            obtain ⟨e1, he1⟩ : ∃ e1, nwN ns[i] (ns.take i) = e1 := ⟨_, rfl⟩
            rw [he1] at hinv2 hnn
            generalize ns[i] = y at k0 hnn he1
            have hic : (i : Int) ≤ (cn : Int) := by omega
            clear hinv he1 hcs
            cases e1 with
            | zero =>
              have hs2 := Hid.mk hinv2
              clear hinv2
              go_wp2_with (go_at_call 42; refine hnn.mono ?_; clear hnn; rintro e w3 ⟨rfl, hb3⟩; have hb4 := bthr hBr hb3 (Nat.le_refl _))
              exact ⟨⟨i + 1, rfl, hlt, hb4, hs2⟩, by simp only [intOf]; omega⟩
            | succ e2 =>
              simp only at hinv2
              subst hinv2
              have hs1 : (((e2 + 1 : Nat) : Int) != 0) = true := by simp; omega
              go_wp2_with (go_at_call 42; refine hnn.mono ?_; clear hnn; rintro e w3 ⟨rfl, hb3⟩; have hff := hfin.out w3 (bthr hBr hb3 (Nat.le_refl _)))
              go_ret
              exact hff
          · have hlt' : ¬ (i : Int) < (ns.length : Int) := by omega
            have hr2 := hinv.out
            rw [List.drop_eq_nil_of_le (by omega)] at hr2
            have hr3 : 0 = r := hr2
            subst hr3
            have hff := hfin.out wr hBr
            clear hinv hr2
            go_wp2
            go_ret
            exact hff
end Go.Proofs.Yteiplejamciddaa
