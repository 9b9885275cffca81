import Derived.Test.YteiplejamciddaaYC6
import Derived.Test.YteiplejamciddaaYC4
namespace Go.Proofs.Yteiplejamciddaa
open Go.RowKit

set_option maxRecDepth 20000 in
set_option maxHeartbeats 2000000 in
theorem tab1_any (p : Pk) (pc : List Value) (cb s xb : Nat) (nm : List UInt8) (ns : List (Int × Int)) (an : Option Addr) (cn : Nat) (W : World) (seen : Sn) (sv : Value) (h : CkS p pc cb s W seen sv) (hl : seen.length ≤ 1000000) (hx : W.cell? ⟨xb, 0, none⟩ = some (.pointer (some ⟨cb, 0, none⟩))) (hR : RowR eBd W (fun b => b < cb) ns an) : Calls Try.prog 44 #[.agg #[.string ⟨nm.toArray⟩, .slice an ns.length cn], .pointer (some ⟨xb, 0, none⟩)] W (NmP p pc cb s sv (tbF (nm, ns) seen) W) := by
  obtain ⟨W1, hW1⟩ : ∃ W1, W1 = W.alloc (.cells #[.string ⟨nm.toArray⟩, .slice an ns.length cn] 103) := ⟨_, rfl⟩
  have hB1 : Below W.heap.size W W1 := by rw [hW1]; exact (Below.refl _ _).alloc (Nat.le_refl _) _
  have hbx : Bx W1 W.heap.size [.string ⟨nm.toArray⟩, .slice an ns.length cn] := by rw [hW1]; exact bx_new _ _ _
  have hk1 := h.bel hB1
  have hxl := World.block_lt_of_cell? _ _ hx
  have x1 := (bel_cell hB1 hxl 0).trans hx
  have b0 := hbx.2.1 0 (by simp)
  have hnm := name_any p pc cb s nm W1 seen sv hk1 hl
  have hcb := h.lt
  have hne1 : W.heap.size ≠ cb := by omega
  have hne2 : some W.heap.size ≠ sv.ownBlock := fun e => by
    have := (h.pg _ e.symm).2
    omega
  have hrf : tbF (nm, ns) seen = (seen ++ [nm], (tbF (nm, ns) seen).2) := rfl
  obtain ⟨r, hr⟩ : ∃ r, (tbF (nm, ns) seen).2 = r := ⟨_, rfl⟩
  rw [hr] at hrf
  rw [hrf]
  clear hrf
  have hra : ∀ n0 : Nat, nwN nm seen = n0 → r = (match n0 with
    | 0 => if ns.length < 1 ∨ 8 < ns.length then 60 else if rsF ns ns 0 then 0 else 63
    | e + 1 => e + 1) := by
    rintro _ rfl
    exact hr.symm
  obtain ⟨n0, hn0⟩ : ∃ n0, nwN nm seen = n0 := ⟨_, rfl⟩
  have hrr := hra n0 hn0
  rw [hn0] at hnm
  clear hra
  have hW1H := Hid.mk hW1
  have hrH := Hid.mk hrr
  have hbxH := Hid.mk hbx
  clear hW1 hr hn0 hrr hbx
  go_enter Try.func44, Try.ntmps44
  go_wp2_with fail
  rw [← hW1H.out]
  clear hW1H
  cases n0 with
  | succ n1 =>
    have hr1 := hrH.out
    simp only at hr1
    subst hr1
    have hs1 : (((n1 + 1 : Nat) : Int) != 0) = true := by simp; omega
    go_wp2_with (go_at_call 41; refine hnm.mono ?_; clear hnm; rintro e w2 ⟨rfl, sv2, hk2, hF2⟩; have hff : NmP p pc cb s sv (seen ++ [nm], n1 + 1) W (.returned (.int .i64 ((n1 + 1 : Nat) : Int))) w2 := ⟨rfl, sv2, hk2, (Fr.bel hB1 _).trans hF2⟩)
    go_ret
    exact hff
  | zero =>
    have hr1 := hrH.out
    simp only at hr1
    have hr1H := Hid.mk hr1
    clear hr1 hrH
    by_cases hl1 : ns.length < 1
    · have hl1' : (ns.length : Int) < 1 := by omega
      have hr2 := hr1H.out
      rw [if_pos (.inl hl1)] at hr2
      have hr2H := Hid.mk hr2
      clear hr1H hr2
      go_wp2_with (go_at_call 41; refine hnm.mono ?_; clear hnm; rintro e w2 ⟨rfl, sv2, hk2, hF2⟩; have hbx2 := hF2.box hbxH.out hne1 hne2; have b1 := hbx2.2.1 1 (by simp); have hfin : Hid (∀ w3, Below w2.heap.size w2 w3 → NmP p pc cb s sv (seen ++ [nm], r) W (.returned (.int .i64 (r : Int))) w3) := ⟨fun w3 h3 => ⟨rfl, sv2, hk2.bel h3, ((Fr.bel hB1 _).trans hF2).trans (Fr.bel h3 _)⟩⟩)
      have hff := hfin.out w2 (Below.refl _ _)
      rw [hr2H.out] at hff ⊢
      go_ret
      exact hff
    have hl1' : ¬ (ns.length : Int) < 1 := by omega
    by_cases hl2 : 8 < ns.length
    · have hl2' : (8 : Int) < (ns.length : Int) := by omega
      have hr2 := hr1H.out
      rw [if_pos (.inr hl2)] at hr2
      have hr2H := Hid.mk hr2
      clear hr1H hr2
      go_wp2_with (go_at_call 41; refine hnm.mono ?_; clear hnm; rintro e w2 ⟨rfl, sv2, hk2, hF2⟩; have hbx2 := hF2.box hbxH.out hne1 hne2; have b1 := hbx2.2.1 1 (by simp); have hfin : Hid (∀ w3, Below w2.heap.size w2 w3 → NmP p pc cb s sv (seen ++ [nm], r) W (.returned (.int .i64 (r : Int))) w3) := ⟨fun w3 h3 => ⟨rfl, sv2, hk2.bel h3, ((Fr.bel hB1 _).trans hF2).trans (Fr.bel h3 _)⟩⟩)
      have hff := hfin.out w2 (Below.refl _ _)
      rw [hr2H.out] at hff ⊢
      go_ret
      exact hff
    have hl2' : ¬ (8 : Int) < (ns.length : Int) := by omega
    have hr2 := hr1H.out
    rw [if_neg (by omega)] at hr2
    have hRi : Hid (∀ w2 sv2, Fr cb W1 sv w2 sv2 → Calls Try.prog 45 #[.slice an ns.length cn] w2 (Lk (.bool (rsF ns ns 0)) w2)) := ⟨fun w2 sv2 hF2 => rising_any ns an cn w2 ((hR.fr (Nat.le_trans hB1.size hF2.size) (fun b hb hlt => (hF2.blk b (Nat.lt_of_lt_of_le hlt hB1.size) (by omega) (fun e => by have := (h.pg b e.symm).1; omega)).trans (hB1.block b hlt))).mo (fun _ _ _ => trivial)) (by omega)⟩
    obtain ⟨rb, hrb⟩ : ∃ rb, rsF ns ns 0 = rb := ⟨_, rfl⟩
    rw [hrb] at hRi hr2
    clear hrb hr1H
    cases rb with
    | true =>
      simp only [if_true] at hr2
      have hr2H := Hid.mk hr2
      clear hr2
      go_wp2_with (first | (go_at_call 41; refine hnm.mono ?_; clear hnm; rintro e w2 ⟨rfl, sv2, hk2, hF2⟩; have hbx2 := hF2.box hbxH.out hne1 hne2; have b1 := hbx2.2.1 1 (by simp); have hfin : Hid (∀ w3, Below w2.heap.size w2 w3 → NmP p pc cb s sv (seen ++ [nm], r) W (.returned (.int .i64 (r : Int))) w3) := ⟨fun w3 h3 => ⟨rfl, sv2, hk2.bel h3, ((Fr.bel hB1 _).trans hF2).trans (Fr.bel h3 _)⟩⟩; have hri := hRi.out w2 sv2 hF2) | (go_at_call 45; refine hri.mono ?_; clear hri; rintro e w3 ⟨rfl, hb3⟩))
      have hff := hfin.out w3 hb3
      rw [hr2H.out] at hff ⊢
      go_ret
      exact hff
    | false =>
      simp only [Bool.false_eq_true, if_false] at hr2
      have hr2H := Hid.mk hr2
      clear hr2
      go_wp2_with (first | (go_at_call 41; refine hnm.mono ?_; clear hnm; rintro e w2 ⟨rfl, sv2, hk2, hF2⟩; have hbx2 := hF2.box hbxH.out hne1 hne2; have b1 := hbx2.2.1 1 (by simp); have hfin : Hid (∀ w3, Below w2.heap.size w2 w3 → NmP p pc cb s sv (seen ++ [nm], r) W (.returned (.int .i64 (r : Int))) w3) := ⟨fun w3 h3 => ⟨rfl, sv2, hk2.bel h3, ((Fr.bel hB1 _).trans hF2).trans (Fr.bel h3 _)⟩⟩; have hri := hRi.out w2 sv2 hF2) | (go_at_call 45; refine hri.mono ?_; clear hri; rintro e w3 ⟨rfl, hb3⟩))
      have hff := hfin.out w3 hb3
      rw [hr2H.out] at hff ⊢
      go_ret
      exact hff
set_option maxRecDepth 20000 in
set_option maxHeartbeats 2000000 in
theorem grp1_any (p : Pk) (pc : List Value) (cb s xb : Nat) (nm : List UInt8) (rr : Int) (W : World) (seen : Sn) (sv : Value) (h : CkS p pc cb s W seen sv) (hl : seen.length ≤ 1000000) (hx : W.cell? ⟨xb, 0, none⟩ = some (.pointer (some ⟨cb, 0, none⟩)))  : Calls Try.prog 47 #[.agg #[.string ⟨nm.toArray⟩, .int .i64 rr], .pointer (some ⟨xb, 0, none⟩)] W (NmP p pc cb s sv (gpF (nm, rr) seen) W) := by
  obtain ⟨W1, hW1⟩ : ∃ W1, W1 = W.alloc (.cells #[.string ⟨nm.toArray⟩, .int .i64 rr] 70) := ⟨_, rfl⟩
  have hB1 : Below W.heap.size W W1 := by rw [hW1]; exact (Below.refl _ _).alloc (Nat.le_refl _) _
  have hbx : Bx W1 W.heap.size [.string ⟨nm.toArray⟩, .int .i64 rr] := by rw [hW1]; exact bx_new _ _ _
  have hk1 := h.bel hB1
  have hxl := World.block_lt_of_cell? _ _ hx
  have x1 := (bel_cell hB1 hxl 0).trans hx
  have b0 := hbx.2.1 0 (by simp)
  have hnm := name_any p pc cb s nm W1 seen sv hk1 hl
  have hcb := h.lt
  have hne1 : W.heap.size ≠ cb := by omega
  have hne2 : some W.heap.size ≠ sv.ownBlock := fun e => by
    have := (h.pg _ e.symm).2
    omega
  have hrf : gpF (nm, rr) seen = (seen ++ [nm], (gpF (nm, rr) seen).2) := rfl
  obtain ⟨r, hr⟩ : ∃ r, (gpF (nm, rr) seen).2 = r := ⟨_, rfl⟩
  rw [hr] at hrf
  rw [hrf]
  clear hrf
  have hra : ∀ n0 : Nat, nwN nm seen = n0 → r = (match n0 with
    | 0 => if rr < 1 ∨ 8 < rr then 64 else 0
    | e + 1 => e + 1) := by
    rintro _ rfl
    exact hr.symm
  obtain ⟨n0, hn0⟩ : ∃ n0, nwN nm seen = n0 := ⟨_, rfl⟩
  have hrr := hra n0 hn0
  rw [hn0] at hnm
  clear hra
  have hW1H := Hid.mk hW1
  have hrH := Hid.mk hrr
  have hbxH := Hid.mk hbx
  clear hW1 hr hn0 hrr hbx
  go_enter Try.func47, Try.ntmps47
  go_wp2_with fail
  rw [← hW1H.out]
  clear hW1H
  cases n0 with
  | succ n1 =>
    have hr1 := hrH.out
    simp only at hr1
    subst hr1
    have hs1 : (((n1 + 1 : Nat) : Int) != 0) = true := by simp; omega
    go_wp2_with (go_at_call 41; refine hnm.mono ?_; clear hnm; rintro e w2 ⟨rfl, sv2, hk2, hF2⟩; have hff : NmP p pc cb s sv (seen ++ [nm], n1 + 1) W (.returned (.int .i64 ((n1 + 1 : Nat) : Int))) w2 := ⟨rfl, sv2, hk2, (Fr.bel hB1 _).trans hF2⟩)
    go_ret
    exact hff
  | zero =>
    have hr1 := hrH.out
    simp only at hr1
    have hr1H := Hid.mk hr1
    clear hr1 hrH
    by_cases hl1 : rr < 1
    · have hr2 := hr1H.out
      rw [if_pos (.inl hl1)] at hr2
      have hr2H := Hid.mk hr2
      clear hr1H hr2
      go_wp2_with (go_at_call 41; refine hnm.mono ?_; clear hnm; rintro e w2 ⟨rfl, sv2, hk2, hF2⟩; have hbx2 := hF2.box hbxH.out hne1 hne2; have b1 := hbx2.2.1 1 (by simp); have hfin : Hid (∀ w3, Below w2.heap.size w2 w3 → NmP p pc cb s sv (seen ++ [nm], r) W (.returned (.int .i64 (r : Int))) w3) := ⟨fun w3 h3 => ⟨rfl, sv2, hk2.bel h3, ((Fr.bel hB1 _).trans hF2).trans (Fr.bel h3 _)⟩⟩)
      have hff := hfin.out w2 (Below.refl _ _)
      rw [hr2H.out] at hff ⊢
      go_ret
      exact hff
    by_cases hl2 : 8 < rr
    · have hr2 := hr1H.out
      rw [if_pos (.inr hl2)] at hr2
      have hr2H := Hid.mk hr2
      clear hr1H hr2
      go_wp2_with (go_at_call 41; refine hnm.mono ?_; clear hnm; rintro e w2 ⟨rfl, sv2, hk2, hF2⟩; have hbx2 := hF2.box hbxH.out hne1 hne2; have b1 := hbx2.2.1 1 (by simp); have hfin : Hid (∀ w3, Below w2.heap.size w2 w3 → NmP p pc cb s sv (seen ++ [nm], r) W (.returned (.int .i64 (r : Int))) w3) := ⟨fun w3 h3 => ⟨rfl, sv2, hk2.bel h3, ((Fr.bel hB1 _).trans hF2).trans (Fr.bel h3 _)⟩⟩)
      have hff := hfin.out w2 (Below.refl _ _)
      rw [hr2H.out] at hff ⊢
      go_ret
      exact hff
    have hr2 := hr1H.out
    rw [if_neg (by omega)] at hr2
    have hr2H := Hid.mk hr2
    clear hr1H hr2
    go_wp2_with (go_at_call 41; refine hnm.mono ?_; clear hnm; rintro e w2 ⟨rfl, sv2, hk2, hF2⟩; have hbx2 := hF2.box hbxH.out hne1 hne2; have b1 := hbx2.2.1 1 (by simp); have hfin : Hid (∀ w3, Below w2.heap.size w2 w3 → NmP p pc cb s sv (seen ++ [nm], r) W (.returned (.int .i64 (r : Int))) w3) := ⟨fun w3 h3 => ⟨rfl, sv2, hk2.bel h3, ((Fr.bel hB1 _).trans hF2).trans (Fr.bel h3 _)⟩⟩)
    have hff := hfin.out w2 (Below.refl _ _)
    rw [hr2H.out] at hff ⊢
    go_ret
    exact hff
end Go.Proofs.Yteiplejamciddaa
