import Derived.Test.YteiplejamciddaaYC4
import Derived.Deep.RegionHeld3
namespace Go.Proofs.Yteiplejamciddaa
open Go.RowKit

theorem CkS.cells {p : Pk} {a3 a4 a5 a6 a7 : Option Addr} {c3 c4 c5 c6 c7 : Nat} {cb s : Nat} {W : World} {seen : Sn} {sv : Value} (h : CkS p [.string ⟨p.name.toArray⟩, .int .i64 p.year, .slice a3 p.opts.length c3, .slice a4 p.tabs.length c4, .slice a5 p.grps.length c5, .slice a6 p.lns.length c6, .slice a7 p.cks.length c7] cb s W seen sv) : W.cell? ⟨cb, 0, none⟩ = some (.string ⟨p.name.toArray⟩) ∧ W.cell? ⟨cb, 1, none⟩ = some (.int .i64 p.year) ∧ W.cell? ⟨cb, 2, none⟩ = some (.slice a3 p.opts.length c3) ∧ W.cell? ⟨cb, 3, none⟩ = some (.slice a4 p.tabs.length c4) ∧ W.cell? ⟨cb, 4, none⟩ = some (.slice a5 p.grps.length c5) ∧ W.cell? ⟨cb, 5, none⟩ = some (.slice a6 p.lns.length c6) ∧ W.cell? ⟨cb, 6, none⟩ = some (.slice a7 p.cks.length c7) := ⟨h.ce 0 (by decide), h.ce 1 (by decide), h.ce 2 (by decide), h.ce 3 (by decide), h.ce 4 (by decide), h.ce 5 (by decide), h.ce 6 (by decide)⟩
set_option maxRecDepth 20000 in
set_option maxHeartbeats 1000000 in
theorem inGroup_any (p : Pk) (a3 a4 a5 a6 a7 : Option Addr) (c3 c4 c5 c6 c7 : Nat) (cb s : Nat) (g : Int) (W : World) (seen : Sn) (sv : Value) (h : CkS p [.string ⟨p.name.toArray⟩, .int .i64 p.year, .slice a3 p.opts.length c3, .slice a4 p.tabs.length c4, .slice a5 p.grps.length c5, .slice a6 p.lns.length c6, .slice a7 p.cks.length c7] cb s W seen sv) : Calls Try.prog 52 #[.pointer (some ⟨cb, 0, none⟩), .int .i64 g] W (Lk (.bool (inG p g)) W) := by
  obtain ⟨q0, q1, q2, q3, q4, q5, q6⟩ := h.cells
  have hhas := has_grp a5 p.grps.length c5 g W
  by_cases hg : g = -1
  · have hr : inG p g = true := by unfold inG; rw [decide_eq_true hg]; rfl
    rw [hr]
    subst hg
    clear h hhas
    go_enter Try.func52, Try.ntmps52
    go_wp2
    go_ret
    exact ⟨rfl, Below.refl _ _⟩
  · have hr : inG p g = (decide (0 ≤ g) && decide (g < p.grps.length)) := by unfold inG; rw [decide_eq_false hg]; rfl
    rw [← hr] at hhas
    generalize inG p g = r at hhas
    have hg' : (g == -1) = false := beq_eq_false_iff_ne.2 hg
    clear hr h
    go_enter Try.func52, Try.ntmps52
    go_wp2_with (go_at_call 57; refine hhas.mono ?_; clear hhas; rintro e w1 ⟨rfl, hb1⟩)
    go_ret
    exact ⟨rfl, hb1⟩
set_option maxRecDepth 20000 in
set_option maxHeartbeats 1000000 in
theorem isTyped_any (p : Pk) (a3 a4 a5 a6 a7 : Option Addr) (c3 c4 c5 c6 c7 : Nat) (cb s : Nat) (l : Ln) (al : Option Addr) (cl : Nat) (W : World) (seen : Sn) (sv : Value) (h : CkS p [.string ⟨p.name.toArray⟩, .int .i64 p.year, .slice a3 p.opts.length c3, .slice a4 p.tabs.length c4, .slice a5 p.grps.length c5, .slice a6 p.lns.length c6, .slice a7 p.cks.length c7] cb s W seen sv) : Calls Try.prog 71 #[.pointer (some ⟨cb, 0, none⟩), .agg #[.string ⟨l.name.toArray⟩, .bool l.input, .bool l.must, .int .i64 l.type, .int .i64 l.opts, .int .i64 l.group, .slice al l.cls.length cl]] W (Lk (.bool (tyB p l)) W) := by
  have hb := h.lt
  obtain ⟨name, input, must, type, opts, group, cls⟩ := l
  simp only
  have hty : tyB p ⟨name, input, must, type, opts, group, cls⟩ = (if type = 5 then decide (0 ≤ opts) && decide (opts < p.opts.length) else isK type && decide (opts = -1)) := rfl
  rw [hty]
  clear hty
  have hB1 : Below W.heap.size W (W.alloc (.cells #[.string ⟨name.toArray⟩, .bool input, .bool must, .int .i64 type, .int .i64 opts, .int .i64 group, .slice al cls.length cl] 49)) := (Below.refl _ _).alloc (Nat.le_refl _) _
  by_cases ht : type = 5
  · rw [if_pos ht]
    subst ht
    obtain ⟨W1, hW1⟩ : ∃ W1, W1 = W.alloc (.cells #[.string ⟨name.toArray⟩, .bool input, .bool must, .int .i64 5, .int .i64 opts, .int .i64 group, .slice al cls.length cl] 49) := ⟨_, rfl⟩
    have hq : Bx W1 W.heap.size [.string ⟨name.toArray⟩, .bool input, .bool must, .int .i64 5, .int .i64 opts, .int .i64 group, .slice al cls.length cl] := by rw [hW1]; exact bx_new _ _ _
    rw [← hW1] at hB1
    have hk1 := h.bel hB1
    have hS : Hid (∀ Y, Below W1.heap.size W1 Y → Y.cell? ⟨cb, 2, none⟩ = some (.slice a3 p.opts.length c3) ∧ Y.cell? ⟨W.heap.size, 4, none⟩ = some (.int .i64 opts)) := ⟨fun Y hY => ⟨(hk1.bel hY).ce 2 (by decide), (hq.bel hY hq.1).2.1 4 (by simp)⟩⟩
    have hbd : Below W1.heap.size W1 W1.drew := (Below.refl _ _).drew
    have hS0 := hS.out _ hbd
    have q3 := hq.2.1 3 (by simp)
    have hhas := has_opt a3 p.opts.length c3 opts W1.drew
    generalize (decide (0 ≤ opts) && decide (opts < p.opts.length)) = r at hhas ⊢
    have hW1H := Hid.mk hW1
    clear hW1 hq hk1 h
    go_enter Try.func71, Try.ntmps71
    go_wp2_with fail
    rw [← hW1H.out]
    go_region_held3 (fun Y => Y.cell? ⟨cb, 2, none⟩ = some (.slice a3 p.opts.length c3) ∧ Y.cell? ⟨W.heap.size, 4, none⟩ = some (.int .i64 opts)) (assumption)
      (first | (go_at_call 73; refine hhas.mono ?_; clear hhas; rintro e w2 ⟨rfl, hb2⟩; have hS2 := hS.out w2 (bthr hbd hb2 (Nat.le_refl _))))
    have hb3 := bthr hB1 (bthr hbd hb2 (Nat.le_refl _)) (Nat.le_refl _)
    go_wp2
    go_ret
    exact ⟨rfl, hb3⟩
  · rw [if_neg ht]
    have ht' : (type == 5) = false := beq_eq_false_iff_ne.2 ht
    have hik := isKind_any type
    clear h
    cases hk : isK type with
    | false =>
      rw [hk] at hik
      go_enter Try.func71, Try.ntmps71
      go_wp2_with (go_at_call 62; refine (hik _).mono ?_; rintro e w2 ⟨rfl, rfl⟩)
      go_ret
      exact ⟨rfl, hB1⟩
    | true =>
      rw [hk] at hik
      clear hk
      have hR : Lk (.bool (true && decide (opts = -1))) W (.returned (.bool (opts == -1))) (W.alloc (.cells #[.string ⟨name.toArray⟩, .bool input, .bool must, .int .i64 type, .int .i64 opts, .int .i64 group, .slice al cls.length cl] 49)) := ⟨by rw [Bool.true_and]; rfl, hB1⟩
      go_enter Try.func71, Try.ntmps71
      go_wp2_with (go_at_call 62; refine (hik _).mono ?_; rintro e w2 ⟨rfl, rfl⟩)
      go_ret
      exact hR
end Go.Proofs.Yteiplejamciddaa
