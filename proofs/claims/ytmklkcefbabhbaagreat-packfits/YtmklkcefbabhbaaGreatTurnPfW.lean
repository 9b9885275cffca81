import Derived.Test.YtmklkcefbabhbaaGreatTurnPoT
import Derived.Test.YtmklkcefbabhbaaGreatJoin52
import Derived.Test.YtmklkcefbabhbaaGreatTurnYrZ
/- PackFits: the walk. -/
namespace Go.Proofs.YtmklkcefbabhbaaGreat.R6
open Go.RowKit

theorem lc_pos (p : Pk) (y : Ln) (i : Nat) : ∀ (l : List Cl) (j n : Nat) (f : Sp × Nat), lcF p y i l j n = some f → 0 < f.2
  | [], j, n, f, h => by cases h
  | c :: l, j, n, f, h => by
    unfold lcF at h
    cases h1 : (if 0 < j then tdF p y.group (3, -1) c.guard n else .ok n) with
    | error er =>
      rw [h1] at h
      injection h with h
      rw [← h]
      split at h1
      · exact (td_er h1).1
      · cases h1
    | ok n1 =>
      rw [h1] at h
      simp only at h
      cases h2 : tdF p y.group (lineK y) c.body n1 with
      | error er =>
        rw [h2] at h
        injection h with h
        rw [← h]
        exact (td_er h2).1
      | ok n2 =>
        rw [h2] at h
        exact lc_pos p y i l (j + 1) n2 f h
theorem le_pos (p : Pk) : ∀ (l : List Ln) (i : Nat) (f : Sp × Nat), leF p l i = some f → 0 < f.2
  | [], i, f, h => by cases h
  | y :: l, i, f, h => by
    unfold leF at h
    cases hc : lcF p y i y.cls 0 0 with
    | some g =>
      rw [hc] at h
      injection h with h
      rw [← h]
      exact lc_pos p y i _ _ _ _ hc
    | none =>
      rw [hc] at h
      exact le_pos p l (i + 1) f h
theorem ke_pos (p : Pk) : ∀ (l : List Ck) (i : Nat) (f : Sp × Nat), keF p l i = some f → 0 < f.2
  | [], i, f, h => by cases h
  | k :: l, i, f, h => by
    unfold keF at h
    cases hc : tdF p k.group (3, -1) k.when_ 0 with
    | error er =>
      rw [hc] at h
      injection h with h
      rw [← h]
      exact (td_er hc).1
    | ok n =>
      rw [hc] at h
      exact ke_pos p l (i + 1) f h
theorem ch_pos {p : Pk} {f : Sp × Nat} (h : chF p = some f) : 0 < f.2 := by
  rw [ch_is, sz_is] at h
  by_cases h0 : 0 < szN p
  · rw [if_pos h0] at h
    injection h with h
    rw [← h]
    show 0 < 60
    decide
  · rw [if_neg h0] at h
    cases hp : paF p with
    | some g =>
      rw [hp] at h
      injection h with h
      rw [← h]
      exact pa_pos hp
    | none =>
      rw [hp] at h
      have h : orF (leF p p.lns 0) (keF p p.cks 0) = some f := h
      cases hl : leF p p.lns 0 with
      | some g =>
        rw [hl] at h
        injection h with h
        rw [← h]
        exact le_pos p _ _ _ hl
      | none =>
        rw [hl] at h
        exact ke_pos p _ _ _ h
set_option maxRecDepth 20000 in
set_option maxHeartbeats 2000000 in
theorem fits_walk (p : Pk) (a3 a4 a5 a6 a7 : Option Addr) (c3 c4 c5 c6 c7 : Nat) (hz : SzP p) (hr : RgP p) (W : World) (hE : PkE W AnyB p [.string ⟨p.name.toArray⟩, .int .i64 p.year, .slice a3 p.opts.length c3, .slice a4 p.tabs.length c4, .slice a5 p.grps.length c5, .slice a6 p.lns.length c6, .slice a7 p.cks.length c7]) (hOq : RowR eOq W AnyB p.opts a3) : Calls Tryz.prog 3 #[.agg #[.string ⟨p.name.toArray⟩, .int .i64 p.year, .slice a3 p.opts.length c3, .slice a4 p.tabs.length c4, .slice a5 p.grps.length c5, .slice a6 p.lns.length c6, .slice a7 p.cks.length c7]] W fun e W' => e = .returned (.bool true) ∧ Below W.heap.size W W' := by
  obtain ⟨X, hXe⟩ : ∃ X, W.alloc (.cells #[.string ⟨p.name.toArray⟩, .int .i64 p.year, .slice a3 p.opts.length c3, .slice a4 p.tabs.length c4, .slice a5 p.grps.length c5, .slice a6 p.lns.length c6, .slice a7 p.cks.length c7] 28) = X := ⟨_, rfl⟩
  have hb0 : Below W.heap.size W X := by rw [← hXe]; exact (Below.refl _ _).alloc (Nat.le_refl _) _
  have hBx : Bx X W.heap.size (#[.string ⟨p.name.toArray⟩, .int .i64 p.year, .slice a3 p.opts.length c3, .slice a4 p.tabs.length c4, .slice a5 p.grps.length c5, .slice a6 p.lns.length c6, .slice a7 p.cks.length c7] : Array Value).toList := by rw [← hXe]; exact bx_new _ _ _
  have hPH : Hid (∀ w, Below X.heap.size X w → w.cell? ⟨W.heap.size, 0, none⟩ = some (.string ⟨p.name.toArray⟩) ∧ w.cell? ⟨W.heap.size, 1, none⟩ = some (.int .i64 p.year) ∧ w.cell? ⟨W.heap.size, 2, none⟩ = some (.slice a3 p.opts.length c3) ∧ w.cell? ⟨W.heap.size, 3, none⟩ = some (.slice a4 p.tabs.length c4) ∧ w.cell? ⟨W.heap.size, 4, none⟩ = some (.slice a5 p.grps.length c5) ∧ w.cell? ⟨W.heap.size, 5, none⟩ = some (.slice a6 p.lns.length c6) ∧ w.cell? ⟨W.heap.size, 6, none⟩ = some (.slice a7 p.cks.length c7)) := ⟨fun w hw => by
    have h := hBx.kept (gr_bel hw) (by simp)
    exact ⟨h.2.1 0 (by simp), h.2.1 1 (by simp), h.2.1 2 (by simp), h.2.1 3 (by simp), h.2.1 4 (by simp), h.2.1 5 (by simp), h.2.1 6 (by simp)⟩⟩
  have hEX := pke_bel hE hb0 (Nat.le_refl _)
  have hqX := row_bel hOq hb0 (Nat.le_refl _)
  have hkn := known_any X
  have hR : ∀ w, PkE w AnyB p [.string ⟨p.name.toArray⟩, .int .i64 p.year, .slice a3 p.opts.length c3, .slice a4 p.tabs.length c4, .slice a5 p.grps.length c5, .slice a6 p.lns.length c6, .slice a7 p.cks.length c7] → RowR eT w AnyB p.tabs a4 ∧ RowR eG w AnyB p.grps a5 ∧ RowR eL w AnyB p.lns a6 ∧ RowR eK w AnyB p.cks a7 := fun w h => by
    obtain ⟨_, _, _, _, _, _, _, _, _, _, e, -, g3, g4, g5, g6, g7⟩ := h
    simp only [List.cons.injEq, Value.slice.injEq, and_true, true_and] at e
    obtain ⟨⟨rfl, -⟩, ⟨rfl, -⟩, ⟨rfl, -⟩, ⟨rfl, -⟩, ⟨rfl, -⟩⟩ := e
    exact ⟨g4, g5, g6, g7⟩
  have hsm : Hid (∀ w, Below X.heap.size X w → Calls Tryz.prog 5 #[.agg #[.string ⟨p.name.toArray⟩, .int .i64 p.year, .slice a3 p.opts.length c3, .slice a4 p.tabs.length c4, .slice a5 p.grps.length c5, .slice a6 p.lns.length c6, .slice a7 p.cks.length c7]] w (YnP w)) := ⟨fun w hw => by
    obtain ⟨r4, r5, r6, r7⟩ := hR w (pke_bel hEX hw (Nat.le_refl _))
    exact small_any p a3 a4 a5 a6 a7 c3 c4 c5 c6 c7 w hz (oq_o (row_bel hqX hw (Nat.le_refl _))) r4 r6 r7⟩
  obtain ⟨C, hC⟩ : ∃ C, chF p = C := ⟨_, rfl⟩
  have hch : Hid (∀ w, Below X.heap.size X w → Calls Tryz.prog 6 #[.agg #[.string ⟨p.name.toArray⟩, .int .i64 p.year, .slice a3 p.opts.length c3, .slice a4 p.tabs.length c4, .slice a5 p.grps.length c5, .slice a6 p.lns.length c6, .slice a7 p.cks.length c7]] w (FaP w C)) := ⟨fun w hw => by
    obtain ⟨r4, r5, r6, r7⟩ := hR w (pke_bel hEX hw (Nat.le_refl _))
    rw [← hC]
    exact rcheck_any p a3 a4 a5 a6 a7 c3 c4 c5 c6 c7 w (row_bel hqX hw (Nat.le_refl _)) r4 r5 r6 r7⟩
  have hpu := Hid.mk (fun w (hw : Below X.heap.size X w) => put_has p _ hz w (pke_bel hEX hw (Nat.le_refl _)))
  have hCH := Hid.mk hC
  have hrH := Hid.mk hr
  clear hE hOq hEX hqX hR hz hC hBx hr
  go_enter Tryz.func3, Tryz.ntmps3
  go_wp2_with (go_at_call 4; refine hkn.mono ?_; rintro e w1 ⟨rfl, hb1⟩; obtain ⟨x0, x1, x2, x3, x4, x5, x6⟩ := hPH.out w1 hb1; have hs1 := hsm.out w1 hb1; go_wp2_with (go_at_call 5; fail))
  refine hs1.mono ?_
  rintro e w2 ⟨hb2, b, rfl⟩
  have hb12 := belT hb1 hb2
  clear hs1 hkn x0 x1 x2 x3 x4 x5 x6
  cases b with
  | false =>
    go_wp2
    go_ret
    exact ⟨rfl, belT hb0 hb12⟩
  | true =>
    obtain ⟨x0, x1, x2, x3, x4, x5, x6⟩ := hPH.out w2 hb12
    have hc2 := hch.out w2 hb12
    go_wp2_with (go_at_call 6; fail)
    refine hc2.mono ?_
    clear hc2
    cases C with
    | some f =>
      rintro e w3 ⟨hb3, pv, rfl, hpt⟩
      obtain ⟨av, nv, cv, rfl⟩ := hpt.sl
      have hp := ch_pos hCH.out
      have hp' : ((f.2 : Int) != 0) = true := by simp; omega
      have hb13 := belT hb12 hb3
      clear hp x0 x1 x2 x3 x4 x5 x6 hpt
      go_wp2
      go_ret
      exact ⟨rfl, belT hb0 (belT hb13 ((Below.refl _ _).alloc (Nat.le_refl _) _))⟩
    | none =>
      rintro e w3 ⟨hb3, rfl⟩
      have hb13 := belT hb12 hb3
      have hbA : Below w3.heap.size w3 (w3.alloc (.cells #[.int .i64 0, .int .i64 0, .int .i64 0, .slice none 0 0] 33)) := (Below.refl _ _).alloc (Nat.le_refl _) _
      have hb14 := belT hb13 hbA
      obtain ⟨hhas, h15⟩ := ch_has hCH.out hrH.out
      have hpuw := hpu.out _ hb14
      clear x0 x1 x2 x3 x4 x5 x6 hbA
      obtain ⟨x0, x1, x2, x3, x4, x5, x6⟩ := hPH.out _ hb14
      go_wp2_with (go_at_call 7; fail)
      refine hpuw.mono ?_
      rintro e w5 ⟨hb5, ⟨rfl, hno⟩ | ⟨a, cap, l, rfl, -, hl⟩⟩
      · exact absurd hhas hno.out
      · have hll : (15 : Int) < (l.length : Int) := by have := hl.out.1; rw [this]; omega
        clear hpuw hl x0 x1 x2 x3 x4 x5 x6 h15 hhas
        go_wp2_with (go_at_call 8; refine (num_any _ _).mono ?_; rintro e w ⟨rfl, rfl⟩)
        go_ret
        exact ⟨rfl, belT hb0 (belT hb14 hb5)⟩
end Go.Proofs.YtmklkcefbabhbaaGreat.R6
