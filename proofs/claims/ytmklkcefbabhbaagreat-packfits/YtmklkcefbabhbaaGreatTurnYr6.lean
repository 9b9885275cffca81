import Derived.Test.YtmklkcefbabhbaaGreatJoin22
/- A line, a check. -/
namespace Go.Proofs.YtmklkcefbabhbaaGreat.R6
open Go.RowKit

theorem cl_step (l : List Cl) {i : Nat} (h : i < l.length) : clF l (l.drop i) i = if clB l i l[i] then clF l (l.drop (i + 1)) (i + 1) else some i := by
  rw [List.drop_eq_getElem_cons h]
  rfl
theorem cl_end (l : List Cl) (i : Nat) : clF l (l.drop l.length) i = none := by simp [clF]
set_option maxRecDepth 20000 in
set_option maxHeartbeats 8000000 in
theorem oneLine_any (p : Pk) (a3 a4 a5 a6 a7 : Option Addr) (c3 c4 c5 c6 c7 : Nat) (l : Ln) (a : Option Addr) (c : Nat) (all : Sn) (b : Option Addr) (d : Nat) (W : World) (hR : RowR eC W AnyB l.cls a) (hA : RowR eS W AnyB all b) (hl : all.length ≤ 9223372036854775807) : Calls Tryz.prog 27 #[.agg #[.string ⟨p.name.toArray⟩, .int .i64 p.year, .slice a3 p.opts.length c3, .slice a4 p.tabs.length c4, .slice a5 p.grps.length c5, .slice a6 p.lns.length c6, .slice a7 p.cks.length c7], .agg #[.string ⟨l.name.toArray⟩, .bool l.input, .bool l.must, .int .i64 l.type, .int .i64 l.opts, .int .i64 l.group, .slice a l.cls.length c], .slice b all.length d] W (Lk (.tuple #[.int .i64 ((lnE p all l).1 : Int), .int .i64 (lnE p all l).2]) W) := by
  obtain ⟨X, hXe⟩ : ∃ X, (W.alloc (.cells #[.string ⟨p.name.toArray⟩, .int .i64 p.year, .slice a3 p.opts.length c3, .slice a4 p.tabs.length c4, .slice a5 p.grps.length c5, .slice a6 p.lns.length c6, .slice a7 p.cks.length c7] 28)).alloc (.cells #[.string ⟨l.name.toArray⟩, .bool l.input, .bool l.must, .int .i64 l.type, .int .i64 l.opts, .int .i64 l.group, .slice a l.cls.length c] 55) = X := ⟨_, rfl⟩
  have hb0 : Below W.heap.size W X := by rw [← hXe]; exact ((Below.refl _ _).alloc (Nat.le_refl _) _).alloc (by simp) _
  have hXl : W.heap.size + 1 < X.heap.size := by rw [← hXe]; simp
  have hBx : Hid (∀ w, Below X.heap.size X w → w.cell? ⟨W.heap.size, 0, none⟩ = some (.string ⟨p.name.toArray⟩) ∧ w.cell? ⟨W.heap.size, 1, none⟩ = some (.int .i64 p.year) ∧ w.cell? ⟨W.heap.size, 2, none⟩ = some (.slice a3 p.opts.length c3) ∧ w.cell? ⟨W.heap.size, 3, none⟩ = some (.slice a4 p.tabs.length c4) ∧ w.cell? ⟨W.heap.size, 4, none⟩ = some (.slice a5 p.grps.length c5) ∧ w.cell? ⟨W.heap.size, 5, none⟩ = some (.slice a6 p.lns.length c6) ∧ w.cell? ⟨W.heap.size, 6, none⟩ = some (.slice a7 p.cks.length c7) ∧ w.cell? ⟨W.heap.size + 1, 0, none⟩ = some (.string ⟨l.name.toArray⟩) ∧ w.cell? ⟨W.heap.size + 1, 1, none⟩ = some (.bool l.input) ∧ w.cell? ⟨W.heap.size + 1, 2, none⟩ = some (.bool l.must) ∧ w.cell? ⟨W.heap.size + 1, 3, none⟩ = some (.int .i64 l.type) ∧ w.cell? ⟨W.heap.size + 1, 4, none⟩ = some (.int .i64 l.opts) ∧ w.cell? ⟨W.heap.size + 1, 5, none⟩ = some (.int .i64 l.group) ∧ w.cell? ⟨W.heap.size + 1, 6, none⟩ = some (.slice a l.cls.length c)) := ⟨fun w hw => ⟨(bel_cell hw (by omega) 0).trans (by rw [← hXe]; simp), (bel_cell hw (by omega) 1).trans (by rw [← hXe]; simp), (bel_cell hw (by omega) 2).trans (by rw [← hXe]; simp), (bel_cell hw (by omega) 3).trans (by rw [← hXe]; simp), (bel_cell hw (by omega) 4).trans (by rw [← hXe]; simp), (bel_cell hw (by omega) 5).trans (by rw [← hXe]; simp), (bel_cell hw (by omega) 6).trans (by rw [← hXe]; simp), (bel_cell hw hXl 0).trans (by rw [← hXe, show W.heap.size + 1 = (W.alloc (.cells #[.string ⟨p.name.toArray⟩, .int .i64 p.year, .slice a3 p.opts.length c3, .slice a4 p.tabs.length c4, .slice a5 p.grps.length c5, .slice a6 p.lns.length c6, .slice a7 p.cks.length c7] 28)).heap.size by simp]; simp), (bel_cell hw hXl 1).trans (by rw [← hXe, show W.heap.size + 1 = (W.alloc (.cells #[.string ⟨p.name.toArray⟩, .int .i64 p.year, .slice a3 p.opts.length c3, .slice a4 p.tabs.length c4, .slice a5 p.grps.length c5, .slice a6 p.lns.length c6, .slice a7 p.cks.length c7] 28)).heap.size by simp]; simp), (bel_cell hw hXl 2).trans (by rw [← hXe, show W.heap.size + 1 = (W.alloc (.cells #[.string ⟨p.name.toArray⟩, .int .i64 p.year, .slice a3 p.opts.length c3, .slice a4 p.tabs.length c4, .slice a5 p.grps.length c5, .slice a6 p.lns.length c6, .slice a7 p.cks.length c7] 28)).heap.size by simp]; simp), (bel_cell hw hXl 3).trans (by rw [← hXe, show W.heap.size + 1 = (W.alloc (.cells #[.string ⟨p.name.toArray⟩, .int .i64 p.year, .slice a3 p.opts.length c3, .slice a4 p.tabs.length c4, .slice a5 p.grps.length c5, .slice a6 p.lns.length c6, .slice a7 p.cks.length c7] 28)).heap.size by simp]; simp), (bel_cell hw hXl 4).trans (by rw [← hXe, show W.heap.size + 1 = (W.alloc (.cells #[.string ⟨p.name.toArray⟩, .int .i64 p.year, .slice a3 p.opts.length c3, .slice a4 p.tabs.length c4, .slice a5 p.grps.length c5, .slice a6 p.lns.length c6, .slice a7 p.cks.length c7] 28)).heap.size by simp]; simp), (bel_cell hw hXl 5).trans (by rw [← hXe, show W.heap.size + 1 = (W.alloc (.cells #[.string ⟨p.name.toArray⟩, .int .i64 p.year, .slice a3 p.opts.length c3, .slice a4 p.tabs.length c4, .slice a5 p.grps.length c5, .slice a6 p.lns.length c6, .slice a7 p.cks.length c7] 28)).heap.size by simp]; simp), (bel_cell hw hXl 6).trans (by rw [← hXe, show W.heap.size + 1 = (W.alloc (.cells #[.string ⟨p.name.toArray⟩, .int .i64 p.year, .slice a3 p.opts.length c3, .slice a4 p.tabs.length c4, .slice a5 p.grps.length c5, .slice a6 p.lns.length c6, .slice a7 p.cks.length c7] 28)).heap.size by simp]; simp)⟩⟩
  obtain ⟨x0, x1, x2, x3, x4, x5, x6, y0, y1, y2, y3, y4, y5, y6⟩ := hBx.out X (Below.refl _ _)
  have hRX : Hid (∀ w, Below X.heap.size X w → RowR eC w AnyB l.cls a) := ⟨fun w hw => row_bel (row_bel hR hb0 (Nat.le_refl _)) hw (Nat.le_refl _)⟩
  have hlk := look_any all b d l.name X (row_bel hA hb0 (Nat.le_refl _)) hl
  have hgr := group_any p a3 a4 a5 a6 a7 c3 c4 c5 c6 c7 l.group X
  clear hR hA
  obtain ⟨⟨r1, r2⟩, hR⟩ : ∃ R, lnE p all l = R := ⟨_, rfl⟩
  rw [hR]
  unfold lnE at hR
  obtain ⟨E, hE⟩ : ∃ E, lkN all l.name = E := ⟨_, rfl⟩
  rw [hE] at hlk hR
  by_cases h0 : E = 0
  rotate_left
  · have h0' : ((E : Int) != 0) = true := by simp; omega
    rw [if_pos h0, Prod.mk.injEq] at hR
    obtain ⟨rfl, rfl⟩ := hR
    clear hE h0 hgr
    go_enter Tryz.func27, Tryz.ntmps27
    go_wp2_with (go_at_call 26; refine hlk.mono ?_; rintro e w1 ⟨rfl, hw⟩; subst w1)
    refine bodyPost_ret (v := .tuple #[.int .i64 (E : Int), .int .i64 (-1)]) (by simp [results, Tryz.results27, go_sem]) rfl ?_
    exact ⟨rfl, hb0⟩
  subst h0
  rw [if_neg (by simp)] at hR
  clear hE
  by_cases q0 : l.type < 1
  · have g0 : ¬ (1 : Int) ≤ l.type := by omega
    have g1 : (l.type == 5) = false := by simp; omega
    rw [if_pos (by unfold tyB isK; simp; omega), Prod.mk.injEq] at hR
    obtain ⟨rfl, rfl⟩ := hR
    clear hgr 
    go_enter Tryz.func27, Tryz.ntmps27
    go_wp2_with (go_at_call 26; refine hlk.mono ?_; rintro e w1 ⟨rfl, hw⟩; subst w1)
    refine bodyPost_ret (v := .tuple #[.int .i64 65, .int .i64 (-1)]) (by simp [results, Tryz.results27, go_sem]) rfl ?_
    exact ⟨rfl, hb0⟩
  by_cases q1 : 5 < l.type
  · have g0 : (1 : Int) ≤ l.type := by omega
    have g1 : ¬ l.type ≤ 5 := by omega
    have g2 : (l.type == 5) = false := by simp; omega
    rw [if_pos (by unfold tyB isK; simp; omega), Prod.mk.injEq] at hR
    obtain ⟨rfl, rfl⟩ := hR
    clear hgr 
    go_enter Tryz.func27, Tryz.ntmps27
    go_wp2_with (go_at_call 26; refine hlk.mono ?_; rintro e w1 ⟨rfl, hw⟩; subst w1)
    refine bodyPost_ret (v := .tuple #[.int .i64 65, .int .i64 (-1)]) (by simp [results, Tryz.results27, go_sem]) rfl ?_
    exact ⟨rfl, hb0⟩
  by_cases q2 : l.type = 5
  · by_cases q3 : l.opts < 0
    · have g0 : (1 : Int) ≤ l.type := by omega
      have g1 : l.type ≤ 5 := by omega
      have g2 : (l.type == 5) = true := by simp; omega
      have g3 : ¬ (0 : Int) ≤ l.opts := by omega
      rw [if_pos (by unfold tyB isK; rw [if_pos q2]; simp; omega), Prod.mk.injEq] at hR
      obtain ⟨rfl, rfl⟩ := hR
      clear hgr q2
      go_enter Tryz.func27, Tryz.ntmps27
      go_wp2_with (go_at_call 26; refine hlk.mono ?_; rintro e w1 ⟨rfl, hw⟩; subst w1)
      refine bodyPost_ret (v := .tuple #[.int .i64 65, .int .i64 (-1)]) (by simp [results, Tryz.results27, go_sem]) rfl ?_
      exact ⟨rfl, hb0⟩
    by_cases q4 : (p.opts.length : Int) ≤ l.opts
    · have g0 : (1 : Int) ≤ l.type := by omega
      have g1 : l.type ≤ 5 := by omega
      have g2 : (l.type == 5) = true := by simp; omega
      have g3 : (0 : Int) ≤ l.opts := by omega
      have g4 : ¬ l.opts < (p.opts.length : Int) := by omega
      rw [if_pos (by unfold tyB isK; rw [if_pos q2]; simp; omega), Prod.mk.injEq] at hR
      obtain ⟨rfl, rfl⟩ := hR
      clear hgr q2
      go_enter Tryz.func27, Tryz.ntmps27
      go_wp2_with (go_at_call 26; refine hlk.mono ?_; rintro e w1 ⟨rfl, hw⟩; subst w1)
      refine bodyPost_ret (v := .tuple #[.int .i64 65, .int .i64 (-1)]) (by simp [results, Tryz.results27, go_sem]) rfl ?_
      exact ⟨rfl, hb0⟩
    have g0 : (1 : Int) ≤ l.type := by omega
    have g1 : l.type ≤ 5 := by omega
    have g2 : (l.type == 5) = true := by simp; omega
    have g3 : (0 : Int) ≤ l.opts := by omega
    have g4 : l.opts < (p.opts.length : Int) := by omega
    have g5 : (l.type != 5) = false := by simp; omega
    rw [if_neg (by unfold tyB isK; rw [if_pos q2]; simp; omega)] at hR
    clear q2
    cases hig : inG p l.group with
    | false =>
      rw [hig] at hgr hR
      rw [if_pos rfl, Prod.mk.injEq] at hR
      obtain ⟨rfl, rfl⟩ := hR
      clear hig
      go_enter Tryz.func27, Tryz.ntmps27
      go_wp2_with (first | (go_at_call 26; refine hlk.mono ?_; rintro e w1 ⟨rfl, hw⟩; subst w1) | (go_at_call 63; refine hgr.mono ?_; rintro e w2 ⟨rfl, hb2⟩; obtain ⟨x0, x1, x2, x3, x4, x5, x6, y0, y1, y2, y3, y4, y5, y6⟩ := hBx.out _ hb2))
      refine bodyPost_ret (v := .tuple #[.int .i64 64, .int .i64 (-1)]) (by simp [results, Tryz.results27, go_sem]) rfl ?_
      exact ⟨rfl, belT hb0 hb2⟩
    | true =>
      rw [hig] at hgr hR
      rw [if_neg (by simp)] at hR
      clear hig
      cases hin : l.input with
      | true =>
        rw [hin] at y1 hXe hBx
        by_cases hn : 0 < l.cls.length
        · have g9 : (0 : Int) < (l.cls.length : Int) := by omega
          rw [if_pos (by unfold lnB; simp [hin]; intro e; rw [e] at hn; simp at hn), Prod.mk.injEq] at hR
          obtain ⟨rfl, rfl⟩ := hR
          clear hin
          go_enter Tryz.func27, Tryz.ntmps27
          go_wp2_with (first | (go_at_call 26; refine hlk.mono ?_; rintro e w1 ⟨rfl, hw⟩; subst w1) | (go_at_call 63; refine hgr.mono ?_; rintro e w2 ⟨rfl, hb2⟩; obtain ⟨x0, x1, x2, x3, x4, x5, x6, y0, y1, y2, y3, y4, y5, y6⟩ := hBx.out _ hb2))
          refine bodyPost_ret (v := .tuple #[.int .i64 65, .int .i64 (-1)]) (by simp [results, Tryz.results27, go_sem]) rfl ?_
          exact ⟨rfl, belT hb0 hb2⟩
        · have g9 : ¬ (0 : Int) < (l.cls.length : Int) := by omega
          rw [if_neg (by unfold lnB; simp [hin]; exact List.length_eq_zero_iff.1 (by omega))] at hR
          have hinH := Hid.mk hin
          clear hin
          have hF0 : Hid ((match clF l.cls (l.cls.drop 0) 0 with | some k => ((66 : Nat), (k : Int)) | none => (0, 0)) = (r1, r2)) := ⟨hR⟩
          clear hR
          go_enter Tryz.func27, Tryz.ntmps27
          go_wp2_with (first | (go_at_call 26; refine hlk.mono ?_; rintro e w1 ⟨rfl, hw⟩; subst w1) | (go_at_call 63; refine hgr.mono ?_; rintro e w2 ⟨rfl, hb2⟩; obtain ⟨x0, x1, x2, x3, x4, x5, x6, y0, y1, y2, y3, y4, y5, y6⟩ := hBx.out _ hb2))
          clear hgr hlk
          have hbX2 := hb2
          go_loopw [12] (fun iv wr => ∃ i : Nat, iv = .int .i64 (i : Int) ∧ i ≤ l.cls.length ∧ Below X.heap.size X wr ∧ Hid ((match clF l.cls (l.cls.drop i) i with | some k => ((66 : Nat), (k : Int)) | none => (0, 0)) = (r1, r2))) (fun iv _ => l.cls.length - (intOf iv).toNat)
          case atStart => exact ⟨0, rfl, Nat.zero_le _, hbX2, hF0⟩
          case round =>
            clear hF0 x0 x1 x2 x3 x4 x5 x6 y0 y1 y2 y3 y4 y5 y6 hb2 hbX2
            obtain ⟨i, rfl, hi, hbw, hst⟩ := hrel
            obtain ⟨x0, x1, x2, x3, x4, x5, x6, y0, y1, y2, y3, y4, y5, y6⟩ := hBx.out _ hbw
            by_cases hlt : i < l.cls.length
            · have hlt' : (i : Int) < (l.cls.length : Int) := by omega
              have hi0 : (0 : Int) ≤ (i : Int) := by omega
              replace hst := hst.out
              rw [cl_step l.cls hlt] at hst
              have hcl := clause_any l a c i hlt (by omega) _ (hRX.out _ hbw)
              rw [hinH.out] at hcl
              cases hB : clB l.cls i l.cls[i] with
              | true =>
                rw [hB] at hcl hst
                simp only [if_true] at hst
                replace hst := Hid.mk hst
                clear hB
                go_wp2_with (go_at_call 64; refine hcl.mono ?_; rintro e w3 ⟨rfl, hb3⟩)
                exact ⟨⟨i + 1, rfl, hlt, belT hbw hb3, hst⟩, by simp only [intOf]; omega⟩
              | false =>
                rw [hB] at hcl hst
                simp only [Bool.false_eq_true, if_false, Prod.mk.injEq] at hst
                obtain ⟨rfl, rfl⟩ := hst
                clear hB
                go_wp2_with (go_at_call 64; refine hcl.mono ?_; rintro e w3 ⟨rfl, hb3⟩)
                refine bodyPost_ret (v := .tuple #[.int .i64 66, .int .i64 (i : Int)]) (by simp [results, Tryz.results27, go_sem]) rfl ?_
                exact ⟨rfl, belT hb0 (belT hbw hb3)⟩
            · have hlt' : ¬ (i : Int) < (l.cls.length : Int) := by omega
              obtain rfl : i = l.cls.length := by omega
              replace hst := hst.out
              rw [cl_end] at hst
              simp only [Prod.mk.injEq] at hst
              obtain ⟨rfl, rfl⟩ := hst
              go_wp2
              refine bodyPost_ret (v := .tuple #[.int .i64 0, .int .i64 0]) (by simp [results, Tryz.results27, go_sem]) rfl ?_
              exact ⟨rfl, belT hb0 hbw⟩

      | false =>
        rw [hin] at y1 hXe hBx
        by_cases hn1 : l.cls.length < 1
        · have g9 : (l.cls.length : Int) < 1 := by omega
          rw [if_pos (by unfold lnB; simp [hin]; intro e; omega), Prod.mk.injEq] at hR
          obtain ⟨rfl, rfl⟩ := hR
          clear hin
          go_enter Tryz.func27, Tryz.ntmps27
          go_wp2_with (first | (go_at_call 26; refine hlk.mono ?_; rintro e w1 ⟨rfl, hw⟩; subst w1) | (go_at_call 63; refine hgr.mono ?_; rintro e w2 ⟨rfl, hb2⟩; obtain ⟨x0, x1, x2, x3, x4, x5, x6, y0, y1, y2, y3, y4, y5, y6⟩ := hBx.out _ hb2))
          refine bodyPost_ret (v := .tuple #[.int .i64 65, .int .i64 (-1)]) (by simp [results, Tryz.results27, go_sem]) rfl ?_
          exact ⟨rfl, belT hb0 hb2⟩
        by_cases hn6 : 6 < l.cls.length
        · have g8 : ¬ (l.cls.length : Int) < 1 := by omega
          have g9 : (6 : Int) < (l.cls.length : Int) := by omega
          rw [if_pos (by unfold lnB; simp [hin]; omega), Prod.mk.injEq] at hR
          obtain ⟨rfl, rfl⟩ := hR
          clear hin
          go_enter Tryz.func27, Tryz.ntmps27
          go_wp2_with (first | (go_at_call 26; refine hlk.mono ?_; rintro e w1 ⟨rfl, hw⟩; subst w1) | (go_at_call 63; refine hgr.mono ?_; rintro e w2 ⟨rfl, hb2⟩; obtain ⟨x0, x1, x2, x3, x4, x5, x6, y0, y1, y2, y3, y4, y5, y6⟩ := hBx.out _ hb2))
          refine bodyPost_ret (v := .tuple #[.int .i64 65, .int .i64 (-1)]) (by simp [results, Tryz.results27, go_sem]) rfl ?_
          exact ⟨rfl, belT hb0 hb2⟩
        · have g8 : ¬ (l.cls.length : Int) < 1 := by omega
          have g9 : ¬ (6 : Int) < (l.cls.length : Int) := by omega
          rw [if_neg (by unfold lnB; simp [hin]; omega)] at hR
          have hinH := Hid.mk hin
          clear hin
          have hF0 : Hid ((match clF l.cls (l.cls.drop 0) 0 with | some k => ((66 : Nat), (k : Int)) | none => (0, 0)) = (r1, r2)) := ⟨hR⟩
          clear hR
          go_enter Tryz.func27, Tryz.ntmps27
          go_wp2_with (first | (go_at_call 26; refine hlk.mono ?_; rintro e w1 ⟨rfl, hw⟩; subst w1) | (go_at_call 63; refine hgr.mono ?_; rintro e w2 ⟨rfl, hb2⟩; obtain ⟨x0, x1, x2, x3, x4, x5, x6, y0, y1, y2, y3, y4, y5, y6⟩ := hBx.out _ hb2))
          clear hgr hlk
          have hbX2 := hb2
          go_loopw [12] (fun iv wr => ∃ i : Nat, iv = .int .i64 (i : Int) ∧ i ≤ l.cls.length ∧ Below X.heap.size X wr ∧ Hid ((match clF l.cls (l.cls.drop i) i with | some k => ((66 : Nat), (k : Int)) | none => (0, 0)) = (r1, r2))) (fun iv _ => l.cls.length - (intOf iv).toNat)
          case atStart => exact ⟨0, rfl, Nat.zero_le _, hbX2, hF0⟩
          case round =>
            clear hF0 x0 x1 x2 x3 x4 x5 x6 y0 y1 y2 y3 y4 y5 y6 hb2 hbX2
            obtain ⟨i, rfl, hi, hbw, hst⟩ := hrel
            obtain ⟨x0, x1, x2, x3, x4, x5, x6, y0, y1, y2, y3, y4, y5, y6⟩ := hBx.out _ hbw
            by_cases hlt : i < l.cls.length
            · have hlt' : (i : Int) < (l.cls.length : Int) := by omega
              have hi0 : (0 : Int) ≤ (i : Int) := by omega
              replace hst := hst.out
              rw [cl_step l.cls hlt] at hst
              have hcl := clause_any l a c i hlt (by omega) _ (hRX.out _ hbw)
              rw [hinH.out] at hcl
              cases hB : clB l.cls i l.cls[i] with
              | true =>
                rw [hB] at hcl hst
                simp only [if_true] at hst
                replace hst := Hid.mk hst
                clear hB
                go_wp2_with (go_at_call 64; refine hcl.mono ?_; rintro e w3 ⟨rfl, hb3⟩)
                exact ⟨⟨i + 1, rfl, hlt, belT hbw hb3, hst⟩, by simp only [intOf]; omega⟩
              | false =>
                rw [hB] at hcl hst
                simp only [Bool.false_eq_true, if_false, Prod.mk.injEq] at hst
                obtain ⟨rfl, rfl⟩ := hst
                clear hB
                go_wp2_with (go_at_call 64; refine hcl.mono ?_; rintro e w3 ⟨rfl, hb3⟩)
                refine bodyPost_ret (v := .tuple #[.int .i64 66, .int .i64 (i : Int)]) (by simp [results, Tryz.results27, go_sem]) rfl ?_
                exact ⟨rfl, belT hb0 (belT hbw hb3)⟩
            · have hlt' : ¬ (i : Int) < (l.cls.length : Int) := by omega
              obtain rfl : i = l.cls.length := by omega
              replace hst := hst.out
              rw [cl_end] at hst
              simp only [Prod.mk.injEq] at hst
              obtain ⟨rfl, rfl⟩ := hst
              go_wp2
              refine bodyPost_ret (v := .tuple #[.int .i64 0, .int .i64 0]) (by simp [results, Tryz.results27, go_sem]) rfl ?_
              exact ⟨rfl, belT hb0 hbw⟩


  · by_cases q3 : ¬ l.opts = -1
    · have g0 : (1 : Int) ≤ l.type := by omega
      have g1 : l.type ≤ 5 := by omega
      have g2 : (l.type == 5) = false := by simp; omega
      have g3 : (l.type != 5) = true := by simp; omega
      have g4 : (l.opts != -1) = true := by simp; omega
      rw [if_pos (by unfold tyB isK; rw [if_neg q2]; simp; omega), Prod.mk.injEq] at hR
      obtain ⟨rfl, rfl⟩ := hR
      clear hgr q2 q3
      go_enter Tryz.func27, Tryz.ntmps27
      go_wp2_with (go_at_call 26; refine hlk.mono ?_; rintro e w1 ⟨rfl, hw⟩; subst w1)
      refine bodyPost_ret (v := .tuple #[.int .i64 65, .int .i64 (-1)]) (by simp [results, Tryz.results27, go_sem]) rfl ?_
      exact ⟨rfl, hb0⟩
    have g0 : (1 : Int) ≤ l.type := by omega
    have g1 : l.type ≤ 5 := by omega
    have g2 : (l.type == 5) = false := by simp; omega
    have g3 : (l.type != 5) = true := by simp; omega
    have g4 : (l.opts != -1) = false := by simp; omega
    rw [if_neg (by unfold tyB isK; rw [if_neg q2]; simp; omega)] at hR
    clear q2 q3
    cases hig : inG p l.group with
    | false =>
      rw [hig] at hgr hR
      rw [if_pos rfl, Prod.mk.injEq] at hR
      obtain ⟨rfl, rfl⟩ := hR
      clear hig
      go_enter Tryz.func27, Tryz.ntmps27
      go_wp2_with (first | (go_at_call 26; refine hlk.mono ?_; rintro e w1 ⟨rfl, hw⟩; subst w1) | (go_at_call 63; refine hgr.mono ?_; rintro e w2 ⟨rfl, hb2⟩; obtain ⟨x0, x1, x2, x3, x4, x5, x6, y0, y1, y2, y3, y4, y5, y6⟩ := hBx.out _ hb2))
      refine bodyPost_ret (v := .tuple #[.int .i64 64, .int .i64 (-1)]) (by simp [results, Tryz.results27, go_sem]) rfl ?_
      exact ⟨rfl, belT hb0 hb2⟩
    | true =>
      rw [hig] at hgr hR
      rw [if_neg (by simp)] at hR
      clear hig
      cases hin : l.input with
      | true =>
        rw [hin] at y1 hXe hBx
        by_cases hn : 0 < l.cls.length
        · have g9 : (0 : Int) < (l.cls.length : Int) := by omega
          rw [if_pos (by unfold lnB; simp [hin]; intro e; rw [e] at hn; simp at hn), Prod.mk.injEq] at hR
          obtain ⟨rfl, rfl⟩ := hR
          clear hin
          go_enter Tryz.func27, Tryz.ntmps27
          go_wp2_with (first | (go_at_call 26; refine hlk.mono ?_; rintro e w1 ⟨rfl, hw⟩; subst w1) | (go_at_call 63; refine hgr.mono ?_; rintro e w2 ⟨rfl, hb2⟩; obtain ⟨x0, x1, x2, x3, x4, x5, x6, y0, y1, y2, y3, y4, y5, y6⟩ := hBx.out _ hb2))
          refine bodyPost_ret (v := .tuple #[.int .i64 65, .int .i64 (-1)]) (by simp [results, Tryz.results27, go_sem]) rfl ?_
          exact ⟨rfl, belT hb0 hb2⟩
        · have g9 : ¬ (0 : Int) < (l.cls.length : Int) := by omega
          rw [if_neg (by unfold lnB; simp [hin]; exact List.length_eq_zero_iff.1 (by omega))] at hR
          have hinH := Hid.mk hin
          clear hin
          have hF0 : Hid ((match clF l.cls (l.cls.drop 0) 0 with | some k => ((66 : Nat), (k : Int)) | none => (0, 0)) = (r1, r2)) := ⟨hR⟩
          clear hR
          go_enter Tryz.func27, Tryz.ntmps27
          go_wp2_with (first | (go_at_call 26; refine hlk.mono ?_; rintro e w1 ⟨rfl, hw⟩; subst w1) | (go_at_call 63; refine hgr.mono ?_; rintro e w2 ⟨rfl, hb2⟩; obtain ⟨x0, x1, x2, x3, x4, x5, x6, y0, y1, y2, y3, y4, y5, y6⟩ := hBx.out _ hb2))
          clear hgr hlk
          have hbX2 := hb2
          go_loopw [12] (fun iv wr => ∃ i : Nat, iv = .int .i64 (i : Int) ∧ i ≤ l.cls.length ∧ Below X.heap.size X wr ∧ Hid ((match clF l.cls (l.cls.drop i) i with | some k => ((66 : Nat), (k : Int)) | none => (0, 0)) = (r1, r2))) (fun iv _ => l.cls.length - (intOf iv).toNat)
          case atStart => exact ⟨0, rfl, Nat.zero_le _, hbX2, hF0⟩
          case round =>
            clear hF0 x0 x1 x2 x3 x4 x5 x6 y0 y1 y2 y3 y4 y5 y6 hb2 hbX2
            obtain ⟨i, rfl, hi, hbw, hst⟩ := hrel
            obtain ⟨x0, x1, x2, x3, x4, x5, x6, y0, y1, y2, y3, y4, y5, y6⟩ := hBx.out _ hbw
            by_cases hlt : i < l.cls.length
            · have hlt' : (i : Int) < (l.cls.length : Int) := by omega
              have hi0 : (0 : Int) ≤ (i : Int) := by omega
              replace hst := hst.out
              rw [cl_step l.cls hlt] at hst
              have hcl := clause_any l a c i hlt (by omega) _ (hRX.out _ hbw)
              rw [hinH.out] at hcl
              cases hB : clB l.cls i l.cls[i] with
              | true =>
                rw [hB] at hcl hst
                simp only [if_true] at hst
                replace hst := Hid.mk hst
                clear hB
                go_wp2_with (go_at_call 64; refine hcl.mono ?_; rintro e w3 ⟨rfl, hb3⟩)
                exact ⟨⟨i + 1, rfl, hlt, belT hbw hb3, hst⟩, by simp only [intOf]; omega⟩
              | false =>
                rw [hB] at hcl hst
                simp only [Bool.false_eq_true, if_false, Prod.mk.injEq] at hst
                obtain ⟨rfl, rfl⟩ := hst
                clear hB
                go_wp2_with (go_at_call 64; refine hcl.mono ?_; rintro e w3 ⟨rfl, hb3⟩)
                refine bodyPost_ret (v := .tuple #[.int .i64 66, .int .i64 (i : Int)]) (by simp [results, Tryz.results27, go_sem]) rfl ?_
                exact ⟨rfl, belT hb0 (belT hbw hb3)⟩
            · have hlt' : ¬ (i : Int) < (l.cls.length : Int) := by omega
              obtain rfl : i = l.cls.length := by omega
              replace hst := hst.out
              rw [cl_end] at hst
              simp only [Prod.mk.injEq] at hst
              obtain ⟨rfl, rfl⟩ := hst
              go_wp2
              refine bodyPost_ret (v := .tuple #[.int .i64 0, .int .i64 0]) (by simp [results, Tryz.results27, go_sem]) rfl ?_
              exact ⟨rfl, belT hb0 hbw⟩

      | false =>
        rw [hin] at y1 hXe hBx
        by_cases hn1 : l.cls.length < 1
        · have g9 : (l.cls.length : Int) < 1 := by omega
          rw [if_pos (by unfold lnB; simp [hin]; intro e; omega), Prod.mk.injEq] at hR
          obtain ⟨rfl, rfl⟩ := hR
          clear hin
          go_enter Tryz.func27, Tryz.ntmps27
          go_wp2_with (first | (go_at_call 26; refine hlk.mono ?_; rintro e w1 ⟨rfl, hw⟩; subst w1) | (go_at_call 63; refine hgr.mono ?_; rintro e w2 ⟨rfl, hb2⟩; obtain ⟨x0, x1, x2, x3, x4, x5, x6, y0, y1, y2, y3, y4, y5, y6⟩ := hBx.out _ hb2))
          refine bodyPost_ret (v := .tuple #[.int .i64 65, .int .i64 (-1)]) (by simp [results, Tryz.results27, go_sem]) rfl ?_
          exact ⟨rfl, belT hb0 hb2⟩
        by_cases hn6 : 6 < l.cls.length
        · have g8 : ¬ (l.cls.length : Int) < 1 := by omega
          have g9 : (6 : Int) < (l.cls.length : Int) := by omega
          rw [if_pos (by unfold lnB; simp [hin]; omega), Prod.mk.injEq] at hR
          obtain ⟨rfl, rfl⟩ := hR
          clear hin
          go_enter Tryz.func27, Tryz.ntmps27
          go_wp2_with (first | (go_at_call 26; refine hlk.mono ?_; rintro e w1 ⟨rfl, hw⟩; subst w1) | (go_at_call 63; refine hgr.mono ?_; rintro e w2 ⟨rfl, hb2⟩; obtain ⟨x0, x1, x2, x3, x4, x5, x6, y0, y1, y2, y3, y4, y5, y6⟩ := hBx.out _ hb2))
          refine bodyPost_ret (v := .tuple #[.int .i64 65, .int .i64 (-1)]) (by simp [results, Tryz.results27, go_sem]) rfl ?_
          exact ⟨rfl, belT hb0 hb2⟩
        · have g8 : ¬ (l.cls.length : Int) < 1 := by omega
          have g9 : ¬ (6 : Int) < (l.cls.length : Int) := by omega
          rw [if_neg (by unfold lnB; simp [hin]; omega)] at hR
          have hinH := Hid.mk hin
          clear hin
          have hF0 : Hid ((match clF l.cls (l.cls.drop 0) 0 with | some k => ((66 : Nat), (k : Int)) | none => (0, 0)) = (r1, r2)) := ⟨hR⟩
          clear hR
          go_enter Tryz.func27, Tryz.ntmps27
          go_wp2_with (first | (go_at_call 26; refine hlk.mono ?_; rintro e w1 ⟨rfl, hw⟩; subst w1) | (go_at_call 63; refine hgr.mono ?_; rintro e w2 ⟨rfl, hb2⟩; obtain ⟨x0, x1, x2, x3, x4, x5, x6, y0, y1, y2, y3, y4, y5, y6⟩ := hBx.out _ hb2))
          clear hgr hlk
          have hbX2 := hb2
          go_loopw [12] (fun iv wr => ∃ i : Nat, iv = .int .i64 (i : Int) ∧ i ≤ l.cls.length ∧ Below X.heap.size X wr ∧ Hid ((match clF l.cls (l.cls.drop i) i with | some k => ((66 : Nat), (k : Int)) | none => (0, 0)) = (r1, r2))) (fun iv _ => l.cls.length - (intOf iv).toNat)
          case atStart => exact ⟨0, rfl, Nat.zero_le _, hbX2, hF0⟩
          case round =>
            clear hF0 x0 x1 x2 x3 x4 x5 x6 y0 y1 y2 y3 y4 y5 y6 hb2 hbX2
            obtain ⟨i, rfl, hi, hbw, hst⟩ := hrel
            obtain ⟨x0, x1, x2, x3, x4, x5, x6, y0, y1, y2, y3, y4, y5, y6⟩ := hBx.out _ hbw
            by_cases hlt : i < l.cls.length
            · have hlt' : (i : Int) < (l.cls.length : Int) := by omega
              have hi0 : (0 : Int) ≤ (i : Int) := by omega
              replace hst := hst.out
              rw [cl_step l.cls hlt] at hst
              have hcl := clause_any l a c i hlt (by omega) _ (hRX.out _ hbw)
              rw [hinH.out] at hcl
              cases hB : clB l.cls i l.cls[i] with
              | true =>
                rw [hB] at hcl hst
                simp only [if_true] at hst
                replace hst := Hid.mk hst
                clear hB
                go_wp2_with (go_at_call 64; refine hcl.mono ?_; rintro e w3 ⟨rfl, hb3⟩)
                exact ⟨⟨i + 1, rfl, hlt, belT hbw hb3, hst⟩, by simp only [intOf]; omega⟩
              | false =>
                rw [hB] at hcl hst
                simp only [Bool.false_eq_true, if_false, Prod.mk.injEq] at hst
                obtain ⟨rfl, rfl⟩ := hst
                clear hB
                go_wp2_with (go_at_call 64; refine hcl.mono ?_; rintro e w3 ⟨rfl, hb3⟩)
                refine bodyPost_ret (v := .tuple #[.int .i64 66, .int .i64 (i : Int)]) (by simp [results, Tryz.results27, go_sem]) rfl ?_
                exact ⟨rfl, belT hb0 (belT hbw hb3)⟩
            · have hlt' : ¬ (i : Int) < (l.cls.length : Int) := by omega
              obtain rfl : i = l.cls.length := by omega
              replace hst := hst.out
              rw [cl_end] at hst
              simp only [Prod.mk.injEq] at hst
              obtain ⟨rfl, rfl⟩ := hst
              go_wp2
              refine bodyPost_ret (v := .tuple #[.int .i64 0, .int .i64 0]) (by simp [results, Tryz.results27, go_sem]) rfl ?_
              exact ⟨rfl, belT hb0 hbw⟩



end Go.Proofs.YtmklkcefbabhbaaGreat.R6
