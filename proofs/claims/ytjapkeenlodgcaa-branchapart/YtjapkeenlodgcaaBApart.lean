import Derived.Test.YtjapkeenlodgcaaBLook2
namespace Go.Proofs.Ytjapkeenlodgcaa
open Go.RowKit

theorem EntB.nil (W : World) : EntB W (.slice none 0 0) [] := ⟨⟨none, 0, rfl, .inl rfl⟩, by simp, by simp⟩
theorem vwOf_same {c b : Br} (h : Sm c b) (k : Nat) : vwOf c.Ls c.p c.bs k = vwOf b.Ls b.p b.bs k := by
  obtain ⟨-, h1, h2, h3⟩ := h
  rw [h1, h2, h3]

theorem toL_pos {s : ByteArray} (h : 0 < s.size) : (s.toList == []) = false := by
  rw [beq_eq_false_iff_ne, Lib.toList_data]
  intro e
  have : s.size = s.data.toList.length := by rw [Array.length_toList]; rfl
  rw [e, List.length_nil] at this
  omega
theorem BookAt.curPos {w : World} {lo bb : Nat} {Bs : List Br} {cur : ByteArray} (h : BookAt w lo bb Bs cur) (hN : NE Bs) : 0 < cur.size := by
  obtain ⟨c, hc, rfl⟩ := h.here
  exact hN c hc

set_option maxRecDepth 8000 in
set_option maxHeartbeats 8000000 in
theorem bapart_walk (va : Value) (L : Es) (vl : Value) (Os : List OpR) (name : ByteArray) (vt : Value) (Ts : List OpR) (w : World) (ha : EntB w va L) (hl : OpsB w vl Os) (hnm : name.data.toList.length ≤ reachBytes) (ht : OpsB w vt Ts) : Calls Try.prog 3 #[va, vl, .string name, vt] w fun e w' => e = .returned (.bool true) ∧ Below w.heap.size w w' := by
  have hns : name.size ≤ 140737488355328 := by
    have : name.size = name.data.toList.length := by rw [Array.length_toList]; rfl
    unfold reachBytes at hnm
    omega
  have hG := grown_any va vl L Os w ha hl
  have hLd := fun W hW => laid_any va vl L Os W (ha.later hW) (hl.later hW)
  have hLd2 := fun W hW => laid_any (.slice none 0 0) vt [] Ts W (EntB.nil W) (ht.later hW)
  obtain ⟨aa, ac, ea⟩ := ha.1.len
  rw [ea] at hG hLd ⊢
  obtain ⟨la, lc, el, -⟩ := hl
  rw [el] at hG hLd ⊢
  obtain ⟨ta, tc, et, htl, hT⟩ := ht
  rw [et] at hLd2 ⊢
  clear ea el et ha
  go_enter Try.func3, Try.ntmps3
  go_wp2_with (go_at_call 5; fail)
  refine hG.mono ?_
  clear hG
  rintro e w1 ⟨bb, Bs, cur, rfl, hB1, hN1, hb1⟩
  go_wp2_with (go_at_call 6; fail)
  refine (known_any w1).mono ?_
  rintro e w2 ⟨rfl, hb2⟩
  have hB2 := hB1.later hb2
  have hW2 := below_step hb1 hb2
  clear hB1
  go_wp2_with (go_at_call 7; fail)
  refine (hLd w2 hW2).mono ?_
  clear hLd
  rintro e w3 ⟨⟨n3, rfl, hn3⟩, hb3⟩
  have hB3 := hB2.later hb3
  have hW3 := below_step hW2 hb3
  clear hB2
  go_wp2_with (go_at_call 7; fail)
  refine (hLd2 w3 hW3).mono ?_
  clear hLd2
  rintro e w4 ⟨⟨n4, rfl, hn4⟩, hb4⟩
  have hB4 := hB3.later hb4
  have hW4 := below_step hW3 hb4
  clear hB3
  go_wp2_with (go_at_call 8; fail)
  by_cases hin : ∃ b ∈ Bs, b.nm = name
  · obtain ⟨b, hb, rfl⟩ := hin
    refine (blook_any w.heap.size bb Bs cur b hb hns _ w4 hB4).mono ?_
    rintro e w5 ⟨xa, xb, xs, rfl, hV5, hVo, hb5⟩
    have hB5 := hB4.later hb5
    have hW5 := below_step hW4 hb5
    clear hB4
    obtain ⟨V, hVe⟩ : ∃ V, Hid (vwOf b.Ls b.p b.bs (cnt (wrap64 (n3 + n4))) = V) := ⟨_, rfl⟩
    rw [hVe.out] at hV5 hVo ⊢
    obtain ⟨x1, x2, rfl⟩ := hV5.1.1.len
    obtain ⟨x3, x4, rfl⟩ := hV5.2.1.1.len
    obtain ⟨x5, x6, rfl⟩ := hV5.2.2.len
    unfold vwV
    go_wp2
    have hb6 : Below w5.heap.size w5 (w5.alloc (.cells #[.bool true, .slice x1 V.now.length x2, .slice x3 V.base.length x4, .int .i64 (V.undo : Int), .int .i64 (V.redo : Int), .slice x5 V.steps.length x6] 30)) := (Below.refl _ _).alloc (Nat.le_refl _) _
    have hx6 := heap_alloc_last w5 (.cells #[.bool true, .slice x1 V.now.length x2, .slice x3 V.base.length x4, .int .i64 (V.undo : Int), .int .i64 (V.redo : Int), .slice x5 V.steps.length x6] 30)
    generalize w5.alloc (.cells #[.bool true, .slice x1 V.now.length x2, .slice x3 V.base.length x4, .int .i64 (V.undo : Int), .int .i64 (V.redo : Int), .slice x5 V.steps.length x6] 30) = w6 at *
    have hB6 := hB5.later hb6
    have hW6 := below_step hW5 hb6
    have hV6 := hV5.later hb6
    have hBXw : w.heap.size ≤ w5.heap.size := hW5.size
    clear hB5 hV5
    generalize w5.heap.size = BX at *
    go_loopw [14, 15] (fun tv iv W => ∃ (j : Nat) (tb : Bool) (Bs : List Br) (cur : ByteArray) (c : Br), j ≤ Ts.length ∧ iv = .int .i64 j ∧ tv = .bool tb ∧ BookAt W w.heap.size bb Bs cur ∧ NE Bs ∧ c ∈ Bs ∧ Sm c b ∧ W.heap[BX]? = some (.cells #[.bool true, .slice x1 V.now.length x2, .slice x3 V.base.length x4, .int .i64 (V.undo : Int), .int .i64 (V.redo : Int), .slice x5 V.steps.length x6] 30 (0, 0)) ∧ VwAt W (.slice x1 V.now.length x2) (.slice x3 V.base.length x4) (.slice x5 V.steps.length x6) V ∧ Below w.heap.size w W) (fun _ iv _ => Ts.length - (intOf iv).toNat)
    case atStart => exact ⟨0, false, Bs, cur, b, by omega, rfl, rfl, hB6, hN1, hb, ⟨rfl, rfl, rfl, rfl⟩, hx6, hV6, hW6⟩
    case round =>
      obtain ⟨j, tb, Bs1, cur1, c, hj, rfl, rfl, hBk, hNE, hc, hS, hbx, hVv, hB⟩ := hrel
      clear hB6 hN1 hb hx6 hV6 hW6
      by_cases hlt : j < Ts.length
      · have hlt' : (j : Int) < Ts.length := by omega
        have hj0 : (0 : Int) ≤ (j : Int) := by omega
        rcases hT with h0 | ⟨g, off, rfl, hg, hcc⟩
        · rw [h0] at hlt; simp at hlt
        obtain ⟨⟨c0, c1, c2, c3, c4⟩, hI⟩ := hcc j hlt
        obtain ⟨o, ho⟩ : ∃ o, o = Ts[j] := ⟨_, rfl⟩
        rw [← ho] at c0 c1 c2 c3 c4 hI
        clear ho hcc
        obtain ⟨a3, cap3, e3⟩ := hI.1.1.len
        rw [e3] at c4
        replace c0 := (hB.cell (p := ⟨g, _, none⟩) hg).trans c0
        replace c1 := (hB.cell (p := ⟨g, _, none⟩) hg).trans c1
        replace c2 := (hB.cell (p := ⟨g, _, none⟩) hg).trans c2
        replace c3 := (hB.cell (p := ⟨g, _, none⟩) hg).trans c3
        replace c4 := (hB.cell (p := ⟨g, _, none⟩) hg).trans c4
        replace hI := hI.later hB
        go_wp2_with (go_at_call 10; fail)
        have hb0 : Below wr.heap.size wr (wr.alloc (.cells #[.int .i64 o.kind, .int .i64 o.b, .int .i64 o.n, .string o.name, .slice a3 o.In.length cap3] 36)) := (Below.refl _ _).alloc (Nat.le_refl _) _
        have ho0 := heap_alloc_last wr (.cells #[.int .i64 o.kind, .int .i64 o.b, .int .i64 o.n, .string o.name, .slice a3 o.In.length cap3] 36)
        generalize wr.alloc (.cells #[.int .i64 o.kind, .int .i64 o.b, .int .i64 o.n, .string o.name, .slice a3 o.In.length cap3] 36) = u0 at *
        have hBk0 := hBk.later hb0
        have hbx0 := (hb0.block BX (Array.getElem?_eq_some_iff.1 hbx).1).trans hbx
        have hVv0 := hVv.later hb0
        have hB0 := below_step hB hb0
        have hI0 := hI.later hb0
        have k0 := cell_of_row _ _ 0 _ _ _ ho0
        have k1 := cell_of_row _ _ 1 _ _ _ ho0
        have k2 := cell_of_row _ _ 2 _ _ _ ho0
        have k3 := cell_of_row _ _ 3 _ _ _ ho0
        have k4 := cell_of_row _ _ 4 _ _ _ ho0
        simp at k0 k1 k2 k3 k4
        refine (current_any w.heap.size bb Bs1 cur1 u0 hBk0).mono ?_
        rintro e u1 ⟨rfl, rfl⟩
        clear hBk hbx hVv hI c0 c1 c2 c3 c4 hb0 ho0
        by_cases hskip : cur1 = b.nm ∧ Tch o.kind
        · obtain ⟨rfl, hk⟩ := hskip
          have hrel9 : Hid (BookAt u1 w.heap.size bb Bs1 b.nm) := hBk0
          clear hBk0 hI0 k1 k2 k3 k4
          generalize o.kind = k at *
          rcases hk with rfl | rfl | rfl | rfl | rfl
          all_goals
            go_wp2
            go_roundw
            case rel => exact ⟨j + 1, true, Bs1, b.nm, c, by omega, by go_num, rfl, hrel9.out, hNE, hc, hS, hbx0, hVv0, hB0⟩
            case measure => simp [intOf]; omega
        · have hdo := do_any w.heap.size bb b.nm Bs1 cur1 o u1 hB0.size hI0 hBk0
          rw [opV, e3] at hdo
          have hkeep : Tch o.kind → c.nm ≠ cur1 := fun h e => hskip ⟨by rw [← e, hS.1], h⟩
          have hHk : Hid (Tch o.kind → c.nm ≠ cur1) := hkeep
          have hcase : (cur1.toList == b.nm.toList) = false ∨ ((cur1.toList == b.nm.toList) = true ∧ (o.kind == 9) = false ∧ (o.kind == 10) = false ∧ (o.kind == 11) = false ∧ (o.kind == 12) = false ∧ (o.kind == 17) = false) := by
            by_cases hcn : cur1 = b.nm
            · refine .inr ⟨by rw [hcn]; simp, ?_⟩
              have hnt : ¬ Tch o.kind := fun h => hskip ⟨hcn, h⟩
              unfold Tch at hnt
              simp only [beq_eq_false_iff_ne]
              exact ⟨fun e => hnt (.inl e), fun e => hnt (.inr (.inl e)), fun e => hnt (.inr (.inr (.inl e))), fun e => hnt (.inr (.inr (.inr (.inl e)))), fun e => hnt (.inr (.inr (.inr (.inr e))))⟩
            · exact .inl (toL_ne hcn)
          clear hskip hkeep hI0 e3
          rcases hcase with hcs | ⟨hcs, n9, n10, n11, n12, n17⟩
          all_goals
            go_wp2_with (go_at_call 11; fail)
            refine hdo.mono ?_
            rintro e u2 ⟨rfl, Bs2, cur2, hB2, hM2, hK2, hN2⟩
            obtain ⟨c2, hc2, hS2⟩ := hK2 c hc hS.1 hHk.out
            have hSm : Sm c2 b := ⟨hS2.1.trans hS.1, hS2.2.1.trans hS.2.1, hS2.2.2.1.trans hS.2.2.1, hS2.2.2.2.trans hS.2.2.2⟩
            have hbx2 := hM2.row hbx0 (by decide) (by decide)
            have hVv2 := hVv0.mv hM2
            have hW2 := hM2.below hB0 (Nat.le_refl _)
            have hNE2 := hN2 hNE
            clear hBk0 hdo hK2 hN2 hM2 hbx0 hVv0
            go_wp2_with (go_at_call 8; fail)
            have hLk := blook_any w.heap.size bb Bs2 cur2 c2 hc2 (by rw [hSm.1]; exact hns) (wrap64 (n3 + n4)) u2 hB2
            rw [hSm.1] at hLk
            refine hLk.mono ?_
            clear hLk
            rintro e u3 ⟨za, zb, zs, rfl, hV3, -, hb3⟩
            rw [vwOf_same hSm, hVe.out] at hV3 ⊢
            have hB3' := hB2.later hb3
            have hbx3 := (hb3.block BX (Array.getElem?_eq_some_iff.1 hbx2).1).trans hbx2
            have hVv3 := hVv2.later hb3
            have hW3' := below_step hW2 hb3
            clear hB2 hVv2 hbx2
            obtain ⟨y1, y2, rfl⟩ := hV3.1.1.len
            obtain ⟨y3, y4, rfl⟩ := hV3.2.1.1.len
            obtain ⟨y5, y6, rfl⟩ := hV3.2.2.len
            have hb4 : Below u3.heap.size u3 (u3.alloc (.cells #[.bool true, .slice y1 V.now.length y2, .slice y3 V.base.length y4, .int .i64 (V.undo : Int), .int .i64 (V.redo : Int), .slice y5 V.steps.length y6] 30)) := (Below.refl _ _).alloc (Nat.le_refl _) _
            have hbx4 := (hb4.block BX (Array.getElem?_eq_some_iff.1 hbx3).1).trans hbx3
            have p0 := cell_of_row _ _ 0 _ _ _ hbx4
            have p1 := cell_of_row _ _ 1 _ _ _ hbx4
            have p2 := cell_of_row _ _ 2 _ _ _ hbx4
            have p3 := cell_of_row _ _ 3 _ _ _ hbx4
            have p4 := cell_of_row _ _ 4 _ _ _ hbx4
            have p5 := cell_of_row _ _ 5 _ _ _ hbx4
            simp at p0 p1 p2 p3 p4 p5
            have hsv := sameView_any _ _ _ _ _ _ V hVo _ (hVv3.later hb4) (hV3.later hb4)
            unfold vwV at hsv ⊢
            go_wp2_with (go_at_call 12; fail)
            refine hsv.mono ?_
            rintro e u5 ⟨rfl, hb5'⟩
            have hb35 := below_step hb4 hb5'
            have hB5' := hB3'.later hb35
            have hbx5 := (hb35.block BX (Array.getElem?_eq_some_iff.1 hbx3).1).trans hbx3
            have hVv5 := hVv3.later hb35
            have hW5' := below_step hW3' hb35
            clear hB3' hbx3 hVv3 hV3 hsv p0 p1 p2 p3 p4 p5 hbx4
            go_wp2
            go_roundw
            case rel => exact ⟨j + 1, tb, Bs2, cur2, c2, by omega, by go_num, rfl, hB5', hNE2, hc2, hSm, hbx5, hVv5, hW5'⟩
            case measure => simp [intOf]; omega
      · have hlt' : ¬ (j : Int) < Ts.length := by omega
        have hcp := toL_pos (hBk.curPos hNE)
        cases tb with
        | false =>
          clear hBk hbx hVv
          go_wp2
          go_ret
          exact ⟨rfl, hB⟩
        | true =>
          go_wp2_with (go_at_call 10; fail)
          refine (current_any w.heap.size bb Bs1 cur1 wr hBk).mono ?_
          rintro e u1 ⟨rfl, rfl⟩
          clear hBk hbx hVv
          go_wp2
          go_ret
          exact ⟨rfl, hB⟩
  · have hno : ∀ b ∈ Bs, b.nm ≠ name := fun b hb e => hin ⟨b, hb, e⟩
    clear hin
    refine (blook_none w.heap.size bb Bs cur name (le_max hns) hno _ w4 hB4).mono ?_
    rintro e w5 ⟨rfl, hb5⟩
    have hB5 := hB4.later hb5
    have hW5 := below_step hW4 hb5
    clear hB4
    go_wp2_with (go_at_call 9; fail)
    have hb6 : Below w5.heap.size w5 (w5.alloc (.cells #[.bool false, .slice none 0 0, .slice none 0 0, .int .i64 0, .int .i64 0, .slice none 0 0] 30)) := (Below.refl _ _).alloc (Nat.le_refl _) _
    refine (of_none w.heap.size bb Bs cur name (le_max hns) hno _ (hB5.later hb6)).mono ?_
    rintro e w6 ⟨rfl, rfl⟩
    have hW6 := below_step hW5 hb6
    clear hB5
    go_wp2
    go_ret
    exact ⟨rfl, hW6⟩

end Go.Proofs.Ytjapkeenlodgcaa
