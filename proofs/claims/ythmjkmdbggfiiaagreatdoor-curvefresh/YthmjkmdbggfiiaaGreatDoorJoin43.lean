import Derived.Test.YthmjkmdbggfiiaaGreatDoorJoin42
import Derived.Test.YthmjkmdbggfiiaaGreatDoorJoin37
import Derived.Test.YthmjkmdbggfiiaaGreatDoorJoin35
import Derived.Test.YthmjkmdbggfiiaaGreatDoorJoin36
/- CurveFresh: tell. -/
namespace Go.Proofs.YthmjkmdbggfiiaaGreatDoor.CF
open Go.RowKit
attribute [local go_sem] run_store_float

theorem line_far (x : Int) (h : 0 ≤ x ∧ x ≤ 100000) (v : Int) (hv : x / 2 = v) (w : World) : Calls Tryz.prog 13 #[.int .i64 x] w fun e w' => e = .returned (.agg #[.int .i64 1, .int .i64 v]) ∧ Below w.heap.size w w' := by
  have hq : x.tdiv 2 = v := by rw [Int.tdiv_eq_ediv_of_nonneg h.1, hv]
  have hvb : 0 ≤ v ∧ v ≤ 100000 := by omega
  have hB : Below w.heap.size w (w.alloc (.cells #[.int .i64 1, .int .i64 v] 87)) := (Below.refl _ _).alloc (Nat.le_refl _) _
  clear hv
  go_enter Tryz.func13, Tryz.ntmps13
  go_wp2
  exact bodyPost_ret (v := .agg #[.int .i64 1, .int .i64 v]) (by simp [results, Tryz.results13, go_sem]) rfl ⟨rfl, hB⟩
def gL (k : Nat) : Int := if k < 64 then (k : Int) * 100 else 0
theorem gL_b (k : Nat) : -9223372036854775808 ≤ gL k ∧ gL k ≤ 9223372036854775807 := by unfold gL; split <;> omega
theorem gL_s (k : Nat) : (gL k).natAbs < 16777216 := by unfold gL; split <;> omega
/-- Sample of the line. -/
theorem samp_any (n : Nat) (h1 : 1 ≤ n) (h2 : n ≤ 21) (w : World) : Calls Tryz.prog 12 #[.func (.func 13) #[] #[], .int .i64 0, .int .i64 200, .int .i64 (n : Int)] w fun e w' => ∃ pv, e = .returned (.tuple #[pv, .int .i64 0]) ∧ w'.ownsRow w.heap.size 64 2 pv n (ptV (ptsW 0 200 gL n)) ∧ Below w.heap.size w w' := by
  refine samp_line 0 200 n h1 (by omega) ?_ gL gL_b w (fun k hk X _ => ?_)
  · have key : ∀ k, k < 21 → okS 0 200 (((k + 1 : Nat) : Int) - 1) = true := by decide
    have := key (n - 1) (by omega)
    rwa [show n - 1 + 1 = n by omega] at this
  · refine line_far (0 + (k : Int) * 200) (by omega) _ ?_ X
    unfold gL
    rw [if_pos (by omega)]
    omega
/-- What is told of points with whole heights. -/
def tolC (D : Dots) (T : List Value) : Tol := ⟨(smoothD D 3).length, ptV (smoothD D 3), (slopeD D).length, ptV (slopeD D), (rateN D D.length).length, ptV (rateN D D.length), 2 + D.length % 20, ptV (ptsW 0 200 gL (2 + D.length % 20)), (jumpsN D 1065353216 (D.length - 1)).length, (jumpsN D 1065353216 (D.length - 1)).map (Value.int .i64), T.length, T⟩
theorem tolC_ok {D : Dots} (hD : Ok D) (hO : inO D = true) (hl : D.length ≤ 64) {en : Int} {T : List Value} (hR : DrR D 9 5 en T) : TolOk (tolC D T) := by
  have hT : T.length ≤ 64 ∧ KB.goodTexts T.length T := by
    rcases hR with ⟨h1, -, rfl⟩ | ⟨h1, h2, -, rfl⟩ | ⟨h1, h2, h3, -, rfl⟩ | ⟨w0, n, ⟨e1, e2, hw, hn1, hn⟩, h2, h3, -, rfl⟩
    · exact ⟨by decide, KB.goodTexts_of []⟩
    · exact ⟨by decide, KB.goodTexts_of []⟩
    · exact ⟨by decide, KB.goodTexts_of []⟩
    · rw [textsL_len]
      refine ⟨by omega, fun u hu => ?_, fun j hj => ⟨lineB D n w0 (n - j), ?_⟩⟩
      · unfold textsL at hu
        obtain ⟨i, -, rfl⟩ := List.mem_map.1 hu
        rfl
      · unfold textsL
        simp [hj]
  have h1 : okW 3 = true := by decide
  have e1 : smoothD D 3 = smoothN D ((3 - 1) / 2 : Int).toNat D.length := if_pos ⟨h1, hO⟩
  have e2 : slopeD D = slopeN D (D.length - 1) := if_pos hO
  refine ⟨?_, ?_, gp_of (rate_nn hD _), ?_, KB.goodInts_of _, hT.2, ?_, ?_, ?_, ?_, ?_, hT.1⟩
  · show GP (smoothD D 3).length (ptV (smoothD D 3))
    rw [e1]
    exact gp_of (smooth_nn hD hO (by omega) _ _ (Nat.le_refl _))
  · show GP (slopeD D).length (ptV (slopeD D))
    rw [e2]
    exact gp_of (slope_nn hD hO _ (by omega))
  · have := gp_of (pts_nn 0 200 gL gL_s (2 + D.length % 20))
    rwa [ptsW_len] at this
  · show (smoothD D 3).length ≤ 64
    rw [e1, smoothN_len]
    exact hl
  · show (slopeD D).length ≤ 64
    rw [e2, slopeN_len]
    omega
  · have := rateN_len D D.length
    show (rateN D D.length).length ≤ 64
    omega
  · show 2 + D.length % 20 ≤ 64
    omega
  · have := jumpsN_len D 1065353216 (D.length - 1)
    show (jumpsN D 1065353216 (D.length - 1)).length ≤ 64
    omega
/-- The struct that is being filled. -/
structure Tst (w W : World) (c0 c1 c2 c3 c4 c5 : Value) (l : List KB.Row) : Prop where
  b : Below w.heap.size w W
  z : W.heap[w.heap.size]? = some (.cells #[.slice none 0 0, .slice none 0 0, .slice none 0 0, .slice none 0 0, .slice none 0 0, .slice none 0 0] 57 (0, 0))
  t : W.heap[w.heap.size + 1]? = some (.cells #[c0, c1, c2, c3, c4, c5] 57 (0, 0))
  r : KB.Rows (w.heap.size + 2) W l
theorem Tst.lo {w W : World} {c0 c1 c2 c3 c4 c5 : Value} {l : List KB.Row} (h : Tst w W c0 c1 c2 c3 c4 c5 l) : w.heap.size + 2 ≤ W.heap.size := (Array.getElem?_eq_some_iff.1 h.t).1
theorem Tst.step {w W X : World} {c0 c1 c2 c3 c4 c5 d0 d1 d2 d3 d4 d5 : Value} {l : List KB.Row} (h : Tst w W c0 c1 c2 c3 c4 c5 l) (hX : Below W.heap.size W X) {e : TypeId} {z n : Nat} {v : Value} {L : List Value} (hz : 0 < z) (hv : X.ownsRow W.heap.size e z v n L) (k : Nat) (hd : (#[c0, c1, c2, c3, c4, c5] : Array Value).setIfInBounds k v = #[d0, d1, d2, d3, d4, d5]) :
    Tst w (X.setCell ⟨w.heap.size + 1, k, none⟩ v) d0 d1 d2 d3 d4 d5 (l ++ [⟨e, z, v, n, L⟩]) ∧ (∀ u, (#[c0, c1, c2, c3, c4, c5] : Array Value)[k]? = some u → X.cell? ⟨w.heap.size + 1, k, none⟩ = some u) ∧ X.frozen? ⟨w.heap.size + 1, k, none⟩ = false := by
  have hlo := h.lo
  have ht := (hX.block _ (by omega : w.heap.size + 1 < W.heap.size)).trans h.t
  have hz' := (hX.block _ (by omega : w.heap.size < W.heap.size)).trans h.z
  refine ⟨⟨(h.b.trans (hX.mono h.b.size)).trans ((KB.grS_set X _ _ _).below (Nat.le_trans h.b.size hX.size) (fun b e => by omega)), ?_, ?_, (h.r.snoc hlo hX hz hv).set _ (by omega)⟩, fun u hu => (cell_of_row _ _ k _ _ _ ht).trans hu, frozen_of_row _ _ k _ _ ht⟩
  · exact (heap_setCell_other X ⟨w.heap.size + 1, k, none⟩ w.heap.size v (by show w.heap.size ≠ w.heap.size + 1; omega)).trans hz'
  · rw [heap_setCell_same _ _ k _ _ _ ht, hd]

set_option maxRecDepth 8000 in
set_option maxHeartbeats 4000000 in
theorem tell_any {D : Dots} (hD : Ok D) (hl : D.length ≤ 64) {en : Int} {T : List Value} (hR : DrR D 9 5 en T) (a : Option Addr) (cp : Nat) (hcl : D.length ≤ cp) (w : World) (hp : PtAt w a D) : Calls Tryz.prog 6 #[.slice a D.length cp] w (TolP (tolC D T) w) := by
  have cS := KB.Hid.mk (fun X hX => smoothO_any D hD (by omega) 3 a cp hcl X hX)
  have cL := KB.Hid.mk (fun X hX => slopeO_any D hD (by omega) a cp X hX)
  have cR := KB.Hid.mk (fun X hX => rateO_any D hD (by omega) a cp X hX)
  have cJ := KB.Hid.mk (fun X hX => jumpsO_any D hD (by omega) 1065353216 (by decide) a cp X hX)
  have cD := KB.Hid.mk (fun X hX => draw_any D hD (by omega) 9 5 en T hR a cp X hX)
  have cM := KB.Hid.mk (fun X => samp_any (2 + D.length % 20) (by omega) (by omega) X)
  have hmod : ((D.length : Nat) : Int).tmod 20 = ((D.length % 20 : Nat) : Int) := by rw [Int.tmod_eq_emod_of_nonneg (by omega)]; rfl
  have hn2 : KB.Hid ((2 : Int) + ((D.length % 20 : Nat) : Int) = ((2 + D.length % 20 : Nat) : Int)) := ⟨by omega⟩
  have hm20 : D.length % 20 ≤ 19 := by omega
  have hPw := KB.Hid.mk (fun X (hX : Below w.heap.size w X) => hp.later hX)
  have hfin : KB.Hid (∀ a b d f j t W, Tst w W a b d f j t (tolRows (tolC D T) a b d f j t) → KB.Rows w.heap.size (put6 W w.heap.size a b d f j t) (tolRows (tolC D T) a b d f j t) ∧ Below w.heap.size w (put6 W w.heap.size a b d f j t)) := ⟨fun a b d f j t W h => by
    have hG := put6_grS W w.heap.size a b d f j t
    exact ⟨(h.r.grS hG (fun g hg e => by omega)).low (by omega), h.b.trans (hG.below h.b.size (fun k e => by omega))⟩⟩
  simp only [tolC, tolRows] at hfin
  unfold TolP
  simp only [tolC, tolRows]
  generalize smoothD D 3 = S3 at *
  generalize smoothE D 3 = S3e at *
  generalize slopeD D = SL at *
  generalize slopeE D = SLe at *
  generalize rateN D D.length = RN at *
  generalize jumpsN D 1065353216 (D.length - 1) = JN at *
  generalize D.length % 20 = q at *
  generalize ptsW 0 200 gL (2 + q) = PN at *
  clear hp hD hR
  obtain ⟨W1, hW1⟩ : ∃ W1, w.alloc (.cells #[.slice none 0 0, .slice none 0 0, .slice none 0 0, .slice none 0 0, .slice none 0 0, .slice none 0 0] 57) = W1 := ⟨_, rfl⟩
  obtain ⟨W2, hW2⟩ : ∃ W2, W1.alloc (.cells #[.slice none 0 0, .slice none 0 0, .slice none 0 0, .slice none 0 0, .slice none 0 0, .slice none 0 0] 57) = W2 := ⟨_, rfl⟩
  have hB1 : Below w.heap.size w W1 := by rw [← hW1]; exact (Below.refl _ _).alloc (Nat.le_refl _) _
  have hs1 : W1.heap.size = w.heap.size + 1 := by rw [← hW1]; simp
  have hc2 : Below W1.heap.size W1 W2 := by rw [← hW2]; exact (Below.refl _ _).alloc (Nat.le_refl _) _
  have T0 : Tst w W2 (.slice none 0 0) (.slice none 0 0) (.slice none 0 0) (.slice none 0 0) (.slice none 0 0) (.slice none 0 0) [] := by
    refine ⟨hB1.trans (hc2.mono hB1.size), ?_, ?_, KB.Rows.nil⟩
    · rw [hc2.block _ (by omega), ← hW1]
      exact heap_alloc_new w _
    · rw [← hW2, ← hs1]
      exact heap_alloc_new W1 _
  replace hW1 := KB.Hid.mk hW1
  replace hW2 := KB.Hid.mk hW2
  clear hB1 hs1 hc2
  go_enter Tryz.func6, Tryz.ntmps6
  go_upto_region 2 with fail
  rw [hW1.out, hW2.out]
  have cc := cS.out _ (hPw.out _ T0.b)
  replace T0 := KB.Hid.mk T0
  go_wp2_with (go_at_call 17; fail)
  refine cc.mono ?_
  clear cc cS
  rintro _ X1 ⟨v1, rfl, o1, b1⟩
  obtain ⟨p1, q1, rfl⟩ := KB.own_sl o1
  obtain ⟨T1, y, yf⟩ := T0.out.step b1 (by decide) o1 0 rfl
  have y0 := y _ rfl
  clear y o1 b1 T0
  replace T1 := KB.Hid.mk T1
  go_upto_region 3 with fail
  clear y0 yf
  generalize X1.setCell ⟨w.heap.size + 1, 0, none⟩ (.slice p1 S3.length q1) = Y1 at *
  have cc := cL.out _ (hPw.out _ T1.out.b)
  go_wp2_with (go_at_call 14; fail)
  refine cc.mono ?_
  clear cc cL
  rintro _ X2 ⟨v2, rfl, o2, b2⟩
  obtain ⟨p2, q2, rfl⟩ := KB.own_sl o2
  obtain ⟨T2, y, yf⟩ := T1.out.step b2 (by decide) o2 1 rfl
  have y0 := y _ rfl
  clear y o2 b2 T1
  replace T2 := KB.Hid.mk T2
  go_upto_region 4 with fail
  clear y0 yf
  generalize X2.setCell ⟨w.heap.size + 1, 1, none⟩ (.slice p2 SL.length q2) = Y2 at *
  have cc := cR.out _ (hPw.out _ T2.out.b)
  go_wp2_with (go_at_call 18; fail)
  refine cc.mono ?_
  clear cc cR
  rintro _ X3 ⟨v3, rfl, o3, b3⟩
  obtain ⟨p3, q3, rfl⟩ := KB.own_sl o3
  obtain ⟨T3, y, yf⟩ := T2.out.step b3 (by decide) o3 2 rfl
  have y0 := y _ rfl
  clear y o3 b3 T2
  replace T3 := KB.Hid.mk T3
  go_upto_region 5 with fail
  clear y0 yf
  generalize X3.setCell ⟨w.heap.size + 1, 2, none⟩ (.slice p3 RN.length q3) = Y3 at *
  have cc := cM.out Y3
  rw [← hn2.out] at cc
  go_wp2_with (go_at_call 12; fail)
  refine cc.mono ?_
  clear cc cM
  rintro _ X4 ⟨v4, rfl, o4, b4⟩
  obtain ⟨p4, q4, rfl⟩ := KB.own_sl o4
  obtain ⟨T4, y, yf⟩ := T3.out.step b4 (by decide) o4 3 rfl
  have y0 := y _ rfl
  clear y o4 b4 T3
  replace T4 := KB.Hid.mk T4
  go_upto_region 6 with fail
  clear y0 yf
  generalize X4.setCell ⟨w.heap.size + 1, 3, none⟩ (.slice p4 (2 + q) q4) = Y4 at *
  have cc := cJ.out _ (hPw.out _ T4.out.b)
  go_wp2_with (go_at_call 19; fail)
  refine cc.mono ?_
  clear cc cJ
  rintro _ X5 ⟨v5, rfl, o5, b5⟩
  obtain ⟨p5, q5, rfl⟩ := KB.own_sl o5
  obtain ⟨T5, y, yf⟩ := T4.out.step b5 (by decide) o5 4 rfl
  have y0 := y _ rfl
  clear y o5 b5 T4
  replace T5 := KB.Hid.mk T5
  go_upto_region 7 with fail
  clear y0 yf
  generalize X5.setCell ⟨w.heap.size + 1, 4, none⟩ (.slice p5 JN.length q5) = Y5 at *
  have cc := cD.out _ (hPw.out _ T5.out.b)
  go_wp2_with (go_at_call 16; fail)
  refine cc.mono ?_
  clear cc cD
  rintro _ X6 ⟨v6, rfl, o6, b6⟩
  obtain ⟨p6, q6, rfl⟩ := KB.own_sl o6
  obtain ⟨T6, y, yf⟩ := T5.out.step b6 (by decide) o6 5 rfl
  have y0 := y _ rfl
  clear y o6 b6 T5
  replace T6 := KB.Hid.mk T6
  go_upto_region 8 with fail
  clear y0 yf
  generalize X6.setCell ⟨w.heap.size + 1, 5, none⟩ (.slice p6 T.length q6) = Y6 at *
  have hz := T6.out.z
  have ht := T6.out.t
  have k0 := cell_of_row _ _ 0 _ _ _ ht
  have k1 := cell_of_row _ _ 1 _ _ _ ht
  have k2 := cell_of_row _ _ 2 _ _ _ ht
  have k3 := cell_of_row _ _ 3 _ _ _ ht
  have k4 := cell_of_row _ _ 4 _ _ _ ht
  have k5 := cell_of_row _ _ 5 _ _ _ ht
  have z0 := cell_of_row _ _ 0 _ _ _ hz
  have z1 := cell_of_row _ _ 1 _ _ _ hz
  have z2 := cell_of_row _ _ 2 _ _ _ hz
  have z3 := cell_of_row _ _ 3 _ _ _ hz
  have z4 := cell_of_row _ _ 4 _ _ _ hz
  have z5 := cell_of_row _ _ 5 _ _ _ hz
  have f0 := frozen_of_row _ _ 0 _ _ hz
  have f1 := frozen_of_row _ _ 1 _ _ hz
  have f2 := frozen_of_row _ _ 2 _ _ hz
  have f3 := frozen_of_row _ _ 3 _ _ hz
  have f4 := frozen_of_row _ _ 4 _ _ hz
  have f5 := frozen_of_row _ _ 5 _ _ hz
  replace hz := KB.Hid.mk hz
  clear ht
  go_wp2
  refine bodyPost_ret (v := .agg #[.slice p1 S3.length q1, .slice p2 SL.length q2, .slice p3 RN.length q3, .slice p4 (2 + q) q4, .slice p5 JN.length q5, .slice p6 T.length q6]) (results_cell_row Tryz.results6 _ _ w.heap.size 57 _ (0, 0) _ rfl (row_six hz.out _ _ _ _ _ _) Tryz.underlying57 rfl info_told) rfl ?_
  have hf := hfin.out _ _ _ _ _ _ Y6 T6.out
  exact ⟨_, _, _, _, _, _, rfl, hf.1, hf.2⟩
end Go.Proofs.YthmjkmdbggfiiaaGreatDoor.CF


/- CurveFresh: beside. -/
namespace Go.Proofs.YthmjkmdbggfiiaaGreatDoor.CF
open Go.RowKit KB
set_option linter.constructorNameAsVariable false
attribute [local go_sem] run_store_float

theorem rw_of_own {W : World} {lo n size : Nat} {e : TypeId} {g c : Nat} {xs : List Value} (h : W.ownsRow lo e size (.slice (some ⟨g, 0, none⟩) n c) n xs) : RwZ W (fun b => b = g) (.slice (some ⟨g, 0, none⟩) n c) n xs := (RwZ.of_own h).more (fun b e => by simpa [Value.ownBlock] using e.symm)
theorem own_blk {W : World} {lo n size : Nat} {e : TypeId} {v : Value} {xs : List Value} (h : W.ownsRow lo e size v n xs) (hn : 0 < n) : ∃ g c, v = .slice (some ⟨g, 0, none⟩) n c ∧ lo ≤ g ∧ g < W.heap.size := by
  have h0 := h
  obtain ⟨-, ⟨-, h1⟩ | ⟨g, cap, cur, rfl, hb, r, -⟩⟩ := h0
  · omega
  · exact ⟨g, cap, rfl, hb, (Array.getElem?_eq_some_iff.1 r).1⟩

set_option maxRecDepth 8000 in
set_option maxHeartbeats 4000000 in
theorem beside_any (w : World) : Calls Tryz.prog 7 #[] w fun e w' => e = .returned (.bool true) ∧ Below w.heap.size w w' := by
  have cM := Hid.mk (fun X => samp_any 4 (by decide) (by decide) X)
  have hgp := gp_of (pts_nn 0 200 gL gL_s 4)
  rw [ptsW_len] at hgp
  have hgP := Hid.mk hgp
  obtain ⟨iP, hP5, hP0, hP1, hP2⟩ := info_parts infoPoints
  have hL8 : (ptV (ptsW 0 200 gL 4)).length = 8 := by decide +kernel
  generalize ptV (ptsW 0 200 gL 4) = L at *
  replace hL8 := Hid.mk hL8
  clear hgp
  go_enter Tryz.func7, Tryz.ntmps7
  go_wp2_with (go_at_call 12; fail)
  refine (cM.out _).mono ?_
  rintro _ X1 ⟨vx, rfl, ox, b1⟩
  obtain ⟨gx, cx, rfl, lx, lx'⟩ := own_blk ox (by decide)
  go_wp2_with (go_at_call 12; fail)
  refine (cM.out _).mono ?_
  rintro _ X2 ⟨vy, rfl, oy, b2⟩
  obtain ⟨gy, cy, rfl, ly, ly'⟩ := own_blk oy (by decide)
  go_wp2_with (at_builtin; refine stopJ ?_)
  unfold StopJ
  refine wpList_copy _ rfl _ 24 rfl 64 iP _ 2 16 Tryz.underlying24 hP5 hP0 hP1 hP2 rfl (by decide) _ rfl oy hgP.out.1.1 (by decide) (by decide) ?_
  intro vw X3 ow b3
  obtain ⟨gw, cw, rfl, lw, lw'⟩ := own_blk ow (by decide)
  have hB2 := below_step b1 b2
  have hB3 := below_step hB2 b3
  have ox3 : X3.ownsRow w.heap.size 64 2 (.slice (some ⟨gx, 0, none⟩) 4 cx) 4 L := (GrS.of_below (below_step b2 b3) : GrS (fun _ => False) _ _).own ox (fun _ _ h => h)
  have ry : RwZ X3 (fun b => b = gy) (.slice (some ⟨gy, 0, none⟩) 4 cy) 4 L := (rw_of_own oy).grS (U := fun _ => False) (.of_below b3) (fun _ _ h => h)
  have rw' : RwZ X3 (fun b => b = gw) (.slice (some ⟨gw, 0, none⟩) 4 cw) 4 L := rw_of_own ow
  have hxy : gx ≠ gy := by omega
  have hxw : gx ≠ gw := by have := b2.size; omega
  have hgx : w.heap.size ≤ gx := lx
  have hgyl : gy < X3.heap.size := Nat.lt_of_lt_of_le ly' b3.size
  have hS := samePts_any _ _ 4 L hgP.out (by decide) X3 (rw_of_own ox3) rw'
  clear ox oy ow b1 b2 b3 hB2 lx lx' ly ly' lw
  go_wp2_with (go_at_call 20; fail)
  refine hS.mono ?_
  clear hS
  rintro _ X4 ⟨rfl, b4⟩
  have hI : Hid (∃ xs, X4.ownsRow w.heap.size 64 2 (.slice (some ⟨gx, 0, none⟩) 4 cx) 4 xs ∧ RwZ X4 (fun b => b = gy) (.slice (some ⟨gy, 0, none⟩) 4 cy) 4 L ∧ RwZ X4 (fun b => b = gw) (.slice (some ⟨gw, 0, none⟩) 4 cw) 4 L ∧ Below w.heap.size w X4 ∧ gy < X4.heap.size ∧ gw < X4.heap.size) := ⟨L, (GrS.of_below b4 : GrS (fun _ => False) _ _).own ox3 (fun _ _ h => h), ry.grS (U := fun _ => False) (.of_below b4) (fun _ _ h => h), rw'.grS (U := fun _ => False) (.of_below b4) (fun _ _ h => h), below_step hB3 b4, Nat.lt_of_lt_of_le hgyl b4.size, Nat.lt_of_lt_of_le lw' b4.size⟩
  clear ox3 ry rw' b4 hB3 hgyl lw'
  go_wp2
  go_loopw [6] (fun v wr => ∃ i : Nat, i ≤ 4 ∧ v = .int .i64 (i : Int) ∧ ∃ xs, wr.ownsRow w.heap.size 64 2 (.slice (some ⟨gx, 0, none⟩) 4 cx) 4 xs ∧ RwZ wr (fun b => b = gy) (.slice (some ⟨gy, 0, none⟩) 4 cy) 4 L ∧ RwZ wr (fun b => b = gw) (.slice (some ⟨gw, 0, none⟩) 4 cw) 4 L ∧ Below w.heap.size w wr ∧ gy < wr.heap.size ∧ gw < wr.heap.size) (fun v _ => 4 - (intOf v).toNat)
  case atStart => exact ⟨0, by decide, rfl, hI.out⟩
  case round =>
    clear hI
    obtain ⟨i, hi, rfl, xs, ho, ry, rw', hb, hly, hlw⟩ := hrel
    by_cases hlt : i < 4
    · have hlt' : (i : Int) < 4 := by omega
      have hi0 : (0 : Int) ≤ (i : Int) := by omega
      have hln := ho.1
      obtain ⟨u0, c0⟩ : ∃ u, wr.cell? ⟨gx, i * 2, none⟩ = some u := ⟨_, (ho.cellAt (i * 2) (by omega)).trans (List.getElem?_eq_getElem (show i * 2 < xs.length by omega))⟩
      obtain ⟨u1, c1⟩ : ∃ u, wr.cell? ⟨gx, i * 2 + 1, none⟩ = some u := ⟨_, (ho.cellAt (i * 2 + 1) (by omega)).trans (List.getElem?_eq_getElem (show i * 2 + 1 < xs.length by omega))⟩
      have f0 := ho.frozenAt (i * 2)
      have f1 := ho.frozenAt (i * 2 + 1)
      have s1 := ho.stored (i * 2) (.int .i64 (-7))
      have s2 := s1.1.stored (i * 2 + 1) (.float .f32 3235905536)
      have hG : GrS (fun k => k = gx) wr ((wr.setCell ⟨gx, i * 2, none⟩ (.int .i64 (-7))).setCell ⟨gx, i * 2 + 1, none⟩ (.float .f32 3235905536)) := (grS_set wr gx _ _).trans (grS_set _ gx _ _)
      have hnx : Hid (∃ xs, ((wr.setCell ⟨gx, i * 2, none⟩ (.int .i64 (-7))).setCell ⟨gx, i * 2 + 1, none⟩ (.float .f32 3235905536)).ownsRow w.heap.size 64 2 (.slice (some ⟨gx, 0, none⟩) 4 cx) 4 xs ∧ RwZ ((wr.setCell ⟨gx, i * 2, none⟩ (.int .i64 (-7))).setCell ⟨gx, i * 2 + 1, none⟩ (.float .f32 3235905536)) (fun b => b = gy) (.slice (some ⟨gy, 0, none⟩) 4 cy) 4 L ∧ RwZ ((wr.setCell ⟨gx, i * 2, none⟩ (.int .i64 (-7))).setCell ⟨gx, i * 2 + 1, none⟩ (.float .f32 3235905536)) (fun b => b = gw) (.slice (some ⟨gw, 0, none⟩) 4 cw) 4 L ∧ Below w.heap.size w ((wr.setCell ⟨gx, i * 2, none⟩ (.int .i64 (-7))).setCell ⟨gx, i * 2 + 1, none⟩ (.float .f32 3235905536)) ∧ gy < ((wr.setCell ⟨gx, i * 2, none⟩ (.int .i64 (-7))).setCell ⟨gx, i * 2 + 1, none⟩ (.float .f32 3235905536)).heap.size ∧ gw < ((wr.setCell ⟨gx, i * 2, none⟩ (.int .i64 (-7))).setCell ⟨gx, i * 2 + 1, none⟩ (.float .f32 3235905536)).heap.size) :=
        ⟨_, s2.1, ry.grS hG (fun b e e' => hxy (e'.symm.trans e)), rw'.grS hG (fun b e e' => hxw (e'.symm.trans e)), hb.trans (hG.below hb.size (fun k e => e ▸ hgx)), Nat.lt_of_lt_of_le hly hG.size, Nat.lt_of_lt_of_le hlw hG.size⟩
      clear ho ry rw' hb hln s1 s2 hG
      go_wp2
      go_roundw
      case rel => exact ⟨i + 1, by omega, by first | rfl | go_num, hnx.out⟩
      case measure => simp [intOf]; omega
    · have hlt' : ¬ (i : Int) < 4 := by omega
      have hI : Hid (∃ xv xs, Value.slice (some ⟨gx, 0, none⟩) 4 cx = xv ∧ wr.ownsRow w.heap.size 64 2 xv (4 + 0) xs ∧ (∀ g, xv.ownBlock = some g → g ≠ gy ∧ g ≠ gw) ∧ RwZ wr (fun b => b = gy) (.slice (some ⟨gy, 0, none⟩) 4 cy) 4 L ∧ RwZ wr (fun b => b = gw) (.slice (some ⟨gw, 0, none⟩) 4 cw) 4 L ∧ Below w.heap.size w wr ∧ gy < wr.heap.size ∧ gw < wr.heap.size) := ⟨_, xs, rfl, ho, fun g e => by
        obtain rfl : gx = g := by simpa [Value.ownBlock] using e
        exact ⟨hxy, hxw⟩, ry, rw', hb, hly, hlw⟩
      clear ho ry rw' hb hly hlw hlt hi
      go_wp2
      go_loopw [1, 7] (fun xv v wx => ∃ k : Nat, k ≤ 20 ∧ v = .int .i64 (k : Int) ∧ ∃ xs, wx.ownsRow w.heap.size 64 2 xv (4 + k) xs ∧ (∀ g, xv.ownBlock = some g → g ≠ gy ∧ g ≠ gw) ∧ RwZ wx (fun b => b = gy) (.slice (some ⟨gy, 0, none⟩) 4 cy) 4 L ∧ RwZ wx (fun b => b = gw) (.slice (some ⟨gw, 0, none⟩) 4 cw) 4 L ∧ Below w.heap.size w wx ∧ gy < wx.heap.size ∧ gw < wx.heap.size) (fun _ v _ => 20 - (intOf v).toNat)
      case atStart =>
        obtain ⟨xv, xs, rfl, h1, h2, h3⟩ := hI.out
        exact ⟨0, by decide, rfl, xs, h1, h2, h3⟩
      case round =>
        clear hI
        obtain ⟨k, hk, rfl, xs, ho, hne, ry, rw', hb, hly, hlw⟩ := hrel
        obtain ⟨ax, cx', rfl⟩ := own_sl ho
        by_cases hlt : k < 20
        · have hlt' : (k : Int) < 20 := by omega
          go_wp2_with (at_builtin; refine stopJ ?_)
          unfold StopJ
          have hAl : Below wr.heap.size wr (wr.alloc (.cells #[.int .i64 (-8), .float .f32 3238002688] 64)) := (Below.refl _ _).alloc (Nat.le_refl _) _
          refine wpList_app _ rfl _ _ 24 rfl w.heap.size 64 iP _ 2 16 Tryz.underlying24 hP5 hP0 hP1 hP2 rfl (by decide) _ (4 + k) xs rfl (ho.alloc _) ⟨wr.heap.size, 0, none⟩ 1 1 [.int .i64 (-8), .float .f32 3238002688] rfl rfl (lit2 wr _ _) (by simp [Value.oneCell']) (by unfold maxLen; omega) (by omega) (Nat.le_trans hb.size hAl.size) ?_
          intro v9 w9 ho9 hg9 hat9 _
          have hG : GrS (fun q => (Value.slice ax (4 + k) cx').ownBlock = some q) (wr.alloc (.cells #[.int .i64 (-8), .float .f32 3238002688] 64)) w9 := .of_grown hg9 (fun q e => e)
          have hlo := fun q (e : (Value.slice ax (4 + k) cx').ownBlock = some q) => (own_rowT ho e).1
          have hnx : Hid (∃ xs, w9.ownsRow w.heap.size 64 2 v9 (4 + (k + 1)) xs ∧ (∀ g, v9.ownBlock = some g → g ≠ gy ∧ g ≠ gw) ∧ RwZ w9 (fun b => b = gy) (.slice (some ⟨gy, 0, none⟩) 4 cy) 4 L ∧ RwZ w9 (fun b => b = gw) (.slice (some ⟨gw, 0, none⟩) 4 cw) 4 L ∧ Below w.heap.size w w9 ∧ gy < w9.heap.size ∧ gw < w9.heap.size) := ⟨_, ho9, fun g e => by
              rcases hat9 with h9 | h9
              · exact hne g (h9.symm.trans e)
              · rw [h9] at e
                have e' := Option.some.inj e
                have := hAl.size
                exact ⟨by omega, by omega⟩, (ry.grS (U := fun _ => False) (.of_below hAl) (fun _ _ h => h)).grS hG (fun b e e' => (hne b e').1 e), (rw'.grS (U := fun _ => False) (.of_below hAl) (fun _ _ h => h)).grS hG (fun b e e' => (hne b e').2 e), (hb.trans (hAl.mono hb.size)).trans (hG.below (Nat.le_trans hb.size hAl.size) hlo), Nat.lt_of_lt_of_le (Nat.lt_of_lt_of_le hly hAl.size) hG.size, Nat.lt_of_lt_of_le (Nat.lt_of_lt_of_le hlw hAl.size) hG.size⟩
          obtain ⟨a9, c9, rfl⟩ := own_sl ho9
          clear ho ho9 hg9 hat9 hne ry rw' hb hly hlw hG hlo hAl
          go_wp2
          go_roundw
          case rel => exact ⟨k + 1, by omega, by first | rfl | go_num, hnx.out⟩
          case measure => simp [intOf]; omega
        · obtain rfl : k = 20 := by omega
          clear hlt hk
          have cm := cM.out wr
          clear cM
          replace ry := Hid.mk ry
          replace rw' := Hid.mk rw'
          clear ho hne
          go_wp2_with (go_at_call 12; fail)
          refine cm.mono ?_
          clear cm
          rintro _ X5 ⟨vz, rfl, oz, b5⟩
          obtain ⟨gz, cz, rfl, -, -⟩ := own_blk oz (by decide)
          have ry5 := ry.out.grS (U := fun _ => False) (.of_below b5) (fun _ _ h => h)
          have rw5 := rw'.out.grS (U := fun _ => False) (.of_below b5) (fun _ _ h => h)
          have rz5 := rw_of_own oz
          have hS1 := samePts_any _ _ 4 L hgP.out (by decide) X5 ry5 rw5
          have hS2 := Hid.mk (fun X (hX : Below X5.heap.size X5 X) => samePts_any _ _ 4 L hgP.out (by decide) X (rz5.grS (U := fun _ => False) (.of_below hX) (fun _ _ h => h)) (rw5.grS (U := fun _ => False) (.of_below hX) (fun _ _ h => h)))
          have hbe := Hid.mk (below_step hb b5)
          clear ry rw' ry5 rw5 rz5 oz b5 hb
          go_wp2_with (go_at_call 20; fail)
          refine hS1.mono ?_
          clear hS1
          rintro _ X6 ⟨rfl, b6⟩
          have hS3 := hS2.out _ b6
          clear hS2
          go_wp2_with (go_at_call 20; fail)
          refine hS3.mono ?_
          clear hS3
          rintro _ X7 ⟨rfl, b7⟩
          go_wp2
          go_ret
          exact ⟨rfl, below_step (below_step hbe.out b6) b7⟩
end Go.Proofs.YthmjkmdbggfiiaaGreatDoor.CF
