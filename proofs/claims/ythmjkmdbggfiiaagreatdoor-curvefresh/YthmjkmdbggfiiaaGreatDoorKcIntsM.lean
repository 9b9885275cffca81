import Derived.Test.YthmjkmdbggfiiaaGreatDoorKcIntsS
import Derived.Deep.RegionHeldLaw
import Derived.Deep.RegionLaw
import Derived.BigQuiet
/- markInts. -/
namespace Go.Proofs.YthmjkmdbggfiiaaGreatDoor.KB
open Go.RowKit
set_option linter.constructorNameAsVariable false

set_option maxRecDepth 8000 in
set_option maxHeartbeats 4000000 in
theorem markInts_any {W : World} {lo bb : Nat} {Z : Nat → Prop} {r : Nat → Row} {fz : List (Value × Nat × List Value)} {turn deep : Int} {f : Nat → Nat → Value} {seen : Nat → Int} {O : List Ot} {Q : List Wt} (hL : TkL knInts 1 W lo bb Z r fz turn deep f seen (xsOf O Q [])) (hC : Cnd knInts r fz O Q [] []) (hfin : Fin r) (hlo : lo ≤ W.heap.size) (hQ : Q.length ≤ 1000) (hO : O.length ≤ 1000) :
    Calls Tryz.prog 92 #[.pointer (some ⟨bb, 0, none⟩)] W fun e X => e = .returned (.tuple #[]) ∧ ∃ Zo, MkE knInts 1 lo bb W turn deep seen Zo fz f r O.length Q Q.length X := by
  obtain ⟨a2, c2, e2, k2, o2, f2⟩ := hL.own (j := 2) (by decide)
  obtain ⟨a3, c3, e3, k3, o3, f3⟩ := hL.own (j := 3) (by decide)
  obtain ⟨a5, c5, e5, k5, o5, f5⟩ := hL.own (j := 5) (by decide)
  obtain ⟨a6, c6, e6, k6, o6, f6⟩ := hL.own (j := 6) (by decide)
  have l2 : (xsOf O Q [] 2).length = Q.length := by simp [xsOf]
  have l3 : (xsOf O Q [] 3).length = Q.length := by simp [xsOf]
  have l5 : (xsOf O Q [] 5).length = Q.length := by simp [xsOf, intV]
  have l6 : (xsOf O Q [] 6).length = Q.length := by simp [xsOf, intV]
  rw [l2] at e2 k2 o2
  rw [l3] at e3 k3 o3
  rw [l5] at e5 k5 o5
  rw [l6] at e6 k6 o6
  replace k2 : W.cell? ⟨bb, 15, none⟩ = some (.slice a2 Q.length c2) := k2
  replace k3 : W.cell? ⟨bb, 16, none⟩ = some (.slice a3 Q.length c3) := k3
  replace k5 : W.cell? ⟨bb, 18, none⟩ = some (.slice a5 Q.length c5) := k5
  replace k6 : W.cell? ⟨bb, 19, none⟩ = some (.slice a6 Q.length c6) := k6
  replace f2 : W.frozen? ⟨bb, 15, none⟩ = false := f2
  replace f3 : W.frozen? ⟨bb, 16, none⟩ = false := f3
  replace f5 : W.frozen? ⟨bb, 18, none⟩ = false := f5
  replace f6 : W.frozen? ⟨bb, 19, none⟩ = false := f6
  clear l2 l3 l5 l6
  by_cases hQ0 : Q = []
  · subst hQ0
    have hfin : Hid (∃ Zo, MkE knInts 1 lo bb W turn deep seen Zo fz f r O.length [] 0 W) := ⟨_, MkE.none hL hC hfin⟩
    clear hL hC o2 o3 o5 o6
    simp only [List.length_nil] at k2 k3 k5 k6
    go_enter Tryz.func92, Tryz.ntmps92
    go_wp2
    refine bodyPost_ret (results_none rfl _ _ _) rfl ?_
    exact ⟨rfl, hfin.out⟩
  have hQp : 0 < Q.length := by
    cases Q with
    | nil => exact absurd rfl hQ0
    | cons x l => simp
  have hQne : ((Q.length : Int) == 0) = false := by rw [beq_eq_false_iff_ne]; omega
  obtain ⟨b2, d2, q2, m2⟩ := own_len o2
  obtain ⟨b3, d3, q3, m3⟩ := own_len o3
  obtain ⟨b5, d5, q5, m5⟩ := own_len o5
  obtain ⟨b6, d6, q6, m6⟩ := own_len o6
  obtain ⟨g2, p2, n2, mm2⟩ := m2 hQp
  obtain ⟨g3, p3, n3, mm3⟩ := m3 hQp
  obtain ⟨g5, p5, n5, mm5⟩ := m5 hQp
  obtain ⟨g6, p6, n6, mm6⟩ := m6 hQp
  simp only [Value.slice.injEq] at q2 q3 q5 q6
  obtain ⟨rfl, -, rfl⟩ := q2
  obtain ⟨rfl, -, rfl⟩ := q3
  obtain ⟨rfl, -, rfl⟩ := q5
  obtain ⟨rfl, -, rfl⟩ := q6
  subst p2 p3 p5 p6
  obtain ⟨Zo, hZo⟩ : ∃ Zo : Nat → Prop, Zo = fun b => b = g2 ∨ b = g3 ∨ b = g5 ∨ b = g6 := ⟨_, rfl⟩
  have hrd : Hid (∀ X : World, (∀ b, Zo b → X.heap[b]? = W.heap[b]?) → ∀ k (hk : k < Q.length), X.cell? ⟨g2, k, none⟩ = some Q[k].v ∧ X.cell? ⟨g3, k, none⟩ = some Q[k].c ∧ X.cell? ⟨g5, k, none⟩ = some (.int .i64 Q[k].m) ∧ X.cell? ⟨g6, k, none⟩ = some (.int .i64 Q[k].d)) := ⟨fun X hX k hk => by
    rw [hZo] at hX
    exact ⟨(cell_heap (hX g2 (.inl rfl))).trans (mm2 k _ (by omega) (by simp [xsOf, hk])), (cell_heap (hX g3 (.inr (.inl rfl)))).trans (mm3 k _ (by omega) (by simp [xsOf, hk])), (cell_heap (hX g5 (.inr (.inr (.inl rfl))))).trans (mm5 k _ (by omega) (by simp [xsOf, intV, hk])), (cell_heap (hX g6 (.inr (.inr (.inr rfl))))).trans (mm6 k _ (by omega) (by simp [xsOf, intV, hk]))⟩⟩
  have hI : Hid (MkE knInts 1 lo bb W turn deep seen Zo fz f r O.length Q 0 ((((W.setCell ⟨bb, 15, none⟩ (.slice none 0 0)).setCell ⟨bb, 16, none⟩ (.slice none 0 0)).setCell ⟨bb, 18, none⟩ (.slice none 0 0)).setCell ⟨bb, 19, none⟩ (.slice none 0 0))) := ⟨MkE.start hL hC hfin hlo (fun b hb => by
      rw [hZo] at hb
      rcases hb with rfl | rfl | rfl | rfl
      · exact ⟨2, .inl rfl, by rw [e2]; rfl⟩
      · exact ⟨3, .inr (.inl rfl), by rw [e3]; rfl⟩
      · exact ⟨5, .inr (.inr (.inl rfl)), by rw [e5]; rfl⟩
      · exact ⟨6, .inr (.inr (.inr rfl)), by rw [e6]; rfl⟩)⟩
  have hlbb : bb < W.heap.size := hL.sep.bl.2
  clear hL hC o2 o3 o5 o6 m2 m3 m5 m6 mm2 mm3 mm5 mm6 hQ0 e2 e3 e5 e6 hZo
  obtain ⟨iS, hS5, hS0, hS1, hS2⟩ := info_parts infoIntss
  obtain ⟨iI, hI5, hI0, hI1, hI2⟩ := info_parts infoIn
  obtain ⟨iT, hT5, hT0, hT1, hT2⟩ := info_parts infoInts
  go_enter Tryz.func92, Tryz.ntmps92
  go_wp2
  go_loopw [6] (fun v wr => ∃ k : Nat, k ≤ Q.length ∧ v = .int .i64 (k : Int) ∧ MkE knInts 1 lo bb W turn deep seen Zo fz f r O.length Q k wr) (fun v _ => Q.length - (intOf v).toNat)
  case atStart => exact ⟨0, Nat.zero_le _, rfl, hI.out⟩
  case round =>
    clear hI k2 k3 k5 k6 f2 f3 f5 f6
    obtain ⟨k, hk, rfl, Z1, r1, fz1, f1, O1, Q1, A1, hRd⟩ := hrel
    by_cases hlt : k < Q.length
    · have hlt' : (k : Int) < (Q.length : Int) := by omega
      have hk0 : (0 : Int) ≤ (k : Int) := by omega
      have hdr : Q.drop k = Q[k] :: Q.drop (k + 1) := List.drop_eq_getElem_cons hlt
      have hqm : Q[k] ∈ Q := List.getElem_mem hlt
      obtain ⟨x2, x3, x5, x6⟩ := hrd.out wr hRd.hp k hlt
      have hCd := hRd.c
      rw [hdr] at hCd
      have hrk := Hid.mk (fun X hX => hrd.out X hX k hlt)
      generalize Q[k] = q at *
      obtain ⟨hq8, hqr, hqc⟩ := hCd.cP q (List.mem_cons_self ..)
      have hql := (hCd.lP q (List.mem_cons_self ..)).1
      have hqg := Hid.mk (hCd.lP q (List.mem_cons_self ..)).2
      have hq8' : Out 1 q.i := out_big (by decide) hq8
      have hqo := hRd.t.sep.own q.i
      rw [hqr] at hqo
      obtain ⟨qa, qc, eqv, -⟩ := own_len hqo
      obtain ⟨na, nc, enc, -⟩ := hRd.t.sep.fz _ hqc
      simp only at eqv enc hqo
      have hxl : Hid (∀ j, (xsOf O1 Q1 A1 j).length ≤ 5000) := ⟨fun j => by
        have h1 := hRd.ol
        have h2 := hRd.ql
        match j with
        | 0 => simp [xsOf]; omega
        | 1 => simp [xsOf]; omega
        | 2 => simp [xsOf]; omega
        | 3 => simp [xsOf]; omega
        | 4 => simp [xsOf]; omega
        | 5 => simp [xsOf, intV]; omega
        | 6 => simp [xsOf, intV]; omega
        | j + 7 => simp [xsOf, intV]; omega⟩
      obtain ⟨xs, hxs⟩ : ∃ xs, xsOf O1 Q1 A1 = xs := ⟨_, rfl⟩
      replace hxs := Hid.mk hxs
      rw [hxs.out] at hxl
      have hT0' := hRd.t
      rw [hxs.out] at hT0'
      have hl0 : lo ≤ wr.heap.size := Nat.le_trans hlo hRd.lo.size
      have ct : wr.cell? ⟨bb, 2, none⟩ = some (.int .i64 turn) := hT0'.bk.cell (i := 2) (by decide)
      have ctd : wr.drew.cell? ⟨bb, 2, none⟩ = some (.int .i64 turn) := ct
      have x6d : wr.drew.cell? ⟨g6, k, none⟩ = some (.int .i64 q.d) := x6
      rw [eqv] at x2
      rw [enc] at x3
      have hZ1 := Hid.mk hRd.zo
      have hP0 : PS knInts 1 lo bb W turn deep seen f Zo Z1 fz1 r1 xs wr := ⟨r1, f1, hT0', fun k _ => rfl, hRd.fx, hRd.lo, hRd.hp⟩
      have hff := Hid.mk hRd.fin
      replace hRd := Hid.mk hRd
      replace hqr := Hid.mk hqr
      replace hqo := Hid.mk hqo
      have hqh := Hid.mk hqc
      replace hdr := Hid.mk hdr
      replace hqm := Hid.mk hqm
      clear hqc hCd hT0'
      have hPq := Hid.mk (fun n => hP0.later hlo hZ1.out (drewN_below wr n))
      clear hP0
      go_upto_region 11 with fail
      go_quiet (fail)
      have hP1 := hPq.out nq
      clear hPq
      have hxq : Hid (∀ X xs', PS knInts 1 lo bb W turn deep seen f Zo Z1 fz1 r1 xs' X → X.cell? ⟨g3, k, none⟩ = some (.slice na q.n nc) ∧ X.cell? ⟨g6, k, none⟩ = some (.int .i64 q.d)) := ⟨fun X xs' hX => by
        obtain ⟨-, -, -, -, -, -, hh⟩ := hX
        obtain ⟨-, z3, -, z6⟩ := hrk.out X hh
        exact ⟨by rw [← enc]; exact z3, z6⟩⟩
      by_cases hdue : turn < q.d
      · generalize wr.drewN nq = WA at *
        obtain ⟨a2, c2, kk, oo, hl1, nx1⟩ := hP1.push hlo hZ1.out (j := 2) (by decide)
        have k2 : WA.cell? ⟨bb, 15, none⟩ = some (.slice a2 (xs 2).length c2) := kk
        clear kk
        replace nx1 := Hid.mk nx1
        go_wp2_with (at_builtin; refine stopJ ?_)
        unfold StopJ
        refine wpList_app _ rfl _ _ 29 rfl lo 28 iS _ 1 24 Tryz.underlying29 hS5 hS0 hS1 hS2 rfl (by decide) (.slice a2 (xs 2).length c2) (xs 2).length (xs 2) rfl (oo.alloc _) ⟨WA.heap.size, 0, none⟩ 1 1 [.slice qa q.n qc] rfl rfl (cell_one_new WA _ _) (by simp [Value.oneCell']) (by have := hxl.out 2; unfold maxLen; omega) (by have := hxl.out 2; omega) (Nat.le_trans hl1 (by simp)) ?_
        intro v9 w9 ho9 hg9 hat9 _
        obtain ⟨va2, vc2, rfl⟩ := own_sl ho9
        obtain ⟨hP2, y0, y0f⟩ := nx1.out _ _ _ ho9 hg9 hat9
        replace y0 : w9.cell? ⟨bb, 15, none⟩ = some (.slice a2 (xs 2).length c2) := y0
        replace y0f : w9.frozen? ⟨bb, 15, none⟩ = false := y0f
        replace hP2 : PS knInts 1 lo bb W turn deep seen f Zo Z1 fz1 r1 (updX (xs) 2 (xs 2 ++ [.slice qa q.n qc])) (w9.setCell ⟨bb, 15, none⟩ (.slice va2 ((xs 2).length + 1) vc2)) := hP2
        clear ho9 hg9 hat9 k2 oo nx1 hP1
        replace hP2 := Hid.mk hP2
        go_upto_region 13 with fail
        clear y0 y0f
        generalize w9.setCell ⟨bb, 15, none⟩ (.slice va2 ((xs 2).length + 1) vc2) = WB at *
        replace hP2 := hP2.out
        obtain ⟨x3b, -⟩ := hxq.out _ _ hP2
        have x3c : WB.drew.cell? ⟨g3, k, none⟩ = some (.slice na q.n nc) := x3b
        obtain ⟨a3, c3, kk, oo, hl2, nx2⟩ := hP2.push hlo hZ1.out (j := 3) (by decide)
        rw [show (updX (xs) 2 (xs 2 ++ [.slice qa q.n qc])) 3 = xs 3 from rfl] at kk oo nx2
        have k3 : WB.cell? ⟨bb, 16, none⟩ = some (.slice a3 (xs 3).length c3) := kk
        clear kk
        replace nx2 := Hid.mk nx2
        have kd3 : WB.drew.cell? ⟨bb, 16, none⟩ = some (.slice a3 (xs 3).length c3) := k3
        have E3 : Below WB.heap.size WB (WB.alloc (.cells #[.slice na q.n nc] 28)) := (Below.refl _ _).alloc (Nat.le_refl _) _
        have ke3 : (WB.alloc (.cells #[.slice na q.n nc] 28)).drew.cell? ⟨bb, 16, none⟩ = some (.slice a3 (xs 3).length c3) := (E3.cell (p := ⟨bb, 16, none⟩) (World.block_lt_of_cell? _ _ k3)).trans k3
        go_cut [8] from 74 to 86 (fun x wx => x = .int .i64 q.m ∧ PS knInts 1 lo bb W turn deep seen f Zo Z1 fz1 r1 (updX (updX (xs) 2 (xs 2 ++ [.slice qa q.n qc])) 3 (xs 3 ++ [.slice na q.n nc])) wx)
        case first =>
          go_region_law ((refine step_app (P := Tryz.prog) _ rfl _ _ 29 rfl lo 28 iS _ 1 24 Tryz.underlying29 hS5 hS0 hS1 hS2 rfl (by decide) (.slice a3 (xs 3).length c3) (xs 3).length (xs 3) rfl (show (WB.alloc (.cells #[.slice na q.n nc] 28)).drew.ownsRow lo 28 1 _ _ _ from (oo.alloc _).drew) ⟨WB.heap.size, 0, none⟩ 1 1 [.slice na q.n nc] rfl rfl (cell_one_new WB _ _) (by simp [Value.oneCell']) (by have := hxl.out 3; unfold maxLen; omega) (by have := hxl.out 3; omega) (Nat.le_trans hl2 (by simp)) ?_; intro v9 w9 ho9 hg9 hat9 _; obtain ⟨va3, vc3, rfl⟩ := own_sl ho9; obtain ⟨hPn, y0, y0f⟩ := nx2.out _ _ _ ho9 ⟨hg9.os, hg9.tape, hg9.output, hg9.size, hg9.block⟩ hat9; replace y0 : w9.cell? ⟨bb, 16, none⟩ = some (.slice a3 (xs 3).length c3) := y0; replace y0f : w9.frozen? ⟨bb, 16, none⟩ = false := y0f; replace hPn := Hid.mk hPn))
          all_goals (refine Met.intro ?_; go_step; go_meet)
          all_goals exact ⟨rfl, hPn.out⟩
        case rest =>
          obtain ⟨rfl, hP3⟩ := hcut
          clear hP2 nx2 oo k3 kd3 ke3 E3
          clear x3b x3c
          obtain ⟨a5, c5, kk, oo, hl3, nx3⟩ := hP3.push hlo hZ1.out (j := 5) (by decide)
          rw [show (updX (updX (xs) 2 (xs 2 ++ [.slice qa q.n qc])) 3 (xs 3 ++ [.slice na q.n nc])) 5 = xs 5 from rfl] at kk oo nx3
          have k5 : wc.cell? ⟨bb, 18, none⟩ = some (.slice a5 (xs 5).length c5) := kk
          clear kk
          replace nx3 := Hid.mk nx3
          go_wp2_with (at_builtin; refine stopJ ?_)
          unfold StopJ
          refine wpList_app _ rfl _ _ 28 rfl lo 3 iI _ 1 8 Tryz.underlying28 hI5 hI0 hI1 hI2 rfl (by decide) (.slice a5 (xs 5).length c5) (xs 5).length (xs 5) rfl (oo.alloc _) ⟨wc.heap.size, 0, none⟩ 1 1 [.int .i64 q.m] rfl rfl (cell_one_new wc _ _) (by simp [Value.oneCell']) (by have := hxl.out 5; unfold maxLen; omega) (by have := hxl.out 5; omega) (Nat.le_trans hl3 (by simp)) ?_
          intro v9 w9 ho9 hg9 hat9 _
          obtain ⟨va5, vc5, rfl⟩ := own_sl ho9
          obtain ⟨hP4, y0, y0f⟩ := nx3.out _ _ _ ho9 hg9 hat9
          replace y0 : w9.cell? ⟨bb, 18, none⟩ = some (.slice a5 (xs 5).length c5) := y0
          replace y0f : w9.frozen? ⟨bb, 18, none⟩ = false := y0f
          replace hP4 : PS knInts 1 lo bb W turn deep seen f Zo Z1 fz1 r1 (updX (updX (updX (xs) 2 (xs 2 ++ [.slice qa q.n qc])) 3 (xs 3 ++ [.slice na q.n nc])) 5 (xs 5 ++ [.int .i64 q.m])) (w9.setCell ⟨bb, 18, none⟩ (.slice va5 ((xs 5).length + 1) vc5)) := hP4
          clear ho9 hg9 hat9 k5 oo nx3 hP3
          replace hP4 := Hid.mk hP4
          go_upto_region 15 with fail
          clear y0 y0f
          generalize w9.setCell ⟨bb, 18, none⟩ (.slice va5 ((xs 5).length + 1) vc5) = WD at *
          replace hP4 := hP4.out
          obtain ⟨-, x6b⟩ := hxq.out _ _ hP4
          have x6c : WD.drew.cell? ⟨g6, k, none⟩ = some (.int .i64 q.d) := x6b
          obtain ⟨a6, c6, kk, oo, hl4, nx4⟩ := hP4.push hlo hZ1.out (j := 6) (by decide)
          rw [show (updX (updX (updX (xs) 2 (xs 2 ++ [.slice qa q.n qc])) 3 (xs 3 ++ [.slice na q.n nc])) 5 (xs 5 ++ [.int .i64 q.m])) 6 = xs 6 from rfl] at kk oo nx4
          have k6 : WD.cell? ⟨bb, 19, none⟩ = some (.slice a6 (xs 6).length c6) := kk
          clear kk
          replace nx4 := Hid.mk nx4
          have kd6 : WD.drew.cell? ⟨bb, 19, none⟩ = some (.slice a6 (xs 6).length c6) := k6
          have E6 : Below WD.heap.size WD (WD.alloc (.cells #[.int .i64 q.d] 3)) := (Below.refl _ _).alloc (Nat.le_refl _) _
          have ke6 : (WD.alloc (.cells #[.int .i64 q.d] 3)).drew.cell? ⟨bb, 19, none⟩ = some (.slice a6 (xs 6).length c6) := (E6.cell (p := ⟨bb, 19, none⟩) (World.block_lt_of_cell? _ _ k6)).trans k6
          go_region_law ((refine step_app (P := Tryz.prog) _ rfl _ _ 28 rfl lo 3 iI _ 1 8 Tryz.underlying28 hI5 hI0 hI1 hI2 rfl (by decide) (.slice a6 (xs 6).length c6) (xs 6).length (xs 6) rfl (show (WD.alloc (.cells #[.int .i64 q.d] 3)).drew.ownsRow lo 3 1 _ _ _ from (oo.alloc _).drew) ⟨WD.heap.size, 0, none⟩ 1 1 [.int .i64 q.d] rfl rfl (cell_one_new WD _ _) (by simp [Value.oneCell']) (by have := hxl.out 6; unfold maxLen; omega) (by have := hxl.out 6; omega) (Nat.le_trans hl4 (by simp)) ?_; intro v9 w9 ho9 hg9 hat9 _; obtain ⟨va6, vc6, rfl⟩ := own_sl ho9; obtain ⟨hPn, y0, y0f⟩ := nx4.out _ _ _ ho9 ⟨hg9.os, hg9.tape, hg9.output, hg9.size, hg9.block⟩ hat9; replace y0 : w9.cell? ⟨bb, 19, none⟩ = some (.slice a6 (xs 6).length c6) := y0; replace y0f : w9.frozen? ⟨bb, 19, none⟩ = false := y0f; replace hPn := Hid.mk hPn))
          all_goals (refine Met.intro ?_; go_step)
          all_goals
            have hnx : Hid (MkE knInts 1 lo bb W turn deep seen Zo fz f r O.length Q (k + 1) (w9.setCell ⟨bb, 19, none⟩ (.slice va6 ((xs 6).length + 1) vc6))) := ⟨hRd.out.kept hdr.out hqm.out hxs.out (by rw [eqv, enc]; exact hPn.out)⟩
            clear hPn nx4 oo k6 kd6 ke6 E6 y0 y0f ho9 hg9 hat9
            generalize w9.setCell ⟨bb, 19, none⟩ (.slice va6 ((xs 6).length + 1) vc6) = wz at *
            go_wp2
            go_roundw
            case rel => exact ⟨k + 1, by omega, by first | rfl | go_num, hnx.out⟩
            case measure => simp [intOf]; omega
      · obtain ⟨r5, f5, hT5, hr5, hx5, hb5, hh5⟩ := hP1
        have hown5 := hT5.sep.own q.i
        rw [hr5 q.i hq8', hqr.out] at hown5
        have hsm := sameInts_any (Z := fun b => q.v.ownBlock = some b) q.v q.c q.n q.L hqg.out (by omega) _ (RwZ.of_own hown5) (hT5.sep.fz _ hqh.out)
        rw [eqv, enc] at hsm
        have z0 : (wr.drewN nq).cell? ⟨bb, 0, none⟩ = some (.bool false) := hT5.bk.cell (i := 0) (by decide)
        have z1 : (wr.drewN nq).cell? ⟨bb, 1, none⟩ = some (.bool false) := hT5.bk.cell (i := 1) (by decide)
        obtain ⟨x3b, -⟩ := hxq.out _ xs ⟨r5, f5, hT5, hr5, hx5, hb5, hh5⟩
        have hPS := Hid.mk (fun Y (hY : Below (wr.drewN nq).heap.size (wr.drewN nq) Y) => PS.later ⟨r5, f5, hT5, hr5, hx5, hb5, hh5⟩ hlo hZ1.out hY)
        have hbY := Hid.mk (fun Y (hY : Below (wr.drewN nq).heap.size (wr.drewN nq) Y) => hT5.bk.later hY)
        clear hT5 hr5 hx5 hb5 hh5 hown5
        generalize wr.drewN nq = WA at *
        go_upto_region 17 with (go_at_call 61; refine hsm.mono ?_; rintro e w2 ⟨rfl, hb2⟩; have hbk2 := hbY.out _ hb2; have z1b : w2.cell? ⟨bb, 1, none⟩ = some (.bool false) := hbk2.cell (i := 1) (by decide); have z1f := hbk2.fz 1; have zz := set_same w2 bb 1 _ _ (.bool false) hbk2 (bkCs_get _ _ _ _ (by decide)))
        try rw [zz]
        have hP2 := hPS.out _ hb2
        have hW2 : Hid (WR knInts 1 lo bb W turn deep seen f Zo Z1 fz1 r1 xs q.i (.slice qa q.n qc) q.n q.L w2) := ⟨by
          obtain ⟨r6, f6, hT6, hr6, hx6, hb6, hh6⟩ := hP2
          exact ⟨r6, f6, hT6, by rw [hr6 q.i hq8', hqr.out, eqv], fun k hk _ => hr6 k hk, hx6, hb6, hh6⟩⟩
        clear hP2 hPS hbY hsm z0 z1 z1b z1f zz hbk2 x3b hb2
        go_wp2
        go_loopw [9] (fun v wx => ∃ j : Nat, j ≤ q.n ∧ v = .int .i64 (j : Int) ∧ ∃ L' : List Value, knInts.good q.n L' ∧ WR knInts 1 lo bb W turn deep seen f Zo Z1 fz1 r1 xs q.i (.slice qa q.n qc) q.n L' wx) (fun v _ => q.n - (intOf v).toNat)
        case atStart => exact ⟨0, Nat.zero_le _, rfl, q.L, hqg.out, hW2.out⟩
        case round =>
          clear hW2
          obtain ⟨j, hj, rfl, L', hLl, hWR⟩ := hrel
          by_cases hjl : j < q.n
          · have hjl' : (j : Int) < (q.n : Int) := by omega
            have hj0 : (0 : Int) ≤ (j : Int) := by omega
            obtain ⟨qb, rfl⟩ : ∃ qb, qa = some ⟨qb, 0, none⟩ := by
              obtain ⟨r6, f6, hT6, h6, -⟩ := hWR
              have ho6 := hT6.sep.own q.i
              rw [h6] at ho6
              obtain ⟨-, ⟨e, h0⟩ | ⟨gg, cc, cur, e, -⟩⟩ := ho6
              · simp only at h0
                omega
              · simp only [Value.slice.injEq] at e
                exact ⟨gg, e.1⟩
            replace hLl := Hid.mk hLl
            obtain ⟨⟨u0, -, y0⟩, f0⟩ := hWR.cell (o := j) (by show j < q.n * 1; omega)
            have hln : Hid (L'.length = q.n * 1) := ⟨by
              obtain ⟨r6, f6, hT6, h6, -⟩ := hWR
              have := hT6.sep.own q.i
              rw [h6] at this
              exact this.1⟩
            have hwr : Hid (∀ x : Int, WR knInts 1 lo bb W turn deep seen f Zo Z1 fz1 r1 xs q.i (.slice (some ⟨qb, 0, none⟩) q.n qc) q.n (L'.set j (.int .i64 x)) (wr.setCell ⟨qb, j, none⟩ (.int .i64 x))) := ⟨fun x => hWR.write hlo hZ1.out hq8 j _⟩
            clear hWR
            go_wp2
            go_roundw
            case rel => exact ⟨j + 1, by omega, by first | rfl | go_num, _, goodInts_set hLl.out hln.out j _, hwr.out _⟩
            case measure => simp [intOf]; omega
          · have hjl' : ¬ (j : Int) < (q.n : Int) := by omega
            obtain ⟨r6, f6, hT6, h6i, h6r, hx6, hb6, hh6⟩ := hWR
            have hP1 : PS knInts 1 lo bb W turn deep seen f Zo Z1 fz1 r6 xs wr := ⟨r6, f6, hT6, fun _ _ => rfl, hx6, hb6, hh6⟩
            have hor := Hid.mk (fun X xs' (hX : PS knInts 1 lo bb W turn deep seen f Zo Z1 fz1 r6 xs' X) => by
              have := hX.own q.i hq8'
              rw [h6i] at this
              exact this)
            have hone : Hid (∀ u ∈ L', u.oneCell' = true) := ⟨hLl.1⟩
            have hLn : Hid (L'.length = q.n * 1) := ⟨by
              have := hT6.sep.own q.i
              rw [h6i] at this
              exact this.1⟩
            replace h6i := Hid.mk h6i
            replace h6r := Hid.mk h6r
            replace hLl := Hid.mk hLl
            clear hT6 hx6 hb6 hh6 hj hjl
            obtain ⟨a0, c0, kk, oo, hl1, nx1⟩ := hP1.push hlo hZ1.out (j := 0) (by decide)
            have k0 : wr.cell? ⟨bb, 13, none⟩ = some (.slice a0 (xs 0).length c0) := kk
            clear kk
            replace nx1 := Hid.mk nx1
            go_wp2_with (at_builtin; refine stopJ ?_)
            unfold StopJ
            refine wpList_app _ rfl _ _ 29 rfl lo 28 iS _ 1 24 Tryz.underlying29 hS5 hS0 hS1 hS2 rfl (by decide) (.slice a0 (xs 0).length c0) (xs 0).length (xs 0) rfl (oo.alloc _) ⟨wr.heap.size, 0, none⟩ 1 1 [.slice qa q.n qc] rfl rfl (cell_one_new wr _ _) (by simp [Value.oneCell']) (by have := hxl.out 0; unfold maxLen; omega) (by have := hxl.out 0; omega) (Nat.le_trans hl1 (by simp)) ?_
            intro v9 w9 ho9 hg9 hat9 _
            obtain ⟨va0, vc0, rfl⟩ := own_sl ho9
            obtain ⟨hP2, y0, y0f⟩ := nx1.out _ _ _ ho9 hg9 hat9
            replace y0 : w9.cell? ⟨bb, 13, none⟩ = some (.slice a0 (xs 0).length c0) := y0
            replace y0f : w9.frozen? ⟨bb, 13, none⟩ = false := y0f
            replace hP2 : PS knInts 1 lo bb W turn deep seen f Zo Z1 fz1 r6 (updX (xs) 0 (xs 0 ++ [.slice qa q.n qc])) (w9.setCell ⟨bb, 13, none⟩ (.slice va0 ((xs 0).length + 1) vc0)) := hP2
            clear ho9 hg9 hat9 k0 oo nx1 hP1
            replace hP2 := Hid.mk hP2
            go_upto_region 22 with fail
            clear y0 y0f
            generalize w9.setCell ⟨bb, 13, none⟩ (.slice va0 ((xs 0).length + 1) vc0) = WF at *
            replace hP2 := hP2.out
            obtain ⟨i9, -, hi8, hi9, hin⟩ := hff.out.free (k := 1) (by decide) q.i
            have hin6 : r6 i9 = nilRow := (h6r.out _ hi8 hi9).trans hin
            obtain ⟨a1, c1, kk, hlF, hX1, nx2⟩ := hP2.tell hlo hZ1.out (j := 1) (by decide) hi8 hin6
            rw [show (updX xs 0 (xs 0 ++ [.slice qa q.n qc])) 1 = xs 1 from rfl] at kk hX1 nx2
            have k1 : WF.cell? ⟨bb, 14, none⟩ = some (.slice a1 (xs 1).length c1) := kk
            have hX2 : Hid (∀ D, Below WF.heap.size WF D → D.cell? ⟨bb, 14, none⟩ = some (.slice a1 (xs 1).length c1) ∧ D.ownsRow lo 28 1 (.slice a1 (xs 1).length c1) (xs 1).length (xs 1)) := ⟨hX1⟩
            clear kk hX1 hin hin6
            replace nx2 := Hid.mk nx2
            have D5 : Below WF.heap.size WF WF.drew := (Below.refl _ _).drew
            have DA : Below WF.drew.heap.size WF.drew (WF.drew.alloc (.cells #[] 3)) := (Below.refl _ _).alloc (Nat.le_refl _) _
            have m1' : WF.drew.cell? ⟨bb, 14, none⟩ = some (.slice a1 (xs 1).length c1) := k1
            have mA := (hX2.out _ (below_step D5 DA)).1
            have mB : (WF.alloc (.cells #[] 3)).drew.cell? ⟨bb, 14, none⟩ = some (.slice a1 (xs 1).length c1) := mA
            have hoF := hor.out _ _ hP2
            try simp only at hoF
            go_cut [8] from 156 to 167 (fun x wx => x = .int .i64 q.m ∧ ∃ t Z', (∀ b, Z1 b → Z' b) ∧ PS knInts 1 lo bb W turn deep seen f Zo Z' ((t, q.n, L') :: fz1) r6 (updX (updX xs 0 (xs 0 ++ [.slice qa q.n qc])) 1 (xs 1 ++ [t])) wx)
            case first =>
              have hrw := RwZ.of_own hoF
              obtain ⟨-, ⟨e0, n0⟩ | ⟨gb, gc, cur, e0, -⟩⟩ := hoF
              · have h00 : Hid (q.n = 0) := ⟨n0⟩
                have hL0 : Hid (L' = []) := ⟨List.length_eq_zero_iff.1 (by have := hLn.out; have h0 : q.n = 0 := n0; rw [h0] at this; simpa using this)⟩
                simp only [Value.slice.injEq] at e0
                obtain ⟨rfl, -, rfl⟩ := e0
                have B8 := below_step D5 DA
                have A8 : Below (WF.drew.alloc (.cells #[] 3)).heap.size (WF.drew.alloc (.cells #[] 3)) ((WF.drew.alloc (.cells #[] 3)).alloc (.cells #[.slice (some ⟨WF.heap.size, 0, none⟩) 0 0] 28)) := (Below.refl _ _).alloc (Nat.le_refl _) _
                have B9 := below_step B8 A8
                have m9 := (hX2.out _ B9).1
                have hoS := (hX2.out _ B9).2
                have hov8 : Hid ((WF.drew.alloc (.cells #[] 3)).ownsRow WF.heap.size 3 1 (.slice (some ⟨WF.heap.size, 0, none⟩) 0 0) q.n L') := ⟨by rw [hL0.out, h00.out]; exact empty_own WF.drew _ 1⟩
                have m9n : ((WF.alloc (.cells #[] 3)).alloc (.cells #[.slice (some ⟨WF.heap.size, 0, none⟩) 0 0] 28)).drew.cell? ⟨bb, 14, none⟩ = some (.slice a1 (xs 1).length c1) := m9
                have hnw : Hid (∀ j u, [Value.slice (some ⟨WF.heap.size, 0, none⟩) 0 0][j]? = some u → ((WF.alloc (.cells #[] 3)).alloc (.cells #[.slice (some ⟨WF.heap.size, 0, none⟩) 0 0] 28)).drew.cell? ((⟨WF.heap.size + 1, 0, none⟩ : Addr).add j) = some u) := ⟨by
                  have e9 : (WF.drew.alloc (.cells #[] 3)).heap.size = WF.heap.size + 1 := by simp
                  have h9 := cell_one_new (WF.drew.alloc (.cells #[] 3)) (.slice (some ⟨WF.heap.size, 0, none⟩) 0 0) 28
                  rw [e9] at h9
                  exact h9⟩
                clear n0 hrw
                go_region_law (first | (refine step_none (P := Tryz.prog) _ rfl _ _ 28 rfl WF.drew.heap.size 3 iT 1 Tryz.underlying28 hT5 _ 0 [] rfl (empty_own WF.drew _ 1) (congrArg (fun n => Value.slice none n 0) h00.out) ?_) | (refine step_app (P := Tryz.prog) _ rfl _ _ 29 rfl lo 28 iS _ 1 24 Tryz.underlying29 hS5 hS0 hS1 hS2 rfl (by decide) (.slice a1 (xs 1).length c1) (xs 1).length (xs 1) rfl hoS ⟨WF.heap.size + 1, 0, none⟩ 1 1 [.slice (some ⟨WF.heap.size, 0, none⟩) 0 0] rfl rfl hnw.out (by simp [Value.oneCell']) (by have := hxl.out 1; unfold maxLen; omega) (by have := hxl.out 1; omega) (Nat.le_trans hlF B9.size) ?_; intro vt wt hot hgt hatt _; obtain ⟨pt, ct, rfl⟩ := own_sl hot; obtain ⟨hPn, y0, y0f⟩ := nx2.out _ _ _ _ _ _ B8 hov8.out hot hgt hatt; replace y0 : wt.cell? ⟨bb, 14, none⟩ = some (.slice a1 (xs 1).length c1) := y0; replace y0f : wt.frozen? ⟨bb, 14, none⟩ = false := y0f; replace hPn := Hid.mk hPn))
                all_goals (refine Met.intro ?_; go_step; go_meet)
                all_goals exact ⟨rfl, _, hPn.out⟩
              · simp only [Value.slice.injEq] at e0
                obtain ⟨rfl, -, rfl⟩ := e0
                obtain ⟨za, zc, ez, hz⟩ := hrw
                have hsrc : Hid (∀ j u, L'[j]? = some u → (WF.drew.alloc (.cells #[] 3)).cell? ((⟨gb, 0, none⟩ : Addr).add j) = some u) := ⟨fun j u hu => by
                  rw [show ((⟨gb, 0, none⟩ : Addr).add j) = ⟨gb, j, none⟩ by cases j <;> simp [Addr.add]]
                  rcases hz with hz | ⟨b, eb, -, hbl, hbc⟩
                  · have hl0 := hLn.out
                    rw [hz, Nat.zero_mul] at hl0
                    rw [List.length_eq_zero_iff.1 hl0] at hu
                    simp at hu
                  · simp only [Value.slice.injEq] at ez
                    obtain ⟨rfl, -, -⟩ := ez
                    simp only [Option.some.injEq, Addr.mk.injEq] at eb
                    obtain ⟨rfl, -⟩ := eb
                    exact ((below_step D5 DA).cell (p := ⟨gb, j, none⟩) hbl).trans (hbc j u hu)⟩
                clear hz ez
                go_region_law (first | (refine step_app (P := Tryz.prog) _ rfl _ _ 28 rfl WF.drew.heap.size 3 iT _ 1 8 Tryz.underlying28 hT5 hT0 hT1 hT2 rfl (by decide) _ 0 [] rfl (empty_own WF.drew _ 1) ⟨gb, 0, none⟩ q.n _ L' rfl hLn.out hsrc.out hone.out (by unfold maxLen; omega) (by omega) DA.size ?_; intro v8 w8 ho8 hg8 _ _; obtain ⟨hov8, hb8⟩ := copied_own ho8 hg8; rw [Nat.zero_add] at ho8; obtain ⟨p8, c8, rfl⟩ := own_sl ho8; have B8 := below_step D5 hb8; have m8 := (hX2.out _ B8).1; have A8 : Below w8.heap.size w8 (w8.alloc (.cells #[.slice p8 q.n c8] 28)) := (Below.refl _ _).alloc (Nat.le_refl _) _; have B9 := below_step B8 A8; have m9 := (hX2.out _ B9).1; have hoS := (hX2.out _ B9).2; replace hov8 := Hid.mk hov8; clear ho8 hg8) | (refine step_app (P := Tryz.prog) _ rfl _ _ 29 rfl lo 28 iS _ 1 24 Tryz.underlying29 hS5 hS0 hS1 hS2 rfl (by decide) (.slice a1 (xs 1).length c1) (xs 1).length (xs 1) rfl hoS ⟨w8.heap.size, 0, none⟩ 1 1 [.slice p8 q.n c8] rfl rfl (cell_one_new w8 _ _) (by simp [Value.oneCell']) (by have := hxl.out 1; unfold maxLen; omega) (by have := hxl.out 1; omega) (Nat.le_trans hlF B9.size) ?_; intro vt wt hot hgt hatt _; obtain ⟨pt, ct, rfl⟩ := own_sl hot; obtain ⟨hPn, y0, y0f⟩ := nx2.out _ _ _ _ _ _ B8 hov8.out hot hgt hatt; replace y0 : wt.cell? ⟨bb, 14, none⟩ = some (.slice a1 (xs 1).length c1) := y0; replace y0f : wt.frozen? ⟨bb, 14, none⟩ = false := y0f; replace hPn := Hid.mk hPn))
                all_goals (refine Met.intro ?_; go_step; go_meet)
                all_goals exact ⟨rfl, _, hPn.out⟩
            case rest =>
              obtain ⟨rfl, t, Z2, hZ2, hP3⟩ := hcut
              clear hP2 nx2 hX2 k1 m1' mA mB hoF D5 DA hlF
              have hZ2o : Hid (∀ b, Zo b → Z2 b) := ⟨fun b hb => hZ2 b (hZ1.out b hb)⟩
              clear hZ2
              obtain ⟨a4, c4, kk, oo, hl3, nx3⟩ := hP3.push hlo hZ2o.out (j := 4) (by decide)
              rw [show (updX (updX (xs) 0 (xs 0 ++ [.slice qa q.n qc])) 1 (xs 1 ++ [t])) 4 = xs 4 from rfl] at kk oo nx3
              have k4 : wc.cell? ⟨bb, 17, none⟩ = some (.slice a4 (xs 4).length c4) := kk
              clear kk
              replace nx3 := Hid.mk nx3
              go_wp2_with (at_builtin; refine stopJ ?_)
              unfold StopJ
              refine wpList_app _ rfl _ _ 29 rfl lo 28 iS _ 1 24 Tryz.underlying29 hS5 hS0 hS1 hS2 rfl (by decide) (.slice a4 (xs 4).length c4) (xs 4).length (xs 4) rfl (oo.alloc _) ⟨wc.heap.size, 0, none⟩ 1 1 [.slice qa q.n qc] rfl rfl (cell_one_new wc _ _) (by simp [Value.oneCell']) (by have := hxl.out 4; unfold maxLen; omega) (by have := hxl.out 4; omega) (Nat.le_trans hl3 (by simp)) ?_
              intro v9 w9 ho9 hg9 hat9 _
              obtain ⟨va4, vc4, rfl⟩ := own_sl ho9
              obtain ⟨hP4, y0, y0f⟩ := nx3.out _ _ _ ho9 hg9 hat9
              replace y0 : w9.cell? ⟨bb, 17, none⟩ = some (.slice a4 (xs 4).length c4) := y0
              replace y0f : w9.frozen? ⟨bb, 17, none⟩ = false := y0f
              replace hP4 : PS knInts 1 lo bb W turn deep seen f Zo Z2 ((t, q.n, L') :: fz1) r6 (updX (updX (updX (xs) 0 (xs 0 ++ [.slice qa q.n qc])) 1 (xs 1 ++ [t])) 4 (xs 4 ++ [.slice qa q.n qc])) (w9.setCell ⟨bb, 17, none⟩ (.slice va4 ((xs 4).length + 1) vc4)) := hP4
              clear ho9 hg9 hat9 k4 oo nx3 hP3
              replace hP4 := Hid.mk hP4
              go_upto_region 24 with fail
              clear y0 y0f
              generalize w9.setCell ⟨bb, 17, none⟩ (.slice va4 ((xs 4).length + 1) vc4) = WG at *
              replace hP4 := hP4.out
              obtain ⟨a7, c7, kk, oo, hl4, nx4⟩ := hP4.push hlo hZ2o.out (j := 7) (by decide)
              rw [show (updX (updX (updX (xs) 0 (xs 0 ++ [.slice qa q.n qc])) 1 (xs 1 ++ [t])) 4 (xs 4 ++ [.slice qa q.n qc])) 7 = xs 7 from rfl] at kk oo nx4
              have k7 : WG.cell? ⟨bb, 20, none⟩ = some (.slice a7 (xs 7).length c7) := kk
              clear kk
              replace nx4 := Hid.mk nx4
              go_wp2_with (at_builtin; refine stopJ ?_)
              unfold StopJ
              refine wpList_app _ rfl _ _ 28 rfl lo 3 iI _ 1 8 Tryz.underlying28 hI5 hI0 hI1 hI2 rfl (by decide) (.slice a7 (xs 7).length c7) (xs 7).length (xs 7) rfl (oo.alloc _) ⟨WG.heap.size, 0, none⟩ 1 1 [.int .i64 q.m] rfl rfl (cell_one_new WG _ _) (by simp [Value.oneCell']) (by have := hxl.out 7; unfold maxLen; omega) (by have := hxl.out 7; omega) (Nat.le_trans hl4 (by simp)) ?_
              intro v9 w9 ho9 hg9 hat9 _
              obtain ⟨va7, vc7, rfl⟩ := own_sl ho9
              obtain ⟨hP5, y0, y0f⟩ := nx4.out _ _ _ ho9 hg9 hat9
              replace y0 : w9.cell? ⟨bb, 20, none⟩ = some (.slice a7 (xs 7).length c7) := y0
              replace y0f : w9.frozen? ⟨bb, 20, none⟩ = false := y0f
              replace hP5 : PS knInts 1 lo bb W turn deep seen f Zo Z2 ((t, q.n, L') :: fz1) r6 (updX (updX (updX (updX (xs) 0 (xs 0 ++ [.slice qa q.n qc])) 1 (xs 1 ++ [t])) 4 (xs 4 ++ [.slice qa q.n qc])) 7 (xs 7 ++ [.int .i64 q.m])) (w9.setCell ⟨bb, 20, none⟩ (.slice va7 ((xs 7).length + 1) vc7)) := hP5
              clear ho9 hg9 hat9 k7 oo nx4 hP4
              replace hP5 := Hid.mk hP5
              go_wp2
              clear y0 y0f
              generalize w9.setCell ⟨bb, 20, none⟩ (.slice va7 ((xs 7).length + 1) vc7) = WH at *
              replace hP5 := hP5.out
              have hnx : Hid (MkE knInts 1 lo bb W turn deep seen Zo fz f r O.length Q (k + 1) WH) := ⟨hRd.out.marked hdr.out hqm.out hxs.out hZ2o.out (by rw [eqv]; exact h6i.out) h6r.out hLl.out (by rw [eqv]; exact hP5)⟩
              clear hP5
              go_roundw
              case rel => exact ⟨k + 1, by omega, by first | rfl | go_num, hnx.out⟩
              case measure => simp [intOf]; omega
    · have hlt' : ¬ (k : Int) < (Q.length : Int) := by omega
      obtain rfl : k = Q.length := by omega
      have hfin : Hid (∃ Zo, MkE knInts 1 lo bb W turn deep seen Zo fz f r O.length Q Q.length wr) := ⟨Zo, Z1, r1, fz1, f1, O1, Q1, A1, hRd⟩
      clear hRd
      go_wp2
      go_end0
      exact ⟨rfl, hfin.out⟩
end Go.Proofs.YthmjkmdbggfiiaaGreatDoor.KB
