import Derived.Test.YthmjkmdbggfiiaaGreatDoorKcTextsS
import Derived.Deep.RegionHeldLaw
import Derived.Deep.RegionLaw
/- holdTexts. -/
namespace Go.Proofs.YthmjkmdbggfiiaaGreatDoor.KB
open Go.RowKit
set_option linter.constructorNameAsVariable false

set_option maxRecDepth 4000 in
set_option maxHeartbeats 1000000 in
theorem holdTexts_any {W : World} {lo bb : Nat} {Z : Nat → Prop} {r : Nat → Row} {fz : List (Value × Nat × List Value)} {turn deep : Int} {f : Nat → Nat → Value} {seen : Nat → Int} {O : List Ot} {Q : List Wt} (h : TkL knTexts 4 W lo bb Z r fz turn deep f seen (xsOf O Q [])) (hC : Cnd knTexts r fz O Q [] []) (hO : O.length ≤ 1000000) (hQ : Q.length ≤ 1000000) :
    Calls Tryz.prog 28 #[.pointer (some ⟨bb, 0, none⟩)] W fun e w' => e = .returned (.bool true) ∧ Below W.heap.size W w' := by
  obtain ⟨a0, c0, e0, k0, o0, -⟩ := h.own (j := 0) (by decide)
  obtain ⟨a1, c1, e1, k1, o1, -⟩ := h.own (j := 1) (by decide)
  obtain ⟨a2, c2, e2, k2, o2, -⟩ := h.own (j := 2) (by decide)
  obtain ⟨a3, c3, e3, k3, o3, -⟩ := h.own (j := 3) (by decide)
  have l0 : (xsOf O Q [] 0).length = O.length := by simp [xsOf]
  have l1 : (xsOf O Q [] 1).length = O.length := by simp [xsOf]
  have l2 : (xsOf O Q [] 2).length = Q.length := by simp [xsOf]
  have l3 : (xsOf O Q [] 3).length = Q.length := by simp [xsOf]
  rw [l0] at k0 o0
  rw [l1] at k1 o1
  rw [l2] at k2 o2
  rw [l3] at k3 o3
  have hlbb : bb < W.heap.size := h.sep.bl.2
  have hK := Hid.mk (fun X (hX : Below W.heap.size W X) => (show X.cell? ⟨bb, 40, none⟩ = some (.slice a0 O.length c0) ∧ X.cell? ⟨bb, 41, none⟩ = some (.slice a1 O.length c1) ∧ X.cell? ⟨bb, 42, none⟩ = some (.slice a2 Q.length c2) ∧ X.cell? ⟨bb, 43, none⟩ = some (.slice a3 Q.length c3) from ⟨(hX.cell (p := ⟨bb, 40, none⟩) hlbb).trans k0, (hX.cell (p := ⟨bb, 41, none⟩) hlbb).trans k1, (hX.cell (p := ⟨bb, 42, none⟩) hlbb).trans k2, (hX.cell (p := ⟨bb, 43, none⟩) hlbb).trans k3⟩))
  obtain ⟨a0, c0, q0, h0⟩ := own_len o0
  obtain ⟨a1, c1, q1, h1⟩ := own_len o1
  obtain ⟨a2, c2, q2, h2⟩ := own_len o2
  obtain ⟨a3, c3, q3, h3⟩ := own_len o3
  simp only [Value.slice.injEq] at q0 q1 q2 q3
  obtain ⟨rfl, -, rfl⟩ := q0
  obtain ⟨rfl, -, rfl⟩ := q1
  obtain ⟨rfl, -, rfl⟩ := q2
  obtain ⟨rfl, -, rfl⟩ := q3
  clear o0 o1 o2 o3 e0 e1 e2 e3 k0 k1 k2 k3 l0 l1 l2 l3
  go_enter Tryz.func28, Tryz.ntmps28
  go_wp2
  go_loopw [3] (fun v wr => ∃ i : Nat, i ≤ O.length ∧ v = .int .i64 (i : Int) ∧ Below W.heap.size W wr) (fun v _ => O.length - (intOf v).toNat)
  case atStart => exact ⟨0, Nat.zero_le _, rfl, Below.refl _ _⟩
  case round =>
    obtain ⟨i, hi, rfl, hb⟩ := hrel
    obtain ⟨k0, k1, k2, k3⟩ := hK.out _ hb
    by_cases hlt : i < O.length
    · have hlt' : (i : Int) < (O.length : Int) := by omega
      have hi0 : (0 : Int) ≤ (i : Int) := by omega
      obtain ⟨g0, rfl, l0, q0⟩ := h0 (by omega)
      obtain ⟨g1, rfl, l1, q1⟩ := h1 (by omega)
      have hq0 : (xsOf O Q [] 0)[i]? = some O[i].v := by simp [xsOf, hlt]
      have hq1 : (xsOf O Q [] 1)[i]? = some O[i].t := by simp [xsOf, hlt]
      have hmem : O[i] ∈ O := List.getElem_mem hlt
      have hcO := hC.cO _ hmem
      have hc1 : (O[i].v, O[i].n, O[i].L) ∈ fz := hcO.1.resolve_right (fun ⟨b, hb, _⟩ => by cases hb)
      have hS := Hid.mk (fun X (hX : Below W.heap.size W X) => sameTexts_any O[i].v O[i].t O[i].n O[i].L (hC.lO _ hmem).2 (Nat.le_trans (hC.lO _ hmem).1 (by decide)) X ((h.later hX).sep.fz _ hc1) ((h.later hX).sep.fz _ hcO.2))
      have hcO2 := hcO.2
      clear hcO
      generalize O[i] = o at *
      have bd : Below W.heap.size W wr.drew := hb.drew
      obtain ⟨va, ca, hva, -⟩ := (h.later hb).sep.fz _ hc1
      obtain ⟨vb, cb, hvb, -⟩ := (h.later hb).sep.fz _ hcO2
      simp only at hva hvb
      rw [hva] at hS
      rw [hvb] at hS
      have hKx := Hid.mk (fun X (hX : Below W.heap.size W X) => (show _ ∧ _ ∧ _ ∧ _ from ⟨(hK.out _ hX).1, (hK.out _ hX).2.1, (hX.cell (p := ⟨g0, i, none⟩) l0).trans ((q0 i o.v (by omega) (hq0)).trans (congrArg some hva)), (hX.cell (p := ⟨g1, i, none⟩) l1).trans ((q1 i o.t (by omega) (hq1)).trans (congrArg some hvb))⟩))
      have S0 := hKx.out _ bd
      clear h0 h1 h2 h3 q0 q1 hva hvb hq0 hq1 k2 k3
      go_upto_region 4 with fail
      go_region_held3 (fun X => X.cell? ⟨bb, 40, none⟩ = some (.slice (some ⟨g0, 0, none⟩) O.length c0) ∧ X.cell? ⟨bb, 41, none⟩ = some (.slice (some ⟨g1, 0, none⟩) O.length c1) ∧ X.cell? ⟨g0, i, none⟩ = some (.slice va o.n ca) ∧ X.cell? ⟨g1, i, none⟩ = some (.slice vb o.n cb)) (with_reducible assumption) ((go_at_call 64; refine (hS.out _ bd).mono ?_; rintro e w2 ⟨rfl, hb2⟩; have b2 := below_step bd hb2; have S2 := hKx.out _ b2))
      clear S0 S2 hKx
      go_wp2
      go_roundw
      case rel => exact ⟨i + 1, by omega, by first | rfl | go_num, b2⟩
      case measure => simp [intOf]; omega
    · have hlt' : ¬ (i : Int) < (O.length : Int) := by omega
      clear hlt hi
      go_wp2
      go_loopw [4] (fun v wx => ∃ i : Nat, i ≤ Q.length ∧ v = .int .i64 (i : Int) ∧ Below W.heap.size W wx) (fun v _ => Q.length - (intOf v).toNat)
      case atStart => exact ⟨0, Nat.zero_le _, rfl, hb⟩
      case round =>
        clear k0 k1 k2 k3 hb
        obtain ⟨i, hi, rfl, hb⟩ := hrel
        obtain ⟨k0, k1, k2, k3⟩ := hK.out _ hb
        by_cases hlt : i < Q.length
        · have hlt' : (i : Int) < (Q.length : Int) := by omega
          have hi0 : (0 : Int) ≤ (i : Int) := by omega
          obtain ⟨g0, rfl, l0, q0⟩ := h2 (by omega)
          obtain ⟨g1, rfl, l1, q1⟩ := h3 (by omega)
          have hq0 : (xsOf O Q [] 2)[i]? = some Q[i].v := by simp [xsOf, hlt]
          have hq1 : (xsOf O Q [] 3)[i]? = some Q[i].c := by simp [xsOf, hlt]
          have hmem : Q[i] ∈ Q := List.getElem_mem hlt
          generalize Q[i] = o at *
          have hown : ∀ X, Below W.heap.size W X → RwZ X (fun b => o.v.ownBlock = some b) o.v o.n o.L := fun X hX => by
            have := (h.later hX).sep.own o.i
            rw [(hC.cQ _ hmem).2.1] at this
            exact RwZ.of_own this
          have hS := Hid.mk (fun X (hX : Below W.heap.size W X) => sameTexts_any o.v o.c o.n o.L (hC.lQ _ hmem).2 (Nat.le_trans (hC.lQ _ hmem).1 (by decide)) X (hown X hX) ((h.later hX).sep.fz _ (hC.cQ _ hmem).2.2))
          have bd : Below W.heap.size W wr.drew := hb.drew
          obtain ⟨va, ca, hva, -⟩ := hown _ hb
          obtain ⟨vb, cb, hvb, -⟩ := (h.later hb).sep.fz _ (hC.cQ _ hmem).2.2
          simp only at hva hvb
          rw [hva] at hS
          rw [hvb] at hS
          have hKx := Hid.mk (fun X (hX : Below W.heap.size W X) => (show _ ∧ _ ∧ _ ∧ _ from ⟨(hK.out _ hX).2.2.1, (hK.out _ hX).2.2.2, (hX.cell (p := ⟨g0, i, none⟩) l0).trans ((q0 i o.v (by omega) (hq0)).trans (congrArg some hva)), (hX.cell (p := ⟨g1, i, none⟩) l1).trans ((q1 i o.c (by omega) (hq1)).trans (congrArg some hvb))⟩))
          have S0 := hKx.out _ bd
          clear h0 h1 h2 h3 q0 q1 hva hvb hq0 hq1 k0 k1 hown
          go_upto_region 9 with fail
          go_region_held3 (fun X => X.cell? ⟨bb, 42, none⟩ = some (.slice (some ⟨g0, 0, none⟩) Q.length c2) ∧ X.cell? ⟨bb, 43, none⟩ = some (.slice (some ⟨g1, 0, none⟩) Q.length c3) ∧ X.cell? ⟨g0, i, none⟩ = some (.slice va o.n ca) ∧ X.cell? ⟨g1, i, none⟩ = some (.slice vb o.n cb)) (with_reducible assumption) ((go_at_call 64; refine (hS.out _ bd).mono ?_; rintro e w2 ⟨rfl, hb2⟩; have b2 := below_step bd hb2; have S2 := hKx.out _ b2))
          clear S0 S2 hKx
          go_wp2
          go_roundw
          case rel => exact ⟨i + 1, by omega, by first | rfl | go_num, b2⟩
          case measure => simp [intOf]; omega
        · have hlt' : ¬ (i : Int) < (Q.length : Int) := by omega
          go_wp2
          go_ret
          exact ⟨rfl, hb⟩
end Go.Proofs.YthmjkmdbggfiiaaGreatDoor.KB


/- growTexts. -/
namespace Go.Proofs.YthmjkmdbggfiiaaGreatDoor.KB
open Go.RowKit
set_option linter.constructorNameAsVariable false

set_option maxRecDepth 8000 in
set_option maxHeartbeats 2000000 in
theorem growTexts_any {W : World} {lo bb : Nat} {Z : Nat → Prop} {r : Nat → Row} {fz : List (Value × Nat × List Value)} {turn deep : Int} {f : Nat → Nat → Value} {seen : Nat → Int} {O : List Ot} {Q : List Wt} {A : List Fr} (hL : TkL knTexts 4 W lo bb Z r fz turn deep f seen (xsOf O Q A)) (hC : Cnd knTexts r fz O Q A []) (hfin : Fin r) (hlo : lo ≤ W.heap.size) (hA : A.length ≤ 1000) (hO : O.length ≤ 1000) (hTab : ∀ X, Below lo W X → Go.Lib.TabIs Tryz.prog X "internal/strconv.uint64pow10" .u64 Go.Lib.pow10Tab) :
    Calls Tryz.prog 119 #[.pointer (some ⟨bb, 0, none⟩)] W fun e X => e = .returned (.tuple #[]) ∧ GwD knTexts 4 lo bb W turn deep seen fz f r O.length Q A X := by
  have hI : Hid (GwE knTexts 4 lo bb W turn deep seen fz f r O.length Q A 0 W) := ⟨GwE.start hL hC hfin⟩
  replace hTab := Hid.mk hTab
  clear hL hC hfin
  obtain ⟨iS, hS5, hS0, hS1, hS2⟩ := info_parts infoTextss
  obtain ⟨iT, hT5, hT0, hT1, hT2⟩ := info_parts infoTexts
  go_enter Tryz.func119, Tryz.ntmps119
  go_wp2
  go_loopw [2] (fun v wr => ∃ k : Nat, k ≤ A.length ∧ v = .int .i64 (k : Int) ∧ GwE knTexts 4 lo bb W turn deep seen fz f r O.length Q A k wr) (fun v _ => A.length - (intOf v).toNat)
  case atStart => exact ⟨0, Nat.zero_le _, rfl, hI.out⟩
  case round =>
    clear hI
    obtain ⟨k, hk, rfl, Z', r', fz', f', O', hG⟩ := hrel
    have hO'l : O'.length ≤ 3000 := by have := hG.ol; omega
    obtain ⟨a4, c4, e4, k4, o4, f4⟩ := hG.t.own (j := 4) (by decide)
    obtain ⟨a7, c7, e7, k7, o7, f7⟩ := hG.t.own (j := 7) (by decide)
    have l4 : (xsOf O' Q A 4).length = A.length := by simp [xsOf]
    have l7 : (xsOf O' Q A 7).length = A.length := by simp [xsOf, intV]
    rw [l4] at e4 k4 o4
    rw [l7] at e7 k7 o7
    replace k4 : wr.cell? ⟨bb, 44, none⟩ = some (.slice a4 A.length c4) := k4
    replace k7 : wr.cell? ⟨bb, 47, none⟩ = some (.slice a7 A.length c7) := k7
    replace f4 : wr.frozen? ⟨bb, 44, none⟩ = false := f4
    replace f7 : wr.frozen? ⟨bb, 47, none⟩ = false := f7
    obtain ⟨b4, d4, q4, h4⟩ := own_len o4
    obtain ⟨b7, d7, q7, h7⟩ := own_len o7
    simp only [Value.slice.injEq] at q4 q7
    obtain ⟨rfl, -, rfl⟩ := q4
    obtain ⟨rfl, -, rfl⟩ := q7
    clear l4 l7 e4 e7 o4 o7
    by_cases hlt : k < A.length
    · have hlt' : (k : Int) < (A.length : Int) := by omega
      have hk0 : (0 : Int) ≤ (k : Int) := by omega
      have hdr : A.drop k = A[k] :: A.drop (k + 1) := List.drop_eq_getElem_cons hlt
      have ham : A[k] ∈ A := List.getElem_mem hlt
      obtain ⟨g4, rfl, l4, q4⟩ := h4 (by omega)
      obtain ⟨g7, rfl, l7, q7⟩ := h7 (by omega)
      have x4 := q4 k A[k].v (by omega) (by simp [xsOf, hlt])
      have x7 := q7 k (.int .i64 A[k].m) (by omega) (by simp [xsOf, intV, hlt])
      generalize A[k] = a at *
      have hCa := hG.c
      rw [hdr] at hCa
      obtain ⟨ha8, har⟩ := hCa.cA a (List.mem_cons_self ..)
      have hal := (hCa.lA a (List.mem_cons_self ..)).1
      have hao : Out 4 a.i := out_big (by decide) ha8
      obtain ⟨xs, hxs⟩ : ∃ xs, xsOf O' Q A = xs := ⟨_, rfl⟩
      have hE : Hid (LaE knTexts 4 lo bb W turn deep seen f Z' r' fz' a xs 0 a.v wr) := ⟨by rw [← hxs]; exact hG.la hdr⟩
      obtain ⟨va, vc, hva⟩ := own_sl (by have := hG.t.sep.own a.i; rw [har] at this; exact this)
      simp only at hva
      rw [hva] at x4 hE
      have hlow : lo ≤ wr.heap.size := Nat.le_trans hlo hG.lo.size
      have hff := Hid.mk hG.fin
      have hxl : Hid (∀ j, (xs j).length ≤ 5000 ∨ 1 < j) := ⟨fun j => by
        rw [← hxs]
        match j with
        | 0 => simp [xsOf]; omega
        | 1 => simp [xsOf]; omega
        | j + 2 => exact .inr (by omega)⟩
      replace hxs := Hid.mk hxs
      have hGh := Hid.mk hG
      replace hdr := Hid.mk hdr
      replace ham := Hid.mk ham
      clear h4 h7 q4 q7 hG hCa f4 f7 har
      go_wp2
      go_loopw [5, 4] (fun v g wx => ∃ j : Nat, j ≤ 30 ∧ v = .int .i64 (j : Int) ∧ (∃ ga gc, g = .slice ga (a.n + j) gc) ∧ LaE knTexts 4 lo bb W turn deep seen f Z' r' fz' a xs j g wx) (fun v _ _ => 30 - (intOf v).toNat)
      case atStart => exact ⟨0, by decide, rfl, ⟨va, vc, rfl⟩, hE.out⟩
      case round =>
        clear hE x4 x7 k4 k7
        obtain ⟨j, hj, rfl, ⟨ga, gc, rfl⟩, Z2, r2, fz2, f2, M, hL⟩ := hrel
        by_cases hj30 : j < 30
        · have hj30' : (j : Int) < 30 := by omega
          have hown := hL.l.sep.own a.i
          rw [hL.l.row] at hown
          simp only at hown
          have hlx : lo ≤ wr.heap.size := Nat.le_trans hlo hL.lo.size
          have hln : Hid ((a.L ++ M).length = (a.n + j) * 1) := ⟨hown.1⟩
          have htx := Hid.mk (fun y : Int => text_any (wrap64 y) (wrap64_range y).1 (wrap64_range y).2 wr (hTab.out wr hL.lo))
          have hLh := Hid.mk hL
          go_wp2_with (first | (go_at_call 139; refine (htx.out _).mono ?_; rintro e w3 ⟨sx, rfl, hb3⟩) | (at_builtin; refine stopJ ?_))
          unfold StopJ
          have hAl : Below wr.heap.size wr (w3.alloc (.cells #[.string sx] 9)) := hb3.alloc hb3.size _
          have hownA : (w3.alloc (.cells #[.string sx] 9)).ownsRow lo 9 1 (.slice ga (a.n + j) gc) (a.n + j) (a.L ++ M) := by
            have := (hLh.out.l.later hb3).sep.own a.i
            rw [hLh.out.l.row] at this
            exact this.alloc _
          refine wpList_app _ rfl _ _ 55 rfl lo 9 iT _ 1 16 Tryz.underlying55 hT5 hT0 hT1 hT2 rfl (by decide) _ (a.n + j) (a.L ++ M) rfl hownA ⟨w3.heap.size, 0, none⟩ 1 1 [.string sx] rfl rfl (cell_one_new w3 _ _) (by simp [Value.oneCell']) (by unfold maxLen; omega) (by omega) (Nat.le_trans hlx hAl.size) ?_
          intro g' w9 ho9 hg9 hat9 hkp9
          obtain ⟨ga9, gc9, rfl⟩ := own_sl ho9
          clear htx hLh
          have hnx : Hid (LaE knTexts 4 lo bb W turn deep seen f Z' r' fz' a xs (j + 1) (.slice ga9 (a.n + (j + 1)) gc9) w9) := ⟨hL.one hlo ha8 hAl ho9 hg9 hat9 hkp9 (goodTexts_snoc hL.gd hln.out sx)⟩
          clear hL hown hownA ho9 hg9 hat9 hkp9
          go_wp2
          go_roundw
          case rel => exact ⟨j + 1, by omega, by first | rfl | go_num, ⟨ga9, gc9, rfl⟩, hnx.out⟩
          case measure => simp [intOf]; omega
        · obtain rfl : j = 30 := by omega
          clear hj hj30
          obtain ⟨Z3, hP1⟩ := hL.done ha8
          have hgd := Hid.mk hL.gd
          have hzz := Hid.mk hL.ff
          have hlg : Hid ((a.L ++ M).length = (a.n + 30) * 1) := ⟨by
            have := hL.l.sep.own a.i
            rw [hL.l.row] at this
            exact this.1⟩
          clear hL
          obtain ⟨a0, c0, kk, oo, hl1, nx1⟩ := hP1.push hlo (fun _ h => h.elim) (j := 0) (by decide)
          have k0 : wr.cell? ⟨bb, 40, none⟩ = some (.slice a0 (xs 0).length c0) := kk
          clear kk
          replace nx1 := Hid.mk nx1
          have h5a := (hxl.out 0).resolve_right (by decide)
          have h5b := (hxl.out 1).resolve_right (by decide)
          go_wp2_with (at_builtin; refine stopJ ?_)
          unfold StopJ
          refine wpList_app _ rfl _ _ 32 rfl lo 55 iS _ 1 24 Tryz.underlying32 hS5 hS0 hS1 hS2 rfl (by decide) (.slice a0 (xs 0).length c0) (xs 0).length (xs 0) rfl (oo.alloc _) ⟨wr.heap.size, 0, none⟩ 1 1 [.slice ga (a.n + 30) gc] rfl rfl (cell_one_new wr _ _) (by simp [Value.oneCell']) (by unfold maxLen; omega) (by omega) (Nat.le_trans hl1 (by simp)) ?_
          intro v9 w9 ho9 hg9 hat9 _
          obtain ⟨va0, vc0, rfl⟩ := own_sl ho9
          obtain ⟨hP2, y0, y0f⟩ := nx1.out _ _ _ ho9 hg9 hat9
          replace y0 : w9.cell? ⟨bb, 40, none⟩ = some (.slice a0 (xs 0).length c0) := y0
          replace y0f : w9.frozen? ⟨bb, 40, none⟩ = false := y0f
          replace hP2 : PS knTexts 4 lo bb W turn deep seen f (fun _ => False) Z3 ((.slice ga (a.n + 30) gc, a.n + 30, a.L ++ M) :: (a.v, a.n, a.L) :: fz2) (updR r' a.i nilRow) (updX (xs) 0 (xs 0 ++ [.slice ga (a.n + 30) gc])) (w9.setCell ⟨bb, 40, none⟩ (.slice va0 ((xs 0).length + 1) vc0)) := hP2
          clear ho9 hg9 hat9 k0 oo nx1 hP1
          replace hP2 := Hid.mk hP2
          go_upto_region 10 with fail
          clear y0 y0f
          generalize w9.setCell ⟨bb, 40, none⟩ (.slice va0 ((xs 0).length + 1) vc0) = WF at *
          replace hP2 := hP2.out
          obtain ⟨i9, -, hi8, hi9, hin⟩ := hff.out.free (k := 4) (by decide) a.i
          obtain ⟨a1, c1, kk, hlF, hX1, nx2⟩ := hP2.tell hlo (fun _ h => h.elim) (j := 1) (by decide) hi8 ((updR_ne _ _ hi9).trans hin)
          rw [show (updX xs 0 (xs 0 ++ [.slice ga (a.n + 30) gc])) 1 = xs 1 from rfl] at kk hX1 nx2
          have k1 : WF.cell? ⟨bb, 41, none⟩ = some (.slice a1 (xs 1).length c1) := kk
          have hX2 : Hid (∀ D, Below WF.heap.size WF D → D.cell? ⟨bb, 41, none⟩ = some (.slice a1 (xs 1).length c1) ∧ D.ownsRow lo 55 1 (.slice a1 (xs 1).length c1) (xs 1).length (xs 1)) := ⟨hX1⟩
          clear kk hX1 hin
          replace nx2 := Hid.mk nx2
          have D5 : Below WF.heap.size WF WF.drew := (Below.refl _ _).drew
          have DA : Below WF.drew.heap.size WF.drew (WF.drew.alloc (.cells #[] 9)) := (Below.refl _ _).alloc (Nat.le_refl _) _
          have m1' : WF.drew.cell? ⟨bb, 41, none⟩ = some (.slice a1 (xs 1).length c1) := k1
          have mA := (hX2.out _ (below_step D5 DA)).1
          have mB : (WF.alloc (.cells #[] 9)).drew.cell? ⟨bb, 41, none⟩ = some (.slice a1 (xs 1).length c1) := mA
          have hrw : Hid (∃ gb, ga = some ⟨gb, 0, none⟩ ∧ ∀ j u, (a.L ++ M)[j]? = some u → (WF.drew.alloc (.cells #[] 9)).cell? ((⟨gb, 0, none⟩ : Addr).add j) = some u) := ⟨by
            obtain ⟨r7, f7', hT7, -⟩ := hP2
            obtain ⟨ga', gc', eg, hz⟩ := hT7.sep.fz _ (List.mem_cons_self ..)
            simp only [Value.slice.injEq] at eg
            obtain ⟨rfl, -, rfl⟩ := eg
            obtain ⟨gb, rfl, -, hbl, hbc⟩ := hz.resolve_left (by simp)
            refine ⟨gb, rfl, fun j u hu => ?_⟩
            rw [show ((⟨gb, 0, none⟩ : Addr).add j) = ⟨gb, j, none⟩ by cases j <;> simp [Addr.add]]
            exact ((below_step D5 DA).cell (p := ⟨gb, j, none⟩) hbl).trans (hbc j u hu)⟩
          obtain ⟨gb, rfl, hsrc⟩ := hrw.out
          replace hsrc := Hid.mk hsrc
          have hone : Hid (∀ u ∈ a.L ++ M, u.oneCell' = true) := ⟨hgd.out.1⟩
          clear hrw
          go_region_law (first | (refine step_app (P := Tryz.prog) _ rfl _ _ 55 rfl WF.drew.heap.size 9 iT _ 1 16 Tryz.underlying55 hT5 hT0 hT1 hT2 rfl (by decide) _ 0 [] rfl (empty_own WF.drew _ 1) ⟨gb, 0, none⟩ (a.n + 30) _ (a.L ++ M) rfl hlg.out hsrc.out hone.out (by unfold maxLen; omega) (by omega) DA.size ?_; intro v8 w8 ho8 hg8 _ _; obtain ⟨hov8, hb8⟩ := copied_own ho8 hg8; rw [Nat.zero_add] at ho8; obtain ⟨p8, c8, rfl⟩ := own_sl ho8; have B8 := below_step D5 hb8; have m8 := (hX2.out _ B8).1; have A8 : Below w8.heap.size w8 (w8.alloc (.cells #[.slice p8 (a.n + 30) c8] 55)) := (Below.refl _ _).alloc (Nat.le_refl _) _; have B9 := below_step B8 A8; have m9 := (hX2.out _ B9).1; have hoS := (hX2.out _ B9).2; replace hov8 := Hid.mk hov8; clear ho8 hg8) | (refine step_app (P := Tryz.prog) _ rfl _ _ 32 rfl lo 55 iS _ 1 24 Tryz.underlying32 hS5 hS0 hS1 hS2 rfl (by decide) (.slice a1 (xs 1).length c1) (xs 1).length (xs 1) rfl hoS ⟨w8.heap.size, 0, none⟩ 1 1 [.slice p8 (a.n + 30) c8] rfl rfl (cell_one_new w8 _ _) (by simp [Value.oneCell']) (by unfold maxLen; omega) (by omega) (Nat.le_trans hlF B9.size) ?_; intro vt wt hot hgt hatt _; obtain ⟨pt, ct, rfl⟩ := own_sl hot; obtain ⟨hPn, y0, y0f⟩ := nx2.out _ _ _ _ _ _ B8 hov8.out hot hgt hatt; replace y0 : wt.cell? ⟨bb, 41, none⟩ = some (.slice a1 (xs 1).length c1) := y0; replace y0f : wt.frozen? ⟨bb, 41, none⟩ = false := y0f; replace hPn := Hid.mk hPn))
          all_goals (refine Met.intro ?_; go_step)
          all_goals
            have hnx : Hid (GwE knTexts 4 lo bb W turn deep seen fz f r O.length Q A (k + 1) (wt.setCell ⟨bb, 41, none⟩ (.slice pt ((xs 1).length + 1) ct))) := ⟨by
              obtain ⟨Z9, -, hP9⟩ := hPn.out
              exact hGh.out.next hdr.out ham.out hxs.out (fun y hy => List.mem_cons_of_mem _ (List.mem_cons_of_mem _ (List.mem_cons_of_mem _ (hzz.out y hy)))) (List.mem_cons_of_mem _ (List.mem_cons_of_mem _ (List.mem_cons_self ..))) (List.mem_cons_of_mem _ (List.mem_cons_self ..)) (List.mem_cons_self ..) (by omega) hgd.out hP9⟩
            clear hPn hX2 nx2 m1' mA mB m8 m9 hoS hov8 y0 y0f hot hgt hatt hsrc B8 B9 A8 DA D5 k1 hP2
            generalize wt.setCell ⟨bb, 41, none⟩ (.slice pt ((xs 1).length + 1) ct) = wz at *
            go_wp2
            go_roundw
            case rel => exact ⟨k + 1, by omega, by first | rfl | go_num, hnx.out⟩
            case measure => simp [intOf]; omega
    · have hlt' : ¬ (k : Int) < (A.length : Int) := by omega
      obtain rfl : k = A.length := by omega
      have hfin : Hid (GwD knTexts 4 lo bb W turn deep seen fz f r O.length Q A ((wr.setCell ⟨bb, 44, none⟩ (.slice none 0 0)).setCell ⟨bb, 47, none⟩ (.slice none 0 0))) := ⟨hG.done hlo⟩
      clear hG h4 h7
      go_wp2
      go_end0
      exact ⟨rfl, hfin.out⟩
end Go.Proofs.YthmjkmdbggfiiaaGreatDoor.KB
