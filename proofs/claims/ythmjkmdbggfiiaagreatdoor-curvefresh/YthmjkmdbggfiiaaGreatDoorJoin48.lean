import Derived.Test.YthmjkmdbggfiiaaGreatDoorKcPointsS
import Derived.Test.YthmjkmdbggfiiaaGreatDoorKcTextsS
import Derived.Test.YthmjkmdbggfiiaaGreatDoorJoin39
import Derived.Deep.RegionHeldLaw
import Derived.Deep.RegionLaw
import Derived.BigQuiet
/- holdPoints. -/
namespace Go.Proofs.YthmjkmdbggfiiaaGreatDoor.KB
open Go.RowKit
set_option linter.constructorNameAsVariable false
attribute [local go_sem] CF.run_store_float

set_option maxRecDepth 4000 in
set_option maxHeartbeats 1000000 in
theorem holdPoints_any {W : World} {lo bb : Nat} {Z : Nat → Prop} {r : Nat → Row} {fz : List (Value × Nat × List Value)} {turn deep : Int} {f : Nat → Nat → Value} {seen : Nat → Int} {O : List Ot} {Q : List Wt} (h : TkL knPoints 13 W lo bb Z r fz turn deep f seen (xsOf O Q [])) (hC : Cnd knPoints r fz O Q [] []) (hO : O.length ≤ 1000000) (hQ : Q.length ≤ 1000000) :
    Calls Tryz.prog 37 #[.pointer (some ⟨bb, 0, none⟩)] W fun e w' => e = .returned (.bool true) ∧ Below W.heap.size W w' := by
  obtain ⟨a0, c0, e0, k0, o0, -⟩ := h.own (j := 0) (by decide)
  obtain ⟨a1, c1, e1, k1, o1, -⟩ := h.own (j := 1) (by decide)
  obtain ⟨a2, c2, e2, k2, o2, -⟩ := h.own (j := 2) (by decide)
  obtain ⟨a3, c3, e3, k3, o3, -⟩ := h.own (j := 3) (by decide)
  have l0 : (xsOf O Q [] 0).length = O.length := by simp [xsOf]
  have l1 : (xsOf O Q [] 1).length = O.length := by simp [xsOf]
  have l2 : (xsOf O Q [] 2).length = Q.length := by simp [xsOf]
  have l3 : (xsOf O Q [] 3).length = Q.length := by simp [xsOf]
  rw [l0] at k0 o0
  rw [l1] at k1 o1
  rw [l2] at k2 o2
  rw [l3] at k3 o3
  have hlbb : bb < W.heap.size := h.sep.bl.2
  have hK := Hid.mk (fun X (hX : Below W.heap.size W X) => (show X.cell? ⟨bb, 121, none⟩ = some (.slice a0 O.length c0) ∧ X.cell? ⟨bb, 122, none⟩ = some (.slice a1 O.length c1) ∧ X.cell? ⟨bb, 123, none⟩ = some (.slice a2 Q.length c2) ∧ X.cell? ⟨bb, 124, none⟩ = some (.slice a3 Q.length c3) from ⟨(hX.cell (p := ⟨bb, 121, none⟩) hlbb).trans k0, (hX.cell (p := ⟨bb, 122, none⟩) hlbb).trans k1, (hX.cell (p := ⟨bb, 123, none⟩) hlbb).trans k2, (hX.cell (p := ⟨bb, 124, none⟩) hlbb).trans k3⟩))
  obtain ⟨a0, c0, q0, h0⟩ := own_len o0
  obtain ⟨a1, c1, q1, h1⟩ := own_len o1
  obtain ⟨a2, c2, q2, h2⟩ := own_len o2
  obtain ⟨a3, c3, q3, h3⟩ := own_len o3
  simp only [Value.slice.injEq] at q0 q1 q2 q3
  obtain ⟨rfl, -, rfl⟩ := q0
  obtain ⟨rfl, -, rfl⟩ := q1
  obtain ⟨rfl, -, rfl⟩ := q2
  obtain ⟨rfl, -, rfl⟩ := q3
  clear o0 o1 o2 o3 e0 e1 e2 e3 k0 k1 k2 k3 l0 l1 l2 l3
  go_enter Tryz.func37, Tryz.ntmps37
  go_wp2
  go_loopw [3] (fun v wr => ∃ i : Nat, i ≤ O.length ∧ v = .int .i64 (i : Int) ∧ Below W.heap.size W wr) (fun v _ => O.length - (intOf v).toNat)
  case atStart => exact ⟨0, Nat.zero_le _, rfl, Below.refl _ _⟩
  case round =>
    obtain ⟨i, hi, rfl, hb⟩ := hrel
    obtain ⟨k0, k1, k2, k3⟩ := hK.out _ hb
    by_cases hlt : i < O.length
    · have hlt' : (i : Int) < (O.length : Int) := by omega
      have hi0 : (0 : Int) ≤ (i : Int) := by omega
      obtain ⟨g0, rfl, l0, q0⟩ := h0 (by omega)
      obtain ⟨g1, rfl, l1, q1⟩ := h1 (by omega)
      have hq0 : (xsOf O Q [] 0)[i]? = some O[i].v := by simp [xsOf, hlt]
      have hq1 : (xsOf O Q [] 1)[i]? = some O[i].t := by simp [xsOf, hlt]
      have hmem : O[i] ∈ O := List.getElem_mem hlt
      have hcO := hC.cO _ hmem
      have hc1 : (O[i].v, O[i].n, O[i].L) ∈ fz := hcO.1.resolve_right (fun ⟨b, hb, _⟩ => by cases hb)
      have hS := Hid.mk (fun X (hX : Below W.heap.size W X) => samePoints_any O[i].v O[i].t O[i].n O[i].L (hC.lO _ hmem).2 (Nat.le_trans (hC.lO _ hmem).1 (by decide)) X ((h.later hX).sep.fz _ hc1) ((h.later hX).sep.fz _ hcO.2))
      have hcO2 := hcO.2
      clear hcO
      generalize O[i] = o at *
      have bd : Below W.heap.size W wr.drew := hb.drew
      obtain ⟨va, ca, hva, -⟩ := (h.later hb).sep.fz _ hc1
      obtain ⟨vb, cb, hvb, -⟩ := (h.later hb).sep.fz _ hcO2
      simp only at hva hvb
      rw [hva] at hS
      rw [hvb] at hS
      have hKx := Hid.mk (fun X (hX : Below W.heap.size W X) => (show _ ∧ _ ∧ _ ∧ _ from ⟨(hK.out _ hX).1, (hK.out _ hX).2.1, (hX.cell (p := ⟨g0, i, none⟩) l0).trans ((q0 i o.v (by omega) (hq0)).trans (congrArg some hva)), (hX.cell (p := ⟨g1, i, none⟩) l1).trans ((q1 i o.t (by omega) (hq1)).trans (congrArg some hvb))⟩))
      have S0 := hKx.out _ bd
      clear h0 h1 h2 h3 q0 q1 hva hvb hq0 hq1 k2 k3
      go_upto_region 4 with fail
      go_region_held3 (fun X => X.cell? ⟨bb, 121, none⟩ = some (.slice (some ⟨g0, 0, none⟩) O.length c0) ∧ X.cell? ⟨bb, 122, none⟩ = some (.slice (some ⟨g1, 0, none⟩) O.length c1) ∧ X.cell? ⟨g0, i, none⟩ = some (.slice va o.n ca) ∧ X.cell? ⟨g1, i, none⟩ = some (.slice vb o.n cb)) (with_reducible assumption) ((go_at_call 73; refine (hS.out _ bd).mono ?_; rintro e w2 ⟨rfl, hb2⟩; have b2 := below_step bd hb2; have S2 := hKx.out _ b2))
      clear S0 S2 hKx
      go_wp2
      go_roundw
      case rel => exact ⟨i + 1, by omega, by first | rfl | go_num, b2⟩
      case measure => simp [intOf]; omega
    · have hlt' : ¬ (i : Int) < (O.length : Int) := by omega
      clear hlt hi
      go_wp2
      go_loopw [4] (fun v wx => ∃ i : Nat, i ≤ Q.length ∧ v = .int .i64 (i : Int) ∧ Below W.heap.size W wx) (fun v _ => Q.length - (intOf v).toNat)
      case atStart => exact ⟨0, Nat.zero_le _, rfl, hb⟩
      case round =>
        clear k0 k1 k2 k3 hb
        obtain ⟨i, hi, rfl, hb⟩ := hrel
        obtain ⟨k0, k1, k2, k3⟩ := hK.out _ hb
        by_cases hlt : i < Q.length
        · have hlt' : (i : Int) < (Q.length : Int) := by omega
          have hi0 : (0 : Int) ≤ (i : Int) := by omega
          obtain ⟨g0, rfl, l0, q0⟩ := h2 (by omega)
          obtain ⟨g1, rfl, l1, q1⟩ := h3 (by omega)
          have hq0 : (xsOf O Q [] 2)[i]? = some Q[i].v := by simp [xsOf, hlt]
          have hq1 : (xsOf O Q [] 3)[i]? = some Q[i].c := by simp [xsOf, hlt]
          have hmem : Q[i] ∈ Q := List.getElem_mem hlt
          generalize Q[i] = o at *
          have hown : ∀ X, Below W.heap.size W X → RwZ X (fun b => o.v.ownBlock = some b) o.v o.n o.L := fun X hX => by
            have := (h.later hX).sep.own o.i
            rw [(hC.cQ _ hmem).2.1] at this
            exact RwZ.of_own this
          have hS := Hid.mk (fun X (hX : Below W.heap.size W X) => samePoints_any o.v o.c o.n o.L (hC.lQ _ hmem).2 (Nat.le_trans (hC.lQ _ hmem).1 (by decide)) X (hown X hX) ((h.later hX).sep.fz _ (hC.cQ _ hmem).2.2))
          have bd : Below W.heap.size W wr.drew := hb.drew
          obtain ⟨va, ca, hva, -⟩ := hown _ hb
          obtain ⟨vb, cb, hvb, -⟩ := (h.later hb).sep.fz _ (hC.cQ _ hmem).2.2
          simp only at hva hvb
          rw [hva] at hS
          rw [hvb] at hS
          have hKx := Hid.mk (fun X (hX : Below W.heap.size W X) => (show _ ∧ _ ∧ _ ∧ _ from ⟨(hK.out _ hX).2.2.1, (hK.out _ hX).2.2.2, (hX.cell (p := ⟨g0, i, none⟩) l0).trans ((q0 i o.v (by omega) (hq0)).trans (congrArg some hva)), (hX.cell (p := ⟨g1, i, none⟩) l1).trans ((q1 i o.c (by omega) (hq1)).trans (congrArg some hvb))⟩))
          have S0 := hKx.out _ bd
          clear h0 h1 h2 h3 q0 q1 hva hvb hq0 hq1 k0 k1 hown
          go_upto_region 9 with fail
          go_region_held3 (fun X => X.cell? ⟨bb, 123, none⟩ = some (.slice (some ⟨g0, 0, none⟩) Q.length c2) ∧ X.cell? ⟨bb, 124, none⟩ = some (.slice (some ⟨g1, 0, none⟩) Q.length c3) ∧ X.cell? ⟨g0, i, none⟩ = some (.slice va o.n ca) ∧ X.cell? ⟨g1, i, none⟩ = some (.slice vb o.n cb)) (with_reducible assumption) ((go_at_call 73; refine (hS.out _ bd).mono ?_; rintro e w2 ⟨rfl, hb2⟩; have b2 := below_step bd hb2; have S2 := hKx.out _ b2))
          clear S0 S2 hKx
          go_wp2
          go_roundw
          case rel => exact ⟨i + 1, by omega, by first | rfl | go_num, b2⟩
          case measure => simp [intOf]; omega
        · have hlt' : ¬ (i : Int) < (Q.length : Int) := by omega
          go_wp2
          go_ret
          exact ⟨rfl, hb⟩
end Go.Proofs.YthmjkmdbggfiiaaGreatDoor.KB


/- A list of Texts is kept. -/
namespace Go.Proofs.YthmjkmdbggfiiaaGreatDoor.KB
open Go.RowKit
set_option linter.constructorNameAsVariable false

set_option maxRecDepth 8000 in
set_option maxHeartbeats 4000000 in
theorem keepTexts_walk {W : World} {lo bb : Nat} {Z : Nat → Prop} {r : Nat → Row} {fz : List (Value × Nat × List Value)} {turn d : Int} {f : Nat → Nat → Value} {seen : Nat → Int} {O : List Ot} {Q : List Wt} (hL0 : TkL knTexts 4 W lo bb Z r fz turn d f seen (xsOf O Q [])) (hC : Cnd knTexts r fz O Q [] []) (hfin : Fin r) (hlo : lo ≤ W.heap.size) {i n : Nat} {l : Value} {L : List Value} (hi8 : 192 ≤ i) (hri : r i = ⟨9, 1, l, n, L⟩) (hne : ∀ q ∈ Q, q.i ≠ i) (hgd : knTexts.good n L) (hn : n ≤ 90000) (hO : O.length ≤ 500) (hQ : Q.length ≤ 500) (hd0 : 0 ≤ d) (hd1 : d ≤ 1000) (m : Int) {P : World → Prop}
    (hD : ∀ Y Z' r' fz' f' seen' q, q.i = i → q.v = l → q.n = n → q.L = L → TkL knTexts 4 Y lo bb Z' r' fz' turn (d + 1) f' seen' (xsOf O (Q ++ [q]) []) → Cnd knTexts r' fz' O (Q ++ [q]) [] [] → Below lo W Y → (∀ y ∈ fz, y ∈ fz') → Fx 4 f f' → (∀ j, Out 4 j → r' j = r j) → Calls Tryz.prog 59 #[.pointer (some ⟨bb, 0, none⟩)] Y fun e Y' => e = .returned (.tuple #[]) ∧ P Y') :
    Calls Tryz.prog 23 #[.pointer (some ⟨bb, 0, none⟩), l, .int .i64 m] W fun e Y => e = .returned (.tuple #[]) ∧ P Y := by
  have hio : Out 4 i := out_big (by decide) hi8
  have ho0 := hL0.sep.own i
  rw [hri] at ho0
  simp only at ho0
  obtain ⟨la, lc, rfl⟩ := own_sl ho0
  clear ho0
  have c3 : W.cell? ⟨bb, 3, none⟩ = some (.int .i64 d) := hL0.bk.cell (i := 3) (by decide)
  have f3 := hL0.bk.fz 3
  have hP1 : PS knTexts 4 lo bb W turn (d + 1) seen f (fun _ => False) Z fz r (xsOf O Q []) (W.setCell ⟨bb, 3, none⟩ (.int .i64 (d + 1))) := ⟨r, f, ⟨hL0.kk, hL0.bk.setDeep _, hL0.sep.book 3 _, hL0.sp⟩, fun _ _ => rfl, Fx.refl _ _, (grS_set W bb 3 _).below hlo (fun b e => e ▸ hL0.sep.bl.1), fun _ h => h.elim⟩
  obtain ⟨i9, -, hi9, -, hin⟩ := hfin.free (k := 4) (by decide) i
  have hone : Hid (∀ u ∈ L, u.oneCell' = true) := ⟨hgd.1⟩
  have hxl : Hid (∀ j, (xsOf O Q [] j).length ≤ 5000) := ⟨fun j => by
    match j with
    | 0 => simp [xsOf]; omega
    | 1 => simp [xsOf]; omega
    | 2 => simp [xsOf]; omega
    | 3 => simp [xsOf]; omega
    | 4 => simp [xsOf]
    | 5 => simp [xsOf, intV]; omega
    | 6 => simp [xsOf, intV]; omega
    | j + 7 => simp [xsOf, intV]⟩
  obtain ⟨xs, hxs⟩ : ∃ xs, xsOf O Q [] = xs := ⟨_, rfl⟩
  rw [hxs] at hP1 hxl
  replace hxs := Hid.mk hxs
  replace hC := Hid.mk hC
  replace hD := Hid.mk hD
  replace hne := Hid.mk hne
  replace hgd := Hid.mk hgd
  replace hP1 := Hid.mk hP1
  have hor : Hid (∀ Y xs' Z' fz', PS knTexts 4 lo bb W turn (d + 1) seen f (fun _ => False) Z' fz' r xs' Y → Y.ownsRow lo 9 1 (.slice la n lc) n L) := ⟨fun Y xs' Z' fz' hY => by
    have := hY.own i hio
    rw [hri] at this
    exact this⟩
  replace hri := Hid.mk hri
  clear hL0 hfin
  obtain ⟨iS, hS5, hS0, hS1, hS2⟩ := info_parts infoTextss
  obtain ⟨iI, hI5, hI0, hI1, hI2⟩ := info_parts infoIn
  obtain ⟨iT, hT5, hT0, hT1, hT2⟩ := info_parts infoTexts
  go_enter Tryz.func23, Tryz.ntmps23
  go_upto_region 1 with fail
  clear c3 f3
  generalize W.setCell ⟨bb, 3, none⟩ (.int .i64 (d + 1)) = WA at *
  replace hP1 := hP1.out
  obtain ⟨a2, c2, kk, oo, hl1, nx1⟩ := hP1.push hlo (fun _ h => h.elim) (j := 2) (by decide)
  have k2 : WA.cell? ⟨bb, 42, none⟩ = some (.slice a2 (xs 2).length c2) := kk
  clear kk
  replace nx1 := Hid.mk nx1
  go_wp2_with (at_builtin; refine stopJ ?_)
  unfold StopJ
  refine wpList_app _ rfl _ _ 32 rfl lo 55 iS _ 1 24 Tryz.underlying32 hS5 hS0 hS1 hS2 rfl (by decide) (.slice a2 (xs 2).length c2) (xs 2).length (xs 2) rfl (oo.alloc _) ⟨WA.heap.size, 0, none⟩ 1 1 [.slice la n lc] rfl rfl (cell_one_new WA _ _) (by simp [Value.oneCell']) (by have := hxl.out 2; unfold maxLen; omega) (by have := hxl.out 2; omega) (Nat.le_trans hl1 (by simp)) ?_
  intro v9 w9 ho9 hg9 hat9 _
  obtain ⟨va2, vc2, rfl⟩ := own_sl ho9
  obtain ⟨hP2, y0, y0f⟩ := nx1.out _ _ _ ho9 hg9 hat9
  replace y0 : w9.cell? ⟨bb, 42, none⟩ = some (.slice a2 (xs 2).length c2) := y0
  replace y0f : w9.frozen? ⟨bb, 42, none⟩ = false := y0f
  replace hP2 : PS knTexts 4 lo bb W turn (d + 1) seen f (fun _ => False) Z fz r (updX (xs) 2 (xs 2 ++ [.slice la n lc])) (w9.setCell ⟨bb, 42, none⟩ (.slice va2 ((xs 2).length + 1) vc2)) := hP2
  clear ho9 hg9 hat9 k2 oo nx1 hP1
  replace hP2 := Hid.mk hP2
  go_upto_region 2 with fail
  clear y0 y0f
  generalize w9.setCell ⟨bb, 42, none⟩ (.slice va2 ((xs 2).length + 1) vc2) = WB at *
  replace hP2 := hP2.out
  obtain ⟨a3, c3, kk, hlF, hX1, nx2⟩ := hP2.tell hlo (fun _ h => h.elim) (j := 3) (by decide) hi9 hin
  rw [show (updX xs 2 (xs 2 ++ [.slice la n lc])) 3 = xs 3 from rfl] at kk hX1 nx2
  have k3 : WB.cell? ⟨bb, 43, none⟩ = some (.slice a3 (xs 3).length c3) := kk
  have hX2 : Hid (∀ D, Below WB.heap.size WB D → D.cell? ⟨bb, 43, none⟩ = some (.slice a3 (xs 3).length c3) ∧ D.ownsRow lo 55 1 (.slice a3 (xs 3).length c3) (xs 3).length (xs 3)) := ⟨hX1⟩
  clear kk hX1
  replace nx2 := Hid.mk nx2
  have D5 : Below WB.heap.size WB WB.drew := (Below.refl _ _).drew
  have DA : Below WB.drew.heap.size WB.drew (WB.drew.alloc (.cells #[] 9)) := (Below.refl _ _).alloc (Nat.le_refl _) _
  have m1' : WB.drew.cell? ⟨bb, 43, none⟩ = some (.slice a3 (xs 3).length c3) := k3
  have mA := (hX2.out _ (below_step D5 DA)).1
  have mB : (WB.alloc (.cells #[] 9)).drew.cell? ⟨bb, 43, none⟩ = some (.slice a3 (xs 3).length c3) := mA
  have hoF := hor.out _ _ _ _ hP2
  have hLn : Hid (L.length = n * 1) := ⟨hoF.1⟩
  go_cut [2] from 23 to 34 (fun x wx => x = .int .i64 m ∧ ∃ t Z', PS knTexts 4 lo bb W turn (d + 1) seen f (fun _ => False) Z' ((t, n, L) :: fz) r (updX (updX xs 2 (xs 2 ++ [.slice la n lc])) 3 (xs 3 ++ [t])) wx)
  case first =>
    have hrw := RwZ.of_own hoF
    obtain ⟨-, ⟨e0, n0⟩ | ⟨gb, gc, cur, e0, -⟩⟩ := hoF
    · have h00 : Hid (n = 0) := ⟨n0⟩
      have hL0 : Hid (L = []) := ⟨List.length_eq_zero_iff.1 (by have := hLn.out; rw [n0] at this; simpa using this)⟩
      simp only [Value.slice.injEq] at e0
      obtain ⟨rfl, -, rfl⟩ := e0
      have B8 := below_step D5 DA
      have A8 : Below (WB.drew.alloc (.cells #[] 9)).heap.size (WB.drew.alloc (.cells #[] 9)) ((WB.drew.alloc (.cells #[] 9)).alloc (.cells #[.slice (some ⟨WB.heap.size, 0, none⟩) 0 0] 55)) := (Below.refl _ _).alloc (Nat.le_refl _) _
      have B9 := below_step B8 A8
      have m9 := (hX2.out _ B9).1
      have hoS := (hX2.out _ B9).2
      have hov8 : Hid ((WB.drew.alloc (.cells #[] 9)).ownsRow WB.heap.size 9 1 (.slice (some ⟨WB.heap.size, 0, none⟩) 0 0) n L) := ⟨by rw [hL0.out, h00.out]; exact empty_own WB.drew _ 1⟩
      have m9n : ((WB.alloc (.cells #[] 9)).alloc (.cells #[.slice (some ⟨WB.heap.size, 0, none⟩) 0 0] 55)).drew.cell? ⟨bb, 43, none⟩ = some (.slice a3 (xs 3).length c3) := m9
      have hnw : Hid (∀ j u, [Value.slice (some ⟨WB.heap.size, 0, none⟩) 0 0][j]? = some u → ((WB.alloc (.cells #[] 9)).alloc (.cells #[.slice (some ⟨WB.heap.size, 0, none⟩) 0 0] 55)).drew.cell? ((⟨WB.heap.size + 1, 0, none⟩ : Addr).add j) = some u) := ⟨by
        have e9 : (WB.drew.alloc (.cells #[] 9)).heap.size = WB.heap.size + 1 := by simp
        have h9 := cell_one_new (WB.drew.alloc (.cells #[] 9)) (.slice (some ⟨WB.heap.size, 0, none⟩) 0 0) 55
        rw [e9] at h9
        exact h9⟩
      clear n0 hrw
      go_region_law (first | (refine step_none (P := Tryz.prog) _ rfl _ _ 55 rfl WB.drew.heap.size 9 iT 1 Tryz.underlying55 hT5 _ 0 [] rfl (empty_own WB.drew _ 1) (congrArg (fun n => Value.slice none n 0) h00.out) ?_) | (refine step_app (P := Tryz.prog) _ rfl _ _ 32 rfl lo 55 iS _ 1 24 Tryz.underlying32 hS5 hS0 hS1 hS2 rfl (by decide) (.slice a3 (xs 3).length c3) (xs 3).length (xs 3) rfl hoS ⟨WB.heap.size + 1, 0, none⟩ 1 1 [.slice (some ⟨WB.heap.size, 0, none⟩) 0 0] rfl rfl hnw.out (by simp [Value.oneCell']) (by have := hxl.out 3; unfold maxLen; omega) (by have := hxl.out 3; omega) (Nat.le_trans hlF B9.size) ?_; intro vt wt hot hgt hatt _; obtain ⟨pt, ct, rfl⟩ := own_sl hot; obtain ⟨hPn, y0, y0f⟩ := nx2.out _ _ _ _ _ _ B8 hov8.out hot hgt hatt; replace y0 : wt.cell? ⟨bb, 43, none⟩ = some (.slice a3 (xs 3).length c3) := y0; replace y0f : wt.frozen? ⟨bb, 43, none⟩ = false := y0f; obtain ⟨Zn, -, hPn⟩ := hPn; replace hPn := Hid.mk hPn))
      all_goals (refine Met.intro ?_; go_step; go_meet)
      all_goals exact ⟨rfl, _, _, hPn.out⟩
    · simp only [Value.slice.injEq] at e0
      obtain ⟨rfl, -, rfl⟩ := e0
      obtain ⟨za, zc, ez, hz⟩ := hrw
      have hsrc : Hid (∀ j u, L[j]? = some u → (WB.drew.alloc (.cells #[] 9)).cell? ((⟨gb, 0, none⟩ : Addr).add j) = some u) := ⟨fun j u hu => by
        rw [show ((⟨gb, 0, none⟩ : Addr).add j) = ⟨gb, j, none⟩ by cases j <;> simp [Addr.add]]
        rcases hz with hz | ⟨b, eb, -, hbl, hbc⟩
        · have hl0 := hLn.out
          rw [hz, Nat.zero_mul] at hl0
          rw [List.length_eq_zero_iff.1 hl0] at hu
          simp at hu
        · simp only [Value.slice.injEq] at ez
          obtain ⟨rfl, -, -⟩ := ez
          simp only [Option.some.injEq, Addr.mk.injEq] at eb
          obtain ⟨rfl, -⟩ := eb
          exact ((below_step D5 DA).cell (p := ⟨gb, j, none⟩) hbl).trans (hbc j u hu)⟩
      clear hz ez
      go_region_law (first | (refine step_app (P := Tryz.prog) _ rfl _ _ 55 rfl WB.drew.heap.size 9 iT _ 1 16 Tryz.underlying55 hT5 hT0 hT1 hT2 rfl (by decide) _ 0 [] rfl (empty_own WB.drew _ 1) ⟨gb, 0, none⟩ n _ L rfl hLn.out hsrc.out hone.out (by unfold maxLen; omega) (by omega) DA.size ?_; intro v8 w8 ho8 hg8 _ _; obtain ⟨hov8, hb8⟩ := copied_own ho8 hg8; rw [Nat.zero_add] at ho8; obtain ⟨p8, c8, rfl⟩ := own_sl ho8; have B8 := below_step D5 hb8; have m8 := (hX2.out _ B8).1; have A8 : Below w8.heap.size w8 (w8.alloc (.cells #[.slice p8 n c8] 55)) := (Below.refl _ _).alloc (Nat.le_refl _) _; have B9 := below_step B8 A8; have m9 := (hX2.out _ B9).1; have hoS := (hX2.out _ B9).2; replace hov8 := Hid.mk hov8; clear ho8 hg8) | (refine step_app (P := Tryz.prog) _ rfl _ _ 32 rfl lo 55 iS _ 1 24 Tryz.underlying32 hS5 hS0 hS1 hS2 rfl (by decide) (.slice a3 (xs 3).length c3) (xs 3).length (xs 3) rfl hoS ⟨w8.heap.size, 0, none⟩ 1 1 [.slice p8 n c8] rfl rfl (cell_one_new w8 _ _) (by simp [Value.oneCell']) (by have := hxl.out 3; unfold maxLen; omega) (by have := hxl.out 3; omega) (Nat.le_trans hlF B9.size) ?_; intro vt wt hot hgt hatt _; obtain ⟨pt, ct, rfl⟩ := own_sl hot; obtain ⟨hPn, y0, y0f⟩ := nx2.out _ _ _ _ _ _ B8 hov8.out hot hgt hatt; replace y0 : wt.cell? ⟨bb, 43, none⟩ = some (.slice a3 (xs 3).length c3) := y0; replace y0f : wt.frozen? ⟨bb, 43, none⟩ = false := y0f; obtain ⟨Zn, -, hPn⟩ := hPn; replace hPn := Hid.mk hPn))
      all_goals (refine Met.intro ?_; go_step; go_meet)
      all_goals exact ⟨rfl, _, _, hPn.out⟩
  case rest =>
    obtain ⟨rfl, t, Z2, hP3⟩ := hcut
    clear hP2 nx2 hX2 k3 m1' mA mB hoF D5 DA hlF
    have hct : Hid (∃ ta tc, t = .slice ta n tc) := ⟨by
      obtain ⟨r7, f7, hT7, -⟩ := hP3
      obtain ⟨a7, c7, e7, -⟩ := hT7.sep.fz _ (List.mem_cons_self ..)
      exact ⟨a7, c7, e7⟩⟩
    obtain ⟨a5, c5, kk, oo, hl3, nx3⟩ := hP3.push hlo (fun _ h => h.elim) (j := 5) (by decide)
    rw [show (updX (updX (xs) 2 (xs 2 ++ [.slice la n lc])) 3 (xs 3 ++ [t])) 5 = xs 5 from rfl] at kk oo nx3
    have k5 : wc.cell? ⟨bb, 45, none⟩ = some (.slice a5 (xs 5).length c5) := kk
    clear kk
    replace nx3 := Hid.mk nx3
    go_wp2_with (at_builtin; refine stopJ ?_)
    unfold StopJ
    refine wpList_app _ rfl _ _ 28 rfl lo 3 iI _ 1 8 Tryz.underlying28 hI5 hI0 hI1 hI2 rfl (by decide) (.slice a5 (xs 5).length c5) (xs 5).length (xs 5) rfl (oo.alloc _) ⟨wc.heap.size, 0, none⟩ 1 1 [.int .i64 m] rfl rfl (cell_one_new wc _ _) (by simp [Value.oneCell']) (by have := hxl.out 5; unfold maxLen; omega) (by have := hxl.out 5; omega) (Nat.le_trans hl3 (by simp)) ?_
    intro v9 w9 ho9 hg9 hat9 _
    obtain ⟨va5, vc5, rfl⟩ := own_sl ho9
    obtain ⟨hP4, y0, y0f⟩ := nx3.out _ _ _ ho9 hg9 hat9
    replace y0 : w9.cell? ⟨bb, 45, none⟩ = some (.slice a5 (xs 5).length c5) := y0
    replace y0f : w9.frozen? ⟨bb, 45, none⟩ = false := y0f
    replace hP4 : PS knTexts 4 lo bb W turn (d + 1) seen f (fun _ => False) Z2 ((t, n, L) :: fz) r (updX (updX (updX (xs) 2 (xs 2 ++ [.slice la n lc])) 3 (xs 3 ++ [t])) 5 (xs 5 ++ [.int .i64 m])) (w9.setCell ⟨bb, 45, none⟩ (.slice va5 ((xs 5).length + 1) vc5)) := hP4
    clear ho9 hg9 hat9 k5 oo nx3 hP3
    replace hP4 := Hid.mk hP4
    go_upto_region 4 with fail
    clear y0 y0f
    generalize w9.setCell ⟨bb, 45, none⟩ (.slice va5 ((xs 5).length + 1) vc5) = WD at *
    replace hP4 := hP4.out
    obtain ⟨a6, c6, kk, oo, hl4, nx4⟩ := hP4.push hlo (fun _ h => h.elim) (j := 6) (by decide)
    rw [show (updX (updX (updX (xs) 2 (xs 2 ++ [.slice la n lc])) 3 (xs 3 ++ [t])) 5 (xs 5 ++ [.int .i64 m])) 6 = xs 6 from rfl] at kk oo nx4
    have k6 : WD.cell? ⟨bb, 46, none⟩ = some (.slice a6 (xs 6).length c6) := kk
    clear kk
    replace nx4 := Hid.mk nx4
    obtain ⟨fb, hfb⟩ := hP4.bk
    have kd6 : WD.drew.cell? ⟨bb, 46, none⟩ = some (.slice a6 (xs 6).length c6) := k6
    have ks : WD.cell? ⟨bb, 48, none⟩ = some (.int .i64 (seen 4)) := hfb.cell (i := 48) (by decide)
    have ksd : WD.drew.cell? ⟨bb, 48, none⟩ = some (.int .i64 (seen 4)) := ks
    have hbd : Hid (BkAt WD.drew bb turn (d + 1) fb seen) := ⟨hfb.later (Below.refl _ _).drew⟩
    have hE : Hid (∀ d : Int, (WD.alloc (.cells #[.int .i64 d] 3)).drew.cell? ⟨bb, 46, none⟩ = some (.slice a6 (xs 6).length c6)) := ⟨fun d => by
      have E6 : Below WD.heap.size WD (WD.alloc (.cells #[.int .i64 d] 3)) := (Below.refl _ _).alloc (Nat.le_refl _) _
      exact (E6.cell (p := ⟨bb, 46, none⟩) (World.block_lt_of_cell? _ _ k6)).trans k6⟩
    clear hfb
    go_cut [2] from 45 to 59 (fun x wx => x = .int .i64 m ∧ ∃ dd : Int, PS knTexts 4 lo bb W turn (d + 1) seen f (fun _ => False) Z2 ((t, n, L) :: fz) r (updX (updX (updX (updX (xs) 2 (xs 2 ++ [.slice la n lc])) 3 (xs 3 ++ [t])) 5 (xs 5 ++ [.int .i64 m])) 6 (xs 6 ++ [.int .i64 dd])) wx)
    case first =>
      go_region_law (first | (refine step_app (P := Tryz.prog) _ rfl _ _ 28 rfl lo 3 iI _ 1 8 Tryz.underlying28 hI5 hI0 hI1 hI2 rfl (by decide) (.slice a6 (xs 6).length c6) (xs 6).length (xs 6) rfl (show (WD.alloc (.cells #[.int .i64 dd] 3)).drew.ownsRow lo 3 1 _ _ _ from (oo.alloc _).drew) ⟨WD.heap.size, 0, none⟩ 1 1 [.int .i64 dd] rfl rfl (cell_one_new WD _ _) (by simp [Value.oneCell']) (by have := hxl.out 6; unfold maxLen; omega) (by have := hxl.out 6; omega) (Nat.le_trans hl4 (by simp)) ?_; intro v9 w9 ho9 hg9 hat9 _; obtain ⟨va6, vc6, rfl⟩ := own_sl ho9; obtain ⟨hPn, y0, y0f⟩ := nx4.out _ _ _ ho9 ⟨hg9.os, hg9.tape, hg9.output, hg9.size, hg9.block⟩ hat9; replace y0 : w9.cell? ⟨bb, 46, none⟩ = some (.slice a6 (xs 6).length c6) := y0; replace y0f : w9.frozen? ⟨bb, 46, none⟩ = false := y0f; replace hPn := Hid.mk hPn) | (go_simp; go_at_call 58; refine (due_any hbd.out _).mono ?_; rintro e w8 ⟨dd, rfl, rfl⟩; have ke6 := hE.out dd))
      all_goals (refine Met.intro ?_; go_step; go_meet)
      all_goals exact ⟨rfl, _, hPn.out⟩
    case rest =>
      obtain ⟨rfl, dd, hP5⟩ := hcut
      clear hP4 nx4 oo k6 kd6 ks ksd hbd hE
      obtain ⟨fb, hfb⟩ := hP5.bk
      have ks : wc.cell? ⟨bb, 48, none⟩ = some (.int .i64 (seen 4)) := hfb.cell (i := 48) (by decide)
      have ksf := hfb.fz 48
      have hP6 : PS knTexts 4 lo bb W turn (d + 1) (updS seen 4 (wrap64 (seen 4 + 1))) f (fun _ => False) Z2 ((t, n, L) :: fz) r (updX (updX (updX (updX (xs) 2 (xs 2 ++ [.slice la n lc])) 3 (xs 3 ++ [t])) 5 (xs 5 ++ [.int .i64 m])) 6 (xs 6 ++ [.int .i64 dd])) (wc.setCell ⟨bb, 48, none⟩ (.int .i64 (wrap64 (seen 4 + 1)))) := hP5.counted hlo (fun _ h => h.elim) (wrap64 (seen 4 + 1))
      clear hfb hP5
      replace hP6 := Hid.mk hP6
      go_upto_region 6 with fail
      clear ks ksf
      generalize wc.setCell ⟨bb, 48, none⟩ (.int .i64 (wrap64 (seen 4 + 1))) = WZ at *
      have hfin : Calls Tryz.prog 59 #[.pointer (some ⟨bb, 0, none⟩)] WZ fun e Y' => e = .returned (.tuple #[]) ∧ P Y' := by
        have hx : updX (updX (updX (updX (xs) 2 (xs 2 ++ [.slice la n lc])) 3 (xs 3 ++ [t])) 5 (xs 5 ++ [.int .i64 m])) 6 (xs 6 ++ [.int .i64 dd]) = xsOf O (Q ++ [⟨i, .slice la n lc, t, n, L, m, dd⟩]) [] := by
          rw [← hxs.out]
          exact xs_kept O Q [] ⟨i, .slice la n lc, t, n, L, m, dd⟩
        have hQ6 := hP6.out
        rw [hx] at hQ6
        obtain ⟨r8, f8, hT8, hr8, hx8, hb8, -⟩ := hQ6
        refine hD.out _ _ _ _ _ _ ⟨i, .slice la n lc, t, n, L, m, dd⟩ rfl rfl rfl rfl hT8 ?_ hb8 (fun y hy => List.mem_cons_of_mem _ hy) hx8 hr8
        exact (hC.out.rows (r' := r8) (fun j hj _ => hr8 j (out_big (by decide) hj)) (fun y hy => hy)).new (q := ⟨i, .slice la n lc, t, n, L, m, dd⟩) hi8 ((hr8 i hio).trans hri.out) hne.out (fun y hy => List.mem_cons_of_mem _ hy) (List.mem_cons_self ..) hn hgd.out
      clear hD hP6 hC hor hri hne hxl hxs
      go_wp2_with (go_at_call 59; refine hfin.mono ?_; rintro e w9 ⟨rfl, hp⟩; replace hp := Hid.mk hp)
      go_end0
      exact ⟨rfl, hp.out⟩
end Go.Proofs.YthmjkmdbggfiiaaGreatDoor.KB
