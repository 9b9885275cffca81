import Derived.Test.YthmjkmdbggfiiaaGreatDoorKcPointsS
import Derived.Deep.RegionHeldLaw
import Derived.Deep.RegionLaw
import Derived.Test.YthmjkmdbggfiiaaGreatDoorJoin35
/- growPoints. -/
namespace Go.Proofs.YthmjkmdbggfiiaaGreatDoor.KB
open Go.RowKit
set_option linter.constructorNameAsVariable false
attribute [local go_sem] CF.run_store_float

theorem lit2 (w : World) (x y : Value) {t : TypeId} : ∀ j u, [x, y][j]? = some u → (w.alloc (.cells #[x, y] t)).cell? ((⟨w.heap.size, 0, none⟩ : Addr).add j) = some u := by
  intro j u hj
  match j, hj with
  | 0, hj => simp at hj; subst hj; simp [Addr.add]
  | 1, hj => simp at hj; subst hj; simp [Addr.add]

set_option maxRecDepth 8000 in
set_option maxHeartbeats 2000000 in
theorem growPoints_any {W : World} {lo bb : Nat} {Z : Nat → Prop} {r : Nat → Row} {fz : List (Value × Nat × List Value)} {turn deep : Int} {f : Nat → Nat → Value} {seen : Nat → Int} {O : List Ot} {Q : List Wt} {A : List Fr} (hL : TkL knPoints 13 W lo bb Z r fz turn deep f seen (xsOf O Q A)) (hC : Cnd knPoints r fz O Q A []) (hfin : Fin r) (hlo : lo ≤ W.heap.size) (hA : A.length ≤ 1000) (hO : O.length ≤ 1000) :
    Calls Tryz.prog 128 #[.pointer (some ⟨bb, 0, none⟩)] W fun e X => e = .returned (.tuple #[]) ∧ GwD knPoints 13 lo bb W turn deep seen fz f r O.length Q A X := by
  have hI : Hid (GwE knPoints 13 lo bb W turn deep seen fz f r O.length Q A 0 W) := ⟨GwE.start hL hC hfin⟩
  clear hL hC hfin
  obtain ⟨iS, hS5, hS0, hS1, hS2⟩ := info_parts infoPointss
  obtain ⟨iT, hT5, hT0, hT1, hT2⟩ := info_parts infoPoints
  go_enter Tryz.func128, Tryz.ntmps128
  go_wp2
  go_loopw [2] (fun v wr => ∃ k : Nat, k ≤ A.length ∧ v = .int .i64 (k : Int) ∧ GwE knPoints 13 lo bb W turn deep seen fz f r O.length Q A k wr) (fun v _ => A.length - (intOf v).toNat)
  case atStart => exact ⟨0, Nat.zero_le _, rfl, hI.out⟩
  case round =>
    clear hI
    obtain ⟨k, hk, rfl, Z', r', fz', f', O', hG⟩ := hrel
    have hO'l : O'.length ≤ 3000 := by have := hG.ol; omega
    obtain ⟨a4, c4, e4, k4, o4, f4⟩ := hG.t.own (j := 4) (by decide)
    obtain ⟨a7, c7, e7, k7, o7, f7⟩ := hG.t.own (j := 7) (by decide)
    have l4 : (xsOf O' Q A 4).length = A.length := by simp [xsOf]
    have l7 : (xsOf O' Q A 7).length = A.length := by simp [xsOf, intV]
    rw [l4] at e4 k4 o4
    rw [l7] at e7 k7 o7
    replace k4 : wr.cell? ⟨bb, 125, none⟩ = some (.slice a4 A.length c4) := k4
    replace k7 : wr.cell? ⟨bb, 128, none⟩ = some (.slice a7 A.length c7) := k7
    replace f4 : wr.frozen? ⟨bb, 125, none⟩ = false := f4
    replace f7 : wr.frozen? ⟨bb, 128, none⟩ = false := f7
    obtain ⟨b4, d4, q4, h4⟩ := own_len o4
    obtain ⟨b7, d7, q7, h7⟩ := own_len o7
    simp only [Value.slice.injEq] at q4 q7
    obtain ⟨rfl, -, rfl⟩ := q4
    obtain ⟨rfl, -, rfl⟩ := q7
    clear l4 l7 e4 e7 o4 o7
    by_cases hlt : k < A.length
    · have hlt' : (k : Int) < (A.length : Int) := by omega
      have hk0 : (0 : Int) ≤ (k : Int) := by omega
      have hdr : A.drop k = A[k] :: A.drop (k + 1) := List.drop_eq_getElem_cons hlt
      have ham : A[k] ∈ A := List.getElem_mem hlt
      obtain ⟨g4, rfl, l4, q4⟩ := h4 (by omega)
      obtain ⟨g7, rfl, l7, q7⟩ := h7 (by omega)
      have x4 := q4 k A[k].v (by omega) (by simp [xsOf, hlt])
      have x7 := q7 k (.int .i64 A[k].m) (by omega) (by simp [xsOf, intV, hlt])
      generalize A[k] = a at *
      have hCa := hG.c
      rw [hdr] at hCa
      obtain ⟨ha8, har⟩ := hCa.cA a (List.mem_cons_self ..)
      have hal := (hCa.lA a (List.mem_cons_self ..)).1
      have hao : Out 13 a.i := out_big (by decide) ha8
      obtain ⟨xs, hxs⟩ : ∃ xs, xsOf O' Q A = xs := ⟨_, rfl⟩
      have hE : Hid (LaE knPoints 13 lo bb W turn deep seen f Z' r' fz' a xs 0 a.v wr) := ⟨by rw [← hxs]; exact hG.la hdr⟩
      obtain ⟨va, vc, hva⟩ := own_sl (by have := hG.t.sep.own a.i; rw [har] at this; exact this)
      simp only at hva
      rw [hva] at x4 hE
      have hlow : lo ≤ wr.heap.size := Nat.le_trans hlo hG.lo.size
      have hff := Hid.mk hG.fin
      have hxl : Hid (∀ j, (xs j).length ≤ 5000 ∨ 1 < j) := ⟨fun j => by
        rw [← hxs]
        match j with
        | 0 => simp [xsOf]; omega
        | 1 => simp [xsOf]; omega
        | j + 2 => exact .inr (by omega)⟩
      replace hxs := Hid.mk hxs
      have hGh := Hid.mk hG
      replace hdr := Hid.mk hdr
      replace ham := Hid.mk ham
      clear h4 h7 q4 q7 hG hCa f4 f7 har
      go_wp2
      go_loopw [5, 4] (fun v g wx => ∃ j : Nat, j ≤ 30 ∧ v = .int .i64 (j : Int) ∧ (∃ ga gc, g = .slice ga (a.n + j) gc) ∧ LaE knPoints 13 lo bb W turn deep seen f Z' r' fz' a xs j g wx) (fun v _ _ => 30 - (intOf v).toNat)
      case atStart => exact ⟨0, by decide, rfl, ⟨va, vc, rfl⟩, hE.out⟩
      case round =>
        clear hE x4 x7 k4 k7
        obtain ⟨j, hj, rfl, ⟨ga, gc, rfl⟩, Z2, r2, fz2, f2, M, hL⟩ := hrel
        by_cases hj30 : j < 30
        · have hj30' : (j : Int) < 30 := by omega
          have hown := hL.l.sep.own a.i
          rw [hL.l.row] at hown
          simp only at hown
          have hlx : lo ≤ wr.heap.size := Nat.le_trans hlo hL.lo.size
          have hln : Hid ((a.L ++ M).length = (a.n + j) * 2) := ⟨hown.1⟩
          go_wp2_with (at_builtin; refine stopJ ?_)
          unfold StopJ
          generalize wrap64 (wrap64 (a.m + 6) + 5 * (j : Int)) = y
          have hAl : Below wr.heap.size wr (wr.alloc (.cells #[.int .i64 y, .float .f32 0] 64)) := (Below.refl _ _).alloc (Nat.le_refl _) _
          have hownA : (wr.alloc (.cells #[.int .i64 y, .float .f32 0] 64)).ownsRow lo 64 2 (.slice ga (a.n + j) gc) (a.n + j) (a.L ++ M) := hown.alloc _
          refine wpList_app _ rfl _ _ 24 rfl lo 64 iT _ 2 16 Tryz.underlying24 hT5 hT0 hT1 hT2 rfl (by decide) _ (a.n + j) (a.L ++ M) rfl hownA ⟨wr.heap.size, 0, none⟩ 1 1 [.int .i64 y, .float .f32 0] rfl rfl (lit2 wr _ _) (by simp [Value.oneCell']) (by unfold maxLen; omega) (by omega) (Nat.le_trans hlx hAl.size) ?_
          intro g' w9 ho9 hg9 hat9 hkp9
          obtain ⟨ga9, gc9, rfl⟩ := own_sl ho9
          have hnx : Hid (LaE knPoints 13 lo bb W turn deep seen f Z' r' fz' a xs (j + 1) (.slice ga9 (a.n + (j + 1)) gc9) w9) := ⟨hL.one hlo ha8 hAl ho9 hg9 hat9 hkp9 (goodPoints_snoc hL.gd hln.out y)⟩
          clear hL hown hownA ho9 hg9 hat9 hkp9
          go_wp2
          go_roundw
          case rel => exact ⟨j + 1, by omega, by first | rfl | go_num, ⟨ga9, gc9, rfl⟩, hnx.out⟩
          case measure => simp [intOf]; omega
        · obtain rfl : j = 30 := by omega
          clear hj hj30
          obtain ⟨Z3, hP1⟩ := hL.done ha8
          have hgd := Hid.mk hL.gd
          have hzz := Hid.mk hL.ff
          have hlg : Hid ((a.L ++ M).length = (a.n + 30) * 2) := ⟨by
            have := hL.l.sep.own a.i
            rw [hL.l.row] at this
            exact this.1⟩
          clear hL
          obtain ⟨a0, c0, kk, oo, hl1, nx1⟩ := hP1.push hlo (fun _ h => h.elim) (j := 0) (by decide)
          have k0 : wr.cell? ⟨bb, 121, none⟩ = some (.slice a0 (xs 0).length c0) := kk
          clear kk
          replace nx1 := Hid.mk nx1
          have h5a := (hxl.out 0).resolve_right (by decide)
          have h5b := (hxl.out 1).resolve_right (by decide)
          go_wp2_with (at_builtin; refine stopJ ?_)
          unfold StopJ
          refine wpList_app _ rfl _ _ 41 rfl lo 24 iS _ 1 24 Tryz.underlying41 hS5 hS0 hS1 hS2 rfl (by decide) (.slice a0 (xs 0).length c0) (xs 0).length (xs 0) rfl (oo.alloc _) ⟨wr.heap.size, 0, none⟩ 1 1 [.slice ga (a.n + 30) gc] rfl rfl (cell_one_new wr _ _) (by simp [Value.oneCell']) (by unfold maxLen; omega) (by omega) (Nat.le_trans hl1 (by simp)) ?_
          intro v9 w9 ho9 hg9 hat9 _
          obtain ⟨va0, vc0, rfl⟩ := own_sl ho9
          obtain ⟨hP2, y0, y0f⟩ := nx1.out _ _ _ ho9 hg9 hat9
          replace y0 : w9.cell? ⟨bb, 121, none⟩ = some (.slice a0 (xs 0).length c0) := y0
          replace y0f : w9.frozen? ⟨bb, 121, none⟩ = false := y0f
          replace hP2 : PS knPoints 13 lo bb W turn deep seen f (fun _ => False) Z3 ((.slice ga (a.n + 30) gc, a.n + 30, a.L ++ M) :: (a.v, a.n, a.L) :: fz2) (updR r' a.i nilRow) (updX (xs) 0 (xs 0 ++ [.slice ga (a.n + 30) gc])) (w9.setCell ⟨bb, 121, none⟩ (.slice va0 ((xs 0).length + 1) vc0)) := hP2
          clear ho9 hg9 hat9 k0 oo nx1 hP1
          replace hP2 := Hid.mk hP2
          go_upto_region 10 with fail
          clear y0 y0f
          generalize w9.setCell ⟨bb, 121, none⟩ (.slice va0 ((xs 0).length + 1) vc0) = WF at *
          replace hP2 := hP2.out
          obtain ⟨i9, -, hi8, hi9, hin⟩ := hff.out.free (k := 13) (by decide) a.i
          obtain ⟨a1, c1, kk, hlF, hX1, nx2⟩ := hP2.tell hlo (fun _ h => h.elim) (j := 1) (by decide) hi8 ((updR_ne _ _ hi9).trans hin)
          rw [show (updX xs 0 (xs 0 ++ [.slice ga (a.n + 30) gc])) 1 = xs 1 from rfl] at kk hX1 nx2
          have k1 : WF.cell? ⟨bb, 122, none⟩ = some (.slice a1 (xs 1).length c1) := kk
          have hX2 : Hid (∀ D, Below WF.heap.size WF D → D.cell? ⟨bb, 122, none⟩ = some (.slice a1 (xs 1).length c1) ∧ D.ownsRow lo 24 1 (.slice a1 (xs 1).length c1) (xs 1).length (xs 1)) := ⟨hX1⟩
          clear kk hX1 hin
          replace nx2 := Hid.mk nx2
          have D5 : Below WF.heap.size WF WF.drew := (Below.refl _ _).drew
          have DA : Below WF.drew.heap.size WF.drew (WF.drew.alloc (.cells #[] 64)) := (Below.refl _ _).alloc (Nat.le_refl _) _
          have m1' : WF.drew.cell? ⟨bb, 122, none⟩ = some (.slice a1 (xs 1).length c1) := k1
          have mA := (hX2.out _ (below_step D5 DA)).1
          have mB : (WF.alloc (.cells #[] 64)).drew.cell? ⟨bb, 122, none⟩ = some (.slice a1 (xs 1).length c1) := mA
          have hrw : Hid (∃ gb, ga = some ⟨gb, 0, none⟩ ∧ ∀ j u, (a.L ++ M)[j]? = some u → (WF.drew.alloc (.cells #[] 64)).cell? ((⟨gb, 0, none⟩ : Addr).add j) = some u) := ⟨by
            obtain ⟨r7, f7', hT7, -⟩ := hP2
            obtain ⟨ga', gc', eg, hz⟩ := hT7.sep.fz _ (List.mem_cons_self ..)
            simp only [Value.slice.injEq] at eg
            obtain ⟨rfl, -, rfl⟩ := eg
            obtain ⟨gb, rfl, -, hbl, hbc⟩ := hz.resolve_left (by simp)
            refine ⟨gb, rfl, fun j u hu => ?_⟩
            rw [show ((⟨gb, 0, none⟩ : Addr).add j) = ⟨gb, j, none⟩ by cases j <;> simp [Addr.add]]
            exact ((below_step D5 DA).cell (p := ⟨gb, j, none⟩) hbl).trans (hbc j u hu)⟩
          obtain ⟨gb, rfl, hsrc⟩ := hrw.out
          replace hsrc := Hid.mk hsrc
          have hone : Hid (∀ u ∈ a.L ++ M, u.oneCell' = true) := ⟨hgd.out.1⟩
          clear hrw
          go_region_law (first | (refine step_app (P := Tryz.prog) _ rfl _ _ 24 rfl WF.drew.heap.size 64 iT _ 2 16 Tryz.underlying24 hT5 hT0 hT1 hT2 rfl (by decide) _ 0 [] rfl (empty_own WF.drew _ 2) ⟨gb, 0, none⟩ (a.n + 30) _ (a.L ++ M) rfl hlg.out hsrc.out hone.out (by unfold maxLen; omega) (by omega) DA.size ?_; intro v8 w8 ho8 hg8 _ _; obtain ⟨hov8, hb8⟩ := copied_own ho8 hg8; rw [Nat.zero_add] at ho8; obtain ⟨p8, c8, rfl⟩ := own_sl ho8; have B8 := below_step D5 hb8; have m8 := (hX2.out _ B8).1; have A8 : Below w8.heap.size w8 (w8.alloc (.cells #[.slice p8 (a.n + 30) c8] 24)) := (Below.refl _ _).alloc (Nat.le_refl _) _; have B9 := below_step B8 A8; have m9 := (hX2.out _ B9).1; have hoS := (hX2.out _ B9).2; replace hov8 := Hid.mk hov8; clear ho8 hg8) | (refine step_app (P := Tryz.prog) _ rfl _ _ 41 rfl lo 24 iS _ 1 24 Tryz.underlying41 hS5 hS0 hS1 hS2 rfl (by decide) (.slice a1 (xs 1).length c1) (xs 1).length (xs 1) rfl hoS ⟨w8.heap.size, 0, none⟩ 1 1 [.slice p8 (a.n + 30) c8] rfl rfl (cell_one_new w8 _ _) (by simp [Value.oneCell']) (by unfold maxLen; omega) (by omega) (Nat.le_trans hlF B9.size) ?_; intro vt wt hot hgt hatt _; obtain ⟨pt, ct, rfl⟩ := own_sl hot; obtain ⟨hPn, y0, y0f⟩ := nx2.out _ _ _ _ _ _ B8 hov8.out hot hgt hatt; replace y0 : wt.cell? ⟨bb, 122, none⟩ = some (.slice a1 (xs 1).length c1) := y0; replace y0f : wt.frozen? ⟨bb, 122, none⟩ = false := y0f; replace hPn := Hid.mk hPn))
          all_goals (refine Met.intro ?_; go_step)
          all_goals
            have hnx : Hid (GwE knPoints 13 lo bb W turn deep seen fz f r O.length Q A (k + 1) (wt.setCell ⟨bb, 122, none⟩ (.slice pt ((xs 1).length + 1) ct))) := ⟨by
              obtain ⟨Z9, -, hP9⟩ := hPn.out
              exact hGh.out.next hdr.out ham.out hxs.out (fun y hy => List.mem_cons_of_mem _ (List.mem_cons_of_mem _ (List.mem_cons_of_mem _ (hzz.out y hy)))) (List.mem_cons_of_mem _ (List.mem_cons_of_mem _ (List.mem_cons_self ..))) (List.mem_cons_of_mem _ (List.mem_cons_self ..)) (List.mem_cons_self ..) (by omega) hgd.out hP9⟩
            clear hPn hX2 nx2 m1' mA mB m8 m9 hoS hov8 y0 y0f hot hgt hatt hsrc B8 B9 A8 DA D5 k1 hP2
            generalize wt.setCell ⟨bb, 122, none⟩ (.slice pt ((xs 1).length + 1) ct) = wz at *
            go_wp2
            go_roundw
            case rel => exact ⟨k + 1, by omega, by first | rfl | go_num, hnx.out⟩
            case measure => simp [intOf]; omega
    · have hlt' : ¬ (k : Int) < (A.length : Int) := by omega
      obtain rfl : k = A.length := by omega
      have hfin : Hid (GwD knPoints 13 lo bb W turn deep seen fz f r O.length Q A ((wr.setCell ⟨bb, 125, none⟩ (.slice none 0 0)).setCell ⟨bb, 128, none⟩ (.slice none 0 0))) := ⟨hG.done hlo⟩
      clear hG h4 h7
      go_wp2
      go_end0
      exact ⟨rfl, hfin.out⟩
end Go.Proofs.YthmjkmdbggfiiaaGreatDoor.KB


namespace Go.Proofs.YthmjkmdbggfiiaaGreatDoor.CF
open Go.RowKit
attribute [local go_sem] run_store_float

def SmP (most : Int) (w : World) (e : Ending) (w' : World) : Prop := ∃ r : Int, e = .returned (.int .i64 r) ∧ (-most ≤ r ∧ r ≤ most) ∧ w' = w
/-- Points with whole heights. -/
def WD (X Z : Nat → Int) (m : Nat) : Dots := (List.range m).map fun k => (X k, wholeN (Z k))
theorem WD_len (X Z : Nat → Int) (m : Nat) : (WD X Z m).length = m := by simp [WD]
theorem WD_get (X Z : Nat → Int) {m k : Nat} (h : k < m) : (WD X Z m).getD k (0, 0) = (X k, wholeN (Z k)) := by
  unfold WD
  rw [List.getD_eq_getElem?_getD, List.getElem?_map, List.getElem?_range h]
  rfl
theorem WD_succ (X Z : Nat → Int) (m : Nat) : WD X Z (m + 1) = WD X Z m ++ [(X m, wholeN (Z m))] := by
  unfold WD
  rw [List.range_succ, List.map_append]
  rfl
/-- In order, and small. -/
structure Snd (X Z : Nat → Int) (m : Nat) : Prop where
  rise : ∀ k, k + 1 < m → X k < X (k + 1)
  bdx : ∀ k, k < m → -100000 ≤ X k ∧ X k ≤ 100000
  bdz : ∀ k, k < m → (Z k).natAbs < 1000000
theorem WD_io {X Z : Nat → Int} {m : Nat} (h : Snd X Z m) : inO (WD X Z m) = true := by
  refine inO_true.2 fun k hk => ?_
  rw [WD_len] at hk
  obtain ⟨x1, x2, x3, x4⟩ := whole_parts (z := Z k) (by have := h.bdz k hk; omega)
  have hb := h.bdx k hk
  unfold gB
  rw [WD_get X Z hk]
  have e1 : bw (X k) = true := by unfold bw; exact decide_eq_true (by omega)
  have e2 : bf (wholeN (Z k)) = true := by unfold bf; exact decide_eq_true (by omega)
  by_cases h0 : k = 0
  · subst h0
    simp only [e1, e2]
    rfl
  · rw [WD_get X Z (k := k - 1) (by omega)]
    have hr := h.rise (k - 1) (by omega)
    rw [show k - 1 + 1 = k by omega] at hr
    simp only [e1, e2, decide_eq_true hr, Bool.or_true, Bool.and_self]
theorem WD_ok {X Z : Nat → Int} {m : Nat} (h : Snd X Z m) : Ok (WD X Z m) := by
  intro d hd
  unfold WD at hd
  rw [List.mem_map] at hd
  obtain ⟨k, hk, rfl⟩ := hd
  have hk2 := List.mem_range.1 hk
  have hb := h.bdx k hk2
  obtain ⟨x1, x2, x3, x4⟩ := whole_parts (z := Z k) (by have := h.bdz k hk2; omega)
  exact ⟨by show _ ≤ X k ∧ X k ≤ _; omega, x1⟩
/-- The places and heights of sound. -/
def stp (D : Dots) (k : Nat) : Int := (((D.getD k (0, 0)).1.tmod 1000).natAbs : Nat)
def sX (D : Dots) : Nat → Int
  | 0 => -1000
  | k + 1 => sX D k + 1 + stp D k
def sZ (D : Dots) (k : Nat) : Int := (((D.getD k (0, 0)).2 % 20001 : Nat) : Int) - 10000
theorem stp_b (D : Dots) (k : Nat) : 0 ≤ stp D k ∧ stp D k ≤ 999 := by
  unfold stp
  generalize (D.getD k (0, 0)).1 = x
  have h1 := Int.tmod_lt_of_pos x (show (0 : Int) < 1000 by decide)
  have h2 : -1000 < x.tmod 1000 := by
    have := Int.lt_tmod_of_pos x (show (0 : Int) < 1000 by decide)
    omega
  omega
theorem sX_b (D : Dots) : ∀ k : Nat, -1000 + (k : Int) ≤ sX D k ∧ sX D k ≤ -1000 + 1000 * (k : Int)
  | 0 => ⟨by show _ ≤ (-1000 : Int); omega, by show (-1000 : Int) ≤ _; omega⟩
  | k + 1 => by
    have h1 := sX_b D k
    have h2 := stp_b D k
    have e : sX D (k + 1) = sX D k + 1 + stp D k := rfl
    rw [e]
    omega
theorem snd_D (D : Dots) {m : Nat} (hm : m ≤ 64) : Snd (fun k => sX D (k + 1)) (sZ D) m := by
  refine ⟨fun k _ => ?_, fun k hk => ?_, fun k _ => ?_⟩
  · show sX D (k + 1) < sX D (k + 1 + 1)
    have h2 := stp_b D (k + 1)
    have e : sX D (k + 1 + 1) = sX D (k + 1) + 1 + stp D (k + 1) := rfl
    rw [e]
    omega
  · have h := sX_b D (k + 1)
    show _ ≤ sX D (k + 1) ∧ sX D (k + 1) ≤ _
    omega
  · unfold sZ
    omega
def SoP (D : Dots) (w : World) (e : Ending) (w' : World) : Prop := ∃ a c, e = .returned (.slice a (min D.length 64) c) ∧ w'.ownsRow w.heap.size 64 2 (.slice a (min D.length 64) c) (min D.length 64) (ptV (WD (fun k => sX D (k + 1)) (sZ D) (min D.length 64))) ∧ Below w.heap.size w w'
set_option maxRecDepth 8000 in
set_option maxHeartbeats 2000000 in
theorem sound_any (D : Dots) (hD : Ok D) (hl : D.length ≤ 8796093021952) (a : Option Addr) (c : Nat) (w : World) (h : RtAt w a D) : Calls Tryz.prog 5 #[.slice a D.length c] w (SoP D w) := by
  obtain ⟨i0, hi, hz0, hz1, hz2⟩ := info_parts infoP
  go_enter Tryz.func5, Tryz.ntmps5
  go_wp2_with fail
  go_loopw [3, 4, 5] (fun pv xv v wr => ∃ k : Nat, k ≤ min D.length 64 ∧ xv = .int .i64 (sX D k) ∧ v = .int .i64 (k : Int) ∧ wr.ownsRow w.heap.size 64 2 pv k (ptV (WD (fun k => sX D (k + 1)) (sZ D) k)) ∧ Below w.heap.size w wr) (fun _ _ v _ => min D.length 64 - (intOf v).toNat)
  case atStart => exact ⟨0, by omega, rfl, rfl, World.ownsRow_nil _ _ _ _, Below.refl _ _⟩
  case round =>
    obtain ⟨k, hk, rfl, rfl, ho, hB⟩ := hrel
    by_cases hlt : k < min D.length 64
    · have hlt1 : (k : Int) < (D.length : Int) := by omega
      have hlt2 : (k : Int) < 64 := by omega
      have hk0 : (0 : Int) ≤ (k : Int) := by omega
      obtain ⟨b, off, rfl, hc⟩ := (h.later hB).cells (k := k) (by omega)
      obtain ⟨s0, s1⟩ := hc k (by omega)
      have hd := hD.getD k
      have hxb : -1000 ≤ sX D k ∧ sX D k ≤ 63000 := by have := sX_b D k; omega
      have hsb := stp_b D k
      have hX1 : Hid (sX D (k + 1) = sX D k + 1 + stp D k) := ⟨rfl⟩
      have hW1 : Hid (WD (fun k => sX D (k + 1)) (sZ D) (k + 1) = WD (fun k => sX D (k + 1)) (sZ D) k ++ [(sX D (k + 1), wholeN (sZ D k))]) := ⟨WD_succ _ _ _⟩
      have hst : Hid (stp D k = (((D.getD k (0, 0)).1.tmod 1000).natAbs : Nat)) := ⟨rfl⟩
      have hsz : (((D.getD k (0, 0)).2 : Int).tmod 20001) - 10000 = sZ D k := by
        unfold sZ
        rw [Int.tmod_eq_emod_of_nonneg (by omega)]
        omega
      have hzz : -10000 ≤ sZ D k ∧ sZ D k ≤ 10000 := by unfold sZ; omega
      have hm2 : 0 ≤ (((D.getD k (0, 0)).2 : Int).tmod 20001) ∧ (((D.getD k (0, 0)).2 : Int).tmod 20001) ≤ 20000 := by omega
      have hcv := conv_f32 (sZ D k)
      have hmb := Int.tmod_lt_of_pos (D.getD k (0, 0)).1 (show (0 : Int) < 1000 by decide)
      have hmb2 := Int.lt_tmod_of_pos (D.getD k (0, 0)).1 (show (0 : Int) < 1000 by decide)
      obtain ⟨tm, htm⟩ : ∃ t, (D.getD k (0, 0)).1.tmod 1000 = t := ⟨_, rfl⟩
      rw [htm] at hst hmb hmb2
      generalize wholeN (sZ D k) = U at *
      generalize sZ D k = zz at *
      obtain ⟨x', hx'⟩ : ∃ x', x' = sX D (k + 1) := ⟨_, rfl⟩
      rw [← hx'] at hX1 hW1
      replace hx' := Hid.mk hx'
      generalize sX D k = x at *
      generalize stp D k = st at *
      obtain ⟨tz, htz⟩ : ∃ t, ((D.getD k (0, 0)).2 : Int).tmod 20001 = t := ⟨_, rfl⟩
      rw [htz] at hsz hm2
      generalize (D.getD k (0, 0)).1 = dx at *
      generalize (D.getD k (0, 0)).2 = dy at *
      clear hc hD h
      go_upto_if 24 with fail
      go_cut [6] (fun v wx => v = .int .i64 st ∧ wx = wr)
      case first =>
        by_cases hneg : tm < 0
        · have e : -tm = st := by rw [hst.out]; omega
          go_wp2
          go_meet
          exact ⟨rfl, rfl⟩
        · have e : Hid (tm = st) := ⟨by rw [hst.out]; omega⟩
          go_wp2
          go_meet
          exact ⟨by rw [e.out], rfl⟩
      case rest =>
        obtain ⟨rfl, hwc⟩ := hcut
        subst wc
        have hx1 : x + 1 + st = x' := hX1.out.symm
        have ho4 := ho.alloc (.cells #[.int .i64 x', .float .f32 U] 64)
        have hB4 : Below w.heap.size w (wr.alloc (.cells #[.int .i64 x', .float .f32 U] 64)) := hB.alloc hB.size _
        have hlv := Hid.mk (fun (j : Nat) hj => (ho.lt j hj).1)
        clear hX1 hst ho hB
        go_wp2_with (at_builtin; refine wpList_append_own _ rfl _ _ 24 rfl w.heap.size 64 i0 _ 2 16 Tryz.underlying24 hi hz0 hz1 hz2 rfl (by decide) _ k _ rfl ho4 ⟨wr.heap.size, 0, none⟩ 1 1 [.int .i64 x', .float .f32 U] rfl rfl (lit_at wr _ _) (by simp [Value.oneCell']) (by unfold maxLen; omega) (by omega) hB4.size ?_; intro v5 w5 hown5 hgrow5 _; have hB5 := hB4.grown hgrow5 hB4.size hlv.out)
        go_roundw
        case rel => exact ⟨k + 1, by omega, by rw [hx'.out], by go_num, by rw [hW1.out, ptV_snoc]; exact hown5, hB5⟩
        case measure => simp [intOf]; omega
    · have hke : k = min D.length 64 := by omega
      rw [hke] at ho
      obtain ⟨p, cp, rfl⟩ := own_lenW ho
      by_cases h1 : k < D.length
      · have h1' : (k : Int) < (D.length : Int) := by omega
        have h2' : ¬ (k : Int) < 64 := by omega
        clear hke hlt hk
        go_wp2
        go_ret
        exact ⟨_, _, rfl, ho, hB⟩
      · have h1' : ¬ (k : Int) < (D.length : Int) := by omega
        clear hke hlt hk
        go_wp2
        go_ret
        exact ⟨_, _, rfl, ho, hB⟩
end Go.Proofs.YthmjkmdbggfiiaaGreatDoor.CF
