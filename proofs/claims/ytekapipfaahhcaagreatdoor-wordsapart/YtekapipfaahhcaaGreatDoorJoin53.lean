import Derived.Test.YtekapipfaahhcaaGreatDoorJoin50
import Derived.Deep.RegionHeldLaw
import Derived.Deep.RegionLaw
import Derived.Test.YtekapipfaahhcaaGreatDoorJoin48
/- growTokens. -/
namespace Go.Proofs.YtekapipfaahhcaaGreatDoor.KB
open Go.RowKit
set_option linter.constructorNameAsVariable false

/-- The state of one list's laying on. -/
def LayE (lo bb : Nat) (W : World) (turn deep : Int) (f : Nat → Nat → Value) (seen : Nat → Int) (Z : Nat → Prop) (r : Nat → Row) (fz : List (Value × List Tk)) (a : Fr) (j : Nat) (g : Value) (X : World) : Prop :=
  ∃ Z' r' fz' M, Lay X lo bb Z' r' fz' a.i a.v a.L g M ∧ M.length = j ∧ BkAt X bb turn deep f seen ∧ (∀ z, Z z → Z' z) ∧ (∀ y ∈ fz, y ∈ fz') ∧ (∀ k, k ≠ a.i → r' k = r k) ∧ Below lo W X
theorem own_slice' {W : World} {base n size : Nat} {e : TypeId} {v : Value} {xs : List Value} (h : W.ownsRow base e size v n xs) : ∃ a c, v = .slice a n c := by
  obtain ⟨a, c, e, -⟩ := own_len h
  exact ⟨a, c, e⟩
theorem lit5 (w : World) (x : Tk) : ∀ j u, (tkL x)[j]? = some u → (w.alloc (.cells (tkL x).toArray 66)).cell? ((⟨w.heap.size, 0, none⟩ : Addr).add j) = some u := by
  intro j u hj
  match j, hj with
  | 0, hj => simp [tkL] at hj; subst hj; simp [Addr.add, tkL]
  | 1, hj => simp [tkL] at hj; subst hj; simp [Addr.add, tkL]
  | 2, hj => simp [tkL] at hj; subst hj; simp [Addr.add, tkL]
  | 3, hj => simp [tkL] at hj; subst hj; simp [Addr.add, tkL]
  | 4, hj => simp [tkL] at hj; subst hj; simp [Addr.add, tkL]

set_option maxRecDepth 8000 in
set_option maxHeartbeats 2000000 in
theorem growTokens_any {W : World} {lo bb : Nat} {Z : Nat → Prop} {r : Nat → Row} {fz : List (Value × List Tk)} {turn deep : Int} {f : Nat → Nat → Value} {seen : Nat → Int} {O : List Ot} {Q : List Wt} {A : List Fr} (h : TkG W lo bb Z r fz turn deep f seen O Q A A) (hlo : lo ≤ W.heap.size) (hA : A.length ≤ 1000) (hO : O.length ≤ 1000) :
    Calls Tryz.prog 113 #[.pointer (some ⟨bb, 0, none⟩)] W fun e X => e = .returned (.tuple #[]) ∧ ∃ Z' r' fz' f' O', TkS X lo bb Z' r' fz' turn deep f' seen O' Q ∧ O'.length = O.length + A.length ∧ Below lo W X ∧ ∀ y ∈ fz, y ∈ fz' := by
  have hI : Hid (∃ Z' r' fz' f' O', TkG W lo bb Z' r' fz' turn deep f' seen O' Q A (A.drop 0) ∧ O'.length = O.length + 0 ∧ Below lo W W ∧ ∀ y ∈ fz, y ∈ fz') := ⟨Z, r, fz, f, O, h, rfl, Below.refl _ _, fun y hy => hy⟩
  clear h
  go_enter Tryz.func113, Tryz.ntmps113
  go_wp2
  go_loopw [2] (fun v wr => ∃ k : Nat, k ≤ A.length ∧ v = .int .i64 (k : Int) ∧ ∃ Z' r' fz' f' O', TkG wr lo bb Z' r' fz' turn deep f' seen O' Q A (A.drop k) ∧ O'.length = O.length + k ∧ Below lo W wr ∧ ∀ y ∈ fz, y ∈ fz') (fun v _ => A.length - (intOf v).toNat)
  case atStart => exact ⟨0, Nat.zero_le _, rfl, hI.out⟩
  case round =>
    clear hI
    obtain ⟨k, hk, rfl, Z', r', fz', f', O', hG, hOl, hb, hFF⟩ := hrel
    have hO'l : O'.length ≤ 3000 := by omega
    replace hOl := Hid.mk hOl
    replace hFF := Hid.mk hFF
    have o4 := hG.sep.own 4
    have o7 := hG.sep.own 7
    rw [hG.s4] at o4
    rw [hG.s7] at o7
    obtain ⟨a4, c4, e4, h4⟩ := own_len o4
    obtain ⟨a7, c7, e7, h7⟩ := own_len o7
    simp only at e4 e7 h4 h7
    have k4 : wr.cell? ⟨bb, 71, none⟩ = some (.slice a4 A.length c4) := (hG.bk.cell (i := 71) (by decide)).trans (congrArg some e4)
    have k7 : wr.cell? ⟨bb, 74, none⟩ = some (.slice a7 A.length c7) := (hG.bk.cell (i := 74) (by decide)).trans (congrArg some e7)
    by_cases hlt : k < A.length
    · have hlt' : (k : Int) < (A.length : Int) := by omega
      have hk0 : (0 : Int) ≤ (k : Int) := by omega
      have hdr : A.drop k = A[k] :: A.drop (k + 1) := List.drop_eq_getElem_cons hlt
      obtain ⟨g4, rfl, l4, q4⟩ := h4 (by omega)
      obtain ⟨g7, rfl, l7, q7⟩ := h7 (by omega)
      have x4 := q4 k A[k].v (by omega) (by simp [hlt])
      have x7 := q7 k (.int .i64 A[k].m) (by omega) (by simp [intV, hlt])
      rw [hdr] at hG
      generalize A[k] = a at *
      obtain ⟨ha8, har⟩ := hG.cB a (List.mem_cons_self ..)
      have hal := hG.lB a (List.mem_cons_self ..)
      have hE : Hid (LayE lo bb W turn deep f' seen Z' r' fz' a 0 a.v wr) := ⟨Z', r', fz', [], ⟨hG.sep, by rw [har, List.append_nil], by
        have := hG.sep.own a.i
        rw [har] at this
        exact (RwZ.of_own this).more (fun b hb => .inr hb)⟩, rfl, hG.bk, fun z hz => hz, fun y hy => hy, fun k _ => rfl, hb⟩
      obtain ⟨va, vc, hva⟩ := own_slice' (by have := hG.sep.own a.i; rw [har] at this; exact this)
      simp only at hva
      rw [hva] at x4 hE
      have hGh := Hid.mk hG
      have hlow : lo ≤ wr.heap.size := Nat.le_trans hlo hb.size
      clear h4 h7 q4 q7 e4 e7 o4 o7 hG hb
      go_wp2
      go_loopw [5, 4] (fun v g wx => ∃ j : Nat, j ≤ 30 ∧ v = .int .i64 (j : Int) ∧ (∃ ga gc, g = .slice ga (a.L.length + j) gc) ∧ LayE lo bb W turn deep f' seen Z' r' fz' a j g wx) (fun v _ _ => 30 - (intOf v).toNat)
      case atStart => exact ⟨0, by decide, rfl, ⟨va, vc, rfl⟩, hE.out⟩
      case round =>
        clear hE x4 x7 k4 k7
        obtain ⟨j, hj, rfl, ⟨ga, gc, rfl⟩, hL⟩ := hrel
        by_cases hj30 : j < 30
        · have hj30' : (j : Int) < 30 := by omega
          obtain ⟨Z2, r2, fz2, M, hLay, hMl, hbk, hZ2, hfz2, hr2, hb2⟩ := hL
          have hown := hLay.sep.own a.i
          rw [hLay.row] at hown
          have hlen : (a.L ++ M).length = a.L.length + j := by rw [List.length_append, hMl]
          simp only [hlen] at hown
          obtain ⟨i0, hi5, hz0, hz1, hz2⟩ := info_parts infoTk
          have hlx : lo ≤ wr.heap.size := Nat.le_trans hlo hb2.size
          have hMl' := Hid.mk hMl
          have hlen' := Hid.mk hlen
          clear hMl hlen
          go_wp2_with (at_builtin; refine stopJ ?_)
          unfold StopJ
          generalize wrap64 (wrap64 (a.m + 6) + 5 * (j : Int)) = y
          have hAl : Below wr.heap.size wr (wr.alloc (.cells #[.int .i64 0, .int .i64 y, .string ⟨#[]⟩, .int .i64 0, .int .i64 0] 66)) := (Below.refl _ _).alloc (Nat.le_refl _) _
          have hLa := hLay.later hAl
          have hownA : (wr.alloc (.cells #[.int .i64 0, .int .i64 y, .string ⟨#[]⟩, .int .i64 0, .int .i64 0] 66)).ownsRow lo 66 5 (.slice ga (a.L.length + j) gc) (a.L.length + j) (tkLs (a.L ++ M)) := hown.alloc _
          refine wpList_app _ rfl _ _ 51 rfl lo 66 i0 _ 5 48 Tryz.underlying51 hi5 hz0 hz1 hz2 rfl (by decide) _ (a.L.length + j) (tkLs (a.L ++ M)) rfl hownA ⟨wr.heap.size, 0, none⟩ 1 1 (tkL (0, y, ⟨#[]⟩, 0, 0)) rfl rfl (lit5 wr (0, y, ⟨#[]⟩, 0, 0)) (by simp [tkL, Value.oneCell']) (by unfold maxLen; omega) (by omega) (Nat.le_trans hlx hAl.size) ?_
          intro g' w9 ho9 hg9 hat9 hkp9
          obtain ⟨ga9, gc9, rfl⟩ := own_slice' ho9
          have hnx : Hid (LayE lo bb W turn deep f' seen Z' r' fz' a (j + 1) (.slice ga9 (a.L.length + (j + 1)) gc9) w9) := ⟨by
            obtain ⟨Z9, fz9, hL9, hZ9, hf9⟩ := hLa.one (x := (0, y, ⟨#[]⟩, 0, 0)) (by rw [hlen'.out]; exact ho9) hg9 hat9 hkp9
            have hnb : ¬ (Value.slice ga (a.L.length + j) gc).ownBlock = some bb := fun e => (hLay.sep.rz a.i bb (by rw [hLay.row]; exact e)).2 rfl
            refine ⟨Z9, _, fz9, M ++ [(0, y, ⟨#[]⟩, 0, 0)], hL9, by rw [List.length_append, hMl'.out]; rfl, BkAt.grS ((hAl.block _ hbk.lt).trans hbk) (.of_grown hg9 (fun k e => e) : GrS (fun k => (Value.slice ga (a.L.length + j) gc).ownBlock = some k) _ _) hnb, fun z hz => hZ9 z (hZ2 z hz), fun y' hy => hf9 _ (hfz2 _ hy), fun k' hk' => (updR_ne _ _ hk').trans (hr2 k' hk'), ?_⟩
            refine (hb2.trans (hAl.mono hlx)).trans ((GrS.of_grown hg9 (fun k e => e) : GrS (fun k => (Value.slice ga (a.L.length + j) gc).ownBlock = some k) _ _).below (Nat.le_trans hlx hAl.size) (fun k e => ?_))
            exact (own_rowT (hLay.sep.own a.i) (by rw [hLay.row]; exact e)).1⟩
          clear hLa hLay hown hownA hbk ho9 hg9 hat9 hkp9 hZ2 hfz2 hr2
          go_wp2
          go_roundw
          case rel => exact ⟨j + 1, by omega, by first | rfl | go_num, ⟨ga9, gc9, rfl⟩, hnx.out⟩
          case measure => simp [intOf]; omega
        · obtain rfl : j = 30 := by omega
          clear hj hj30
          obtain ⟨Z2, r2, fz2, M, hLay, hMl, hbk, hZ2, hfz2, hr2, hb2⟩ := hL
          obtain ⟨Z3, hS3⟩ := hLay.done
          have hG := hGh.out
          have hlx : lo ≤ wr.heap.size := Nat.le_trans hlo hb2.size
          have hrow : ∀ k', k' ≠ a.i → updR r2 a.i nilRow k' = r' k' := fun k' hk' => (updR_ne _ _ hk').trans (hr2 k' hk')
          have o0 := hS3.own 0
          have o1 := hS3.own 1
          rw [hrow 0 (by omega), hG.s0] at o0
          rw [hrow 1 (by omega), hG.s1] at o1
          obtain ⟨a0, c0, e0, -⟩ := own_len o0
          obtain ⟨a1, c1, e1, -⟩ := own_len o1
          simp only at e0 e1 o0 o1
          have k0 : wr.cell? ⟨bb, 67, none⟩ = some (.slice a0 O'.length c0) := (hbk.cell (i := 67) (by decide)).trans (congrArg some e0)
          obtain ⟨i0, hi5, hz0, hz1, hz2⟩ := info_parts infoTs
          rw [e0] at o0
          have hLM : (a.L ++ M).length = a.L.length + 30 := by rw [List.length_append, hMl]
          have hglen := hLay.row
          have hnl : lo ≤ bb := hS3.bl.1
          have hg0 := hS3.fz (Value.slice ga (a.L.length + 30) gc, a.L ++ M) (List.mem_cons_self ..)
          have hS3h := Hid.mk hS3
          have hbkh := Hid.mk hbk
          have hLMh := Hid.mk hLM
          have hZ2h := Hid.mk hZ2
          have hfz2h := Hid.mk hfz2
          have hrowh := Hid.mk hrow
          have o1h := Hid.mk o1
          have hb2h := Hid.mk hb2
          have hMlh := Hid.mk hMl
          clear hLay hG hr2 hS3 hbk hLM hZ2 hfz2 hrow o1 hglen hMl hb2 hg0
          go_wp2_with (at_builtin; refine stopJ ?_)
          unfold StopJ
          refine wpList_app _ rfl _ _ 32 rfl lo 51 i0 _ 1 24 Tryz.underlying32 hi5 hz0 hz1 hz2 rfl (by decide) _ O'.length (O'.map (·.v)) rfl (o0.alloc _) ⟨wr.heap.size, 0, none⟩ 1 1 [.slice ga (a.L.length + 30) gc] rfl rfl (cell_one_new wr _ _) (by simp [Value.oneCell']) (by unfold maxLen; omega) (by omega) (Nat.le_trans hlx (by simp)) ?_
          intro v9 w9 ho9 hg9 hat9 _
          obtain ⟨va9, vc9, rfl⟩ := own_slice' ho9
          have hp := push hbkh.out hS3h.out (i := 0) (k := 7) (j := 0) (by decide) (by decide) ((hrowh.out 0 (by omega)).trans hGh.out.s0) (x := .slice ga (a.L.length + 30) gc) ho9 (by rw [e0]; exact hg9) (by rw [e0]; exact hat9) (o := 67) rfl
          obtain ⟨hbk9, hS9, y0, y0f, hGr9⟩ := hp
          rw [e0] at y0
          have b9 : Below lo W (w9.setCell ⟨bb, 67, none⟩ (.slice va9 (O'.length + 1) vc9)) := hb2h.out.trans (hGr9.below hlx (fun b e => e.elim (fun e => (own_rowT o0 (by rw [← e0]; exact e)).1) (fun e => e ▸ hnl)))
          have hlx9 : lo ≤ (w9.setCell ⟨bb, 67, none⟩ (.slice va9 (O'.length + 1) vc9)).heap.size := Nat.le_trans hlx hGr9.size
          clear hGr9 ho9 hg9 hat9 k0
          replace hbk9 := Hid.mk hbk9
          replace hS9 := Hid.mk hS9
          replace b9 := Hid.mk b9
          go_upto_region 10 with fail
          clear y0 y0f
          generalize w9.setCell ⟨bb, 67, none⟩ (.slice va9 (O'.length + 1) vc9) = W10 at *
          have D5 : Below W10.heap.size W10 W10.drew := (Below.refl _ _).drew
          have bkX := Hid.mk (fun X (hX : Below W10.heap.size W10 X) => ((hbk9.out.later hX).cell (i := 68) (by decide)).trans (congrArg some (show upd f' 7 0 (.slice va9 (O'.length + 1) vc9) 7 1 = _ from e1)))
          have m1 := bkX.out _ (Below.refl _ _)
          have m1' := bkX.out _ D5
          have hgX := Hid.mk (fun X (hX : Below W10.heap.size W10 X) => (hS9.out.later hX).fz (Value.slice ga (a.L.length + 30) gc, a.L ++ M) (List.mem_cons_self ..))
          obtain ⟨gaa, gcc, egg, hgs⟩ := hgX.out _ D5
          obtain ⟨gb, egb, -, hgbl, hgc⟩ := hgs.resolve_left (fun e => by have h9 := hLMh.out; rw [show a.L ++ M = [] from e] at h9; simp at h9)
          simp only [Value.slice.injEq] at egg
          obtain ⟨rfl, -, rfl⟩ := egg
          subst egb
          obtain ⟨iT, hT5, hT0, hT1, hT2⟩ := info_parts infoTk
          have DA : Below W10.drew.heap.size W10.drew (W10.drew.alloc (.cells #[] 66)) := (Below.refl _ _).alloc (Nat.le_refl _) _
          have mA := bkX.out _ (below_step D5 DA)
          have mB : (W10.alloc (.cells #[] 66)).drew.cell? ⟨bb, 68, none⟩ = some (.slice a1 O'.length c1) := mA
          have hsrc : ∀ j u, (tkLs (a.L ++ M))[j]? = some u → (W10.drew.alloc (.cells #[] 66)).cell? ((⟨gb, 0, none⟩ : Addr).add j) = some u := fun j u hu => by
            rw [show ((⟨gb, 0, none⟩ : Addr).add j) = ⟨gb, j, none⟩ by cases j <;> simp [Addr.add]]
            exact (DA.cell (p := ⟨gb, j, none⟩) hgbl).trans (hgc j u hu)
          have hsl : (tkLs (a.L ++ M)).length = (a.L.length + 30) * 5 := by rw [tkLs_len, hLMh.out]
          replace hsrc := Hid.mk hsrc
          replace hsl := Hid.mk hsl
          have hr1 : Hid (updR (updR r2 a.i nilRow) 0 ⟨51, 1, .slice va9 (O'.length + 1) vc9, O'.length + 1, O'.map (·.v) ++ [.slice (some ⟨gb, 0, none⟩) (a.L.length + 30) gc]⟩ 1 = ⟨51, 1, f' 7 1, O'.length, O'.map (·.t)⟩) := ⟨(updR_ne _ _ (by decide)).trans ((hrowh.out 1 (by omega)).trans hGh.out.s1)⟩
          have hoX := Hid.mk (fun X (hX : Below W10.heap.size W10 X) => (hS9.out.later hX).own 1)
          rw [hr1.out] at hoX
          simp only [e1] at hoX
          have hf1 : Hid (upd f' 7 0 (.slice va9 (O'.length + 1) vc9) 7 1 = .slice a1 O'.length c1) := ⟨e1⟩
          clear hgs hgc hgX
          go_region_law (first | (refine step_app (P := Tryz.prog) _ rfl _ _ 51 rfl W10.drew.heap.size 66 iT _ 5 48 Tryz.underlying51 hT5 hT0 hT1 hT2 rfl (by decide) _ 0 [] rfl (empty_own W10.drew _ 5) ⟨gb, 0, none⟩ (a.L.length + 30) gc (tkLs (a.L ++ M)) rfl hsl.out hsrc.out (tkLs_one _) (by unfold maxLen; omega) (by omega) DA.size ?_; intro v8 w8 ho8 hg8 _ _; obtain ⟨hov8, hb8⟩ := copied_own hLMh.out.symm ho8 hg8; rw [Nat.zero_add] at ho8; obtain ⟨p8, c8, rfl⟩ := own_slice' ho8; have B8 := below_step D5 hb8; have m8 := bkX.out _ B8; have A8 : Below w8.heap.size w8 (w8.alloc (.cells #[.slice p8 (a.L.length + 30) c8] 51)) := (Below.refl _ _).alloc (Nat.le_refl _) _; have B9 := below_step B8 A8; have m9 := bkX.out _ B9; have hoS := hoX.out _ B9; replace hov8 := Hid.mk hov8; clear ho8 hg8) | (refine step_app (P := Tryz.prog) _ rfl _ _ 32 rfl lo 51 i0 _ 1 24 Tryz.underlying32 hi5 hz0 hz1 hz2 rfl (by decide) (.slice a1 O'.length c1) O'.length (O'.map fun o => o.t) rfl hoS ⟨w8.heap.size, 0, none⟩ 1 1 [.slice p8 (a.L.length + 30) c8] rfl rfl (cell_one_new w8 _ _) (by simp [Value.oneCell']) (by unfold maxLen; omega) (by omega) (Nat.le_trans hlx9 B9.size) ?_; intro vt wt hot hgt hatt _; obtain ⟨pt, ct, rfl⟩ := own_slice' hot; have hTl := Hid.mk (tell hbk9.out hS9.out hlx9 (i := a.i) (j := 1) ((updR_ne _ _ (by omega)).trans (updR_same _ _ _)) (by decide) (by omega) B8 hov8.out hr1.out hot (by rw [hf1.out]; exact hgt) (by rw [hf1.out]; exact hatt) (o := 68) rfl); obtain ⟨-, -, -, -, -, -, n1, n2, -, -⟩ := hTl.out; replace n1 : wt.cell? ⟨bb, 68, none⟩ = some (.slice a1 O'.length c1) := n1.trans (congrArg some hf1.out)))
          all_goals (refine Met.intro ?_; go_step)
          all_goals
            have hnx : Hid (∃ Z9 r9 fz9 f9 O9, TkG (wt.setCell ⟨bb, 68, none⟩ (.slice pt (O'.length + 1) ct)) lo bb Z9 r9 fz9 turn deep f9 seen O9 Q A (A.drop (k + 1)) ∧ O9.length = O.length + (k + 1) ∧ Below lo W (wt.setCell ⟨bb, 68, none⟩ (.slice pt (O'.length + 1) ct)) ∧ ∀ y ∈ fz, y ∈ fz9) := ⟨by
              obtain ⟨Zt, rt, t1, t2, t3, t4, -, -, t7, -⟩ := hTl.out
              have G := hGh.out
              have hnd := G.dQ
              simp only [List.map_cons, List.cons_append, List.nodup_cons] at hnd
              have hrE : ∀ q, q ≠ 0 → q ≠ 1 → q ≠ a.i → rt q = r' q := fun q h0 h1 ha => (t4 q h1).trans ((updR_ne _ _ h0).trans (hrowh.out q ha))
              have hnQ : ∀ q ∈ Q, q.i ≠ a.i := fun q hq e => hnd.1 (List.mem_append_right _ (List.mem_map.2 ⟨q, hq, e⟩))
              have hnB : ∀ b ∈ A.drop (k + 1), b.i ≠ a.i := fun b hb e => hnd.1 (List.mem_append_left _ (List.mem_map.2 ⟨b, hb, e⟩))
              have hfzS : ∀ y ∈ fz', y ∈ (Value.slice p8 (a.L.length + 30) c8, a.L ++ M) :: (Value.slice (some ⟨gb, 0, none⟩) (a.L.length + 30) gc, a.L ++ M) :: (a.v, a.L) :: fz2 := fun y hy => List.mem_cons_of_mem _ (List.mem_cons_of_mem _ (List.mem_cons_of_mem _ (hfz2h.out y hy)))
              refine ⟨Zt, rt, _, _, O' ++ [⟨.slice (some ⟨gb, 0, none⟩) (a.L.length + 30) gc, .slice p8 (a.L.length + 30) c8, a.L ++ M⟩], ⟨t1, fun q hq j => ?_, t2, ?_, ?_, ?_, ?_, ?_, ?_, ?_, ?_, fun o ho => ?_, fun q hq => ?_, fun b hb => ?_, hnd.2, fun o ho => ?_, G.lQ, fun b hb => G.lB b (List.mem_cons_of_mem _ hb), by obtain ⟨N, hN⟩ := G.fin; exact ⟨max N (max 8 (a.i + 1)), fun i hi => (hrE i (by omega) (by omega) (by omega)).trans (hN i (by omega))⟩⟩, by rw [List.length_append, hOl.out]; simp; omega, b9.out.trans t7, fun y hy => hfzS y (hFF.out y hy)⟩
              · have e1' : upd (upd f' 7 0 (.slice va9 (O'.length + 1) vc9)) 7 1 (.slice pt (O'.length + 1) ct) q j = f' q j := by
                  unfold upd
                  rw [if_neg (fun e => hq e.1), if_neg (fun e => hq e.1)]
                exact e1'.trans (G.nil q hq j)
              · rw [t4 0 (by decide), updR_same]
                simp [upd]
              · rw [t3]
                simp [upd]
              · exact (hrE 2 (by decide) (by decide) (by omega)).trans G.s2
              · exact (hrE 3 (by decide) (by decide) (by omega)).trans G.s3
              · exact (hrE 4 (by decide) (by decide) (by omega)).trans G.s4
              · exact (hrE 5 (by decide) (by decide) (by omega)).trans G.s5
              · exact (hrE 6 (by decide) (by decide) (by omega)).trans G.s6
              · exact (hrE 7 (by decide) (by decide) (by omega)).trans G.s7
              · rcases List.mem_append.1 ho with ho | ho
                · obtain ⟨h1, h2⟩ := G.cO o ho
                  refine ⟨?_, hfzS _ h2⟩
                  rcases h1 with h1 | ⟨b, hb, h1, h1'⟩
                  · exact .inl (hfzS _ h1)
                  · rcases List.mem_cons.1 hb with rfl | hb
                    · exact .inl (by rw [← h1, ← h1']; exact List.mem_cons_of_mem _ (List.mem_cons_of_mem _ (List.mem_cons_self ..)))
                    · exact .inr ⟨b, hb, h1, h1'⟩
                · rw [List.mem_singleton.1 ho]
                  exact ⟨.inl (List.mem_cons_of_mem _ (List.mem_cons_self ..)), List.mem_cons_self ..⟩
              · obtain ⟨h1, h2, h3⟩ := G.cQ q hq
                exact ⟨h1, (hrE q.i (by omega) (by omega) (hnQ q hq)).trans h2, hfzS _ h3⟩
              · obtain ⟨h1, h2⟩ := G.cB b (List.mem_cons_of_mem _ hb)
                exact ⟨h1, (hrE b.i (by omega) (by omega) (hnB b hb)).trans h2⟩
              · rcases List.mem_append.1 ho with ho | ho
                · exact G.lO o ho
                · rw [List.mem_singleton.1 ho]
                  show (a.L ++ M).length ≤ 100000
                  rw [hLMh.out]
                  omega⟩
            clear hTl hbk9 hS9 hoX bkX m1 m1' mA mB m8 m9 hoS hov8 n1 n2 hot hgt hatt hsrc hsl hr1 hf1 B8 B9 A8 DA D5
            generalize wt.setCell ⟨bb, 68, none⟩ (.slice pt (O'.length + 1) ct) = wz at *
            go_wp2
            go_roundw
            case rel => exact ⟨k + 1, by omega, by first | rfl | go_num, hnx.out⟩
            case measure => simp [intOf]; omega
    · have hlt' : ¬ (k : Int) < (A.length : Int) := by omega
      obtain rfl : k = A.length := by omega
      rw [List.drop_length] at hG
      have f4 := hG.bk.fz 71
      have f7 := hG.bk.fz 74
      have hfin : Hid (∃ Z9 r9 fz9 f9 O9, TkS ((wr.setCell ⟨bb, 71, none⟩ (.slice none 0 0)).setCell ⟨bb, 74, none⟩ (.slice none 0 0)) lo bb Z9 r9 fz9 turn deep f9 seen O9 Q ∧ O9.length = O.length + A.length ∧ Below lo W ((wr.setCell ⟨bb, 71, none⟩ (.slice none 0 0)).setCell ⟨bb, 74, none⟩ (.slice none 0 0)) ∧ ∀ y ∈ fz, y ∈ fz9) := ⟨by
        have hs := (((hG.sep.book 71 (.slice none 0 0)).book 74 (.slice none 0 0)).drop 4).drop 7
        have hbk := (hG.bk.set (k := 7) (j := 4) (by decide) (by decide) (.slice none 0 0)).set (k := 7) (j := 7) (by decide) (by decide) (.slice none 0 0)
        have hrE : ∀ q, q ≠ 4 → q ≠ 7 → updR (updR r' 4 nilRow) 7 nilRow q = r' q := fun q h4 h7 => (updR_ne _ _ h7).trans (updR_ne _ _ h4)
        have hnd := hG.dQ
        simp only [List.map_nil, List.nil_append] at hnd
        refine ⟨Z', _, fz', _, O', ⟨hbk, fun q hq j => ?_, hs, (hrE 0 (by decide) (by decide)).trans hG.s0, (hrE 1 (by decide) (by decide)).trans hG.s1, (hrE 2 (by decide) (by decide)).trans hG.s2, (hrE 3 (by decide) (by decide)).trans hG.s3, ⟨by simp [upd], by rw [updR_ne _ _ (by decide), updR_same]⟩, (hrE 5 (by decide) (by decide)).trans hG.s5, (hrE 6 (by decide) (by decide)).trans hG.s6, ⟨by simp [upd], updR_same _ _ _⟩, fun o ho => ?_, fun q hq => ?_, ?_, hG.lO, hG.lQ, by obtain ⟨N, hN⟩ := hG.fin; exact ⟨max N 8, fun i hi => (hrE i (by omega) (by omega)).trans (hN i (by omega))⟩⟩, hOl.out, ?_, hFF.out⟩
        · have e1' : upd (upd f' 7 4 (.slice none 0 0)) 7 7 (.slice none 0 0) q j = f' q j := by
            unfold upd
            rw [if_neg (fun e => hq e.1), if_neg (fun e => hq e.1)]
          exact e1'.trans (hG.nil q hq j)
        · obtain ⟨h1, h2⟩ := hG.cO o ho
          refine ⟨?_, h2⟩
          rcases h1 with h1 | ⟨b, hb', -⟩
          · exact h1
          · cases hb'
        · obtain ⟨h1, h2, h3⟩ := hG.cQ q hq
          exact ⟨h1, (hrE q.i (by omega) (by omega)).trans h2, h3⟩
        · exact (List.pairwise_map.1 hnd)
        · exact hb.trans (((grS_set wr bb 71 _).trans (grS_set _ bb 74 _)).below (Nat.le_trans hlo hb.size) (fun b e => e ▸ hG.sep.bl.1))⟩
      clear hG hb o4 o7 h4 h7 e4 e7
      go_wp2
      go_end0
      obtain ⟨Z9, r9, fz9, f9, O9, t1, t2, t3, t4⟩ := hfin.out
      exact ⟨rfl, Z9, r9, fz9, f9, O9, t1, t2, t3, fun a b h => t4 _ h⟩
end Go.Proofs.YtekapipfaahhcaaGreatDoor.KB


/- Nothing to hold. -/
namespace Go.Proofs.YtekapipfaahhcaaGreatDoor.KB
open Go.RowKit
set_option linter.constructorNameAsVariable false

set_option maxRecDepth 4000 in
theorem holdBytes (W : World) {bb : Nat} {turn deep : Int} {f : Nat → Nat → Value} {seen : Nat → Int} (h : BkAt W bb turn deep f seen) (hk : Nil f 0) :
    Calls Tryz.prog 14 #[.pointer (some ⟨bb, 0, none⟩)] W fun e w' => e = .returned (.bool true) ∧ w' = W := by
  have c0 : W.cell? ⟨bb, 4, none⟩ = some (.slice none 0 0) := (h.cell (i := 4) (by decide)).trans (congrArg some (hk 0))
  have c2 : W.cell? ⟨bb, 6, none⟩ = some (.slice none 0 0) := (h.cell (i := 6) (by decide)).trans (congrArg some (hk 2))
  clear h hk
  go_enter Tryz.func14, Tryz.ntmps14
  go_wp2
  go_loopw [3] (fun v wr => v = .int .i64 0 ∧ wr = W) (fun _ _ => 0)
  case atStart => exact ⟨rfl, rfl⟩
  case round =>
    obtain ⟨rfl, rfl⟩ := hrel
    go_wp2
    go_loopw [4] (fun v wx => v = .int .i64 0 ∧ wx = wr) (fun _ _ => 0)
    case atStart => exact ⟨rfl, rfl⟩
    case round =>
      obtain ⟨rfl, rfl⟩ := hrel
      go_wp2
      go_ret
      exact ⟨rfl, rfl⟩

set_option maxRecDepth 4000 in
theorem holdInts (W : World) {bb : Nat} {turn deep : Int} {f : Nat → Nat → Value} {seen : Nat → Int} (h : BkAt W bb turn deep f seen) (hk : Nil f 1) :
    Calls Tryz.prog 15 #[.pointer (some ⟨bb, 0, none⟩)] W fun e w' => e = .returned (.bool true) ∧ w' = W := by
  have c0 : W.cell? ⟨bb, 13, none⟩ = some (.slice none 0 0) := (h.cell (i := 13) (by decide)).trans (congrArg some (hk 0))
  have c2 : W.cell? ⟨bb, 15, none⟩ = some (.slice none 0 0) := (h.cell (i := 15) (by decide)).trans (congrArg some (hk 2))
  clear h hk
  go_enter Tryz.func15, Tryz.ntmps15
  go_wp2
  go_loopw [3] (fun v wr => v = .int .i64 0 ∧ wr = W) (fun _ _ => 0)
  case atStart => exact ⟨rfl, rfl⟩
  case round =>
    obtain ⟨rfl, rfl⟩ := hrel
    go_wp2
    go_loopw [4] (fun v wx => v = .int .i64 0 ∧ wx = wr) (fun _ _ => 0)
    case atStart => exact ⟨rfl, rfl⟩
    case round =>
      obtain ⟨rfl, rfl⟩ := hrel
      go_wp2
      go_ret
      exact ⟨rfl, rfl⟩

set_option maxRecDepth 4000 in
theorem holdCells (W : World) {bb : Nat} {turn deep : Int} {f : Nat → Nat → Value} {seen : Nat → Int} (h : BkAt W bb turn deep f seen) (hk : Nil f 2) :
    Calls Tryz.prog 16 #[.pointer (some ⟨bb, 0, none⟩)] W fun e w' => e = .returned (.bool true) ∧ w' = W := by
  have c0 : W.cell? ⟨bb, 22, none⟩ = some (.slice none 0 0) := (h.cell (i := 22) (by decide)).trans (congrArg some (hk 0))
  have c2 : W.cell? ⟨bb, 24, none⟩ = some (.slice none 0 0) := (h.cell (i := 24) (by decide)).trans (congrArg some (hk 2))
  clear h hk
  go_enter Tryz.func16, Tryz.ntmps16
  go_wp2
  go_loopw [3] (fun v wr => v = .int .i64 0 ∧ wr = W) (fun _ _ => 0)
  case atStart => exact ⟨rfl, rfl⟩
  case round =>
    obtain ⟨rfl, rfl⟩ := hrel
    go_wp2
    go_loopw [4] (fun v wx => v = .int .i64 0 ∧ wx = wr) (fun _ _ => 0)
    case atStart => exact ⟨rfl, rfl⟩
    case round =>
      obtain ⟨rfl, rfl⟩ := hrel
      go_wp2
      go_ret
      exact ⟨rfl, rfl⟩

set_option maxRecDepth 4000 in
theorem holdBools (W : World) {bb : Nat} {turn deep : Int} {f : Nat → Nat → Value} {seen : Nat → Int} (h : BkAt W bb turn deep f seen) (hk : Nil f 3) :
    Calls Tryz.prog 17 #[.pointer (some ⟨bb, 0, none⟩)] W fun e w' => e = .returned (.bool true) ∧ w' = W := by
  have c0 : W.cell? ⟨bb, 31, none⟩ = some (.slice none 0 0) := (h.cell (i := 31) (by decide)).trans (congrArg some (hk 0))
  have c2 : W.cell? ⟨bb, 33, none⟩ = some (.slice none 0 0) := (h.cell (i := 33) (by decide)).trans (congrArg some (hk 2))
  clear h hk
  go_enter Tryz.func17, Tryz.ntmps17
  go_wp2
  go_loopw [3] (fun v wr => v = .int .i64 0 ∧ wr = W) (fun _ _ => 0)
  case atStart => exact ⟨rfl, rfl⟩
  case round =>
    obtain ⟨rfl, rfl⟩ := hrel
    go_wp2
    go_loopw [4] (fun v wx => v = .int .i64 0 ∧ wx = wr) (fun _ _ => 0)
    case atStart => exact ⟨rfl, rfl⟩
    case round =>
      obtain ⟨rfl, rfl⟩ := hrel
      go_wp2
      go_ret
      exact ⟨rfl, rfl⟩

set_option maxRecDepth 4000 in
theorem holdTexts (W : World) {bb : Nat} {turn deep : Int} {f : Nat → Nat → Value} {seen : Nat → Int} (h : BkAt W bb turn deep f seen) (hk : Nil f 4) :
    Calls Tryz.prog 18 #[.pointer (some ⟨bb, 0, none⟩)] W fun e w' => e = .returned (.bool true) ∧ w' = W := by
  have c0 : W.cell? ⟨bb, 40, none⟩ = some (.slice none 0 0) := (h.cell (i := 40) (by decide)).trans (congrArg some (hk 0))
  have c2 : W.cell? ⟨bb, 42, none⟩ = some (.slice none 0 0) := (h.cell (i := 42) (by decide)).trans (congrArg some (hk 2))
  clear h hk
  go_enter Tryz.func18, Tryz.ntmps18
  go_wp2
  go_loopw [3] (fun v wr => v = .int .i64 0 ∧ wr = W) (fun _ _ => 0)
  case atStart => exact ⟨rfl, rfl⟩
  case round =>
    obtain ⟨rfl, rfl⟩ := hrel
    go_wp2
    go_loopw [4] (fun v wx => v = .int .i64 0 ∧ wx = wr) (fun _ _ => 0)
    case atStart => exact ⟨rfl, rfl⟩
    case round =>
      obtain ⟨rfl, rfl⟩ := hrel
      go_wp2
      go_ret
      exact ⟨rfl, rfl⟩

set_option maxRecDepth 4000 in
theorem holdValues (W : World) {bb : Nat} {turn deep : Int} {f : Nat → Nat → Value} {seen : Nat → Int} (h : BkAt W bb turn deep f seen) (hk : Nil f 5) :
    Calls Tryz.prog 19 #[.pointer (some ⟨bb, 0, none⟩)] W fun e w' => e = .returned (.bool true) ∧ w' = W := by
  have c0 : W.cell? ⟨bb, 49, none⟩ = some (.slice none 0 0) := (h.cell (i := 49) (by decide)).trans (congrArg some (hk 0))
  have c2 : W.cell? ⟨bb, 51, none⟩ = some (.slice none 0 0) := (h.cell (i := 51) (by decide)).trans (congrArg some (hk 2))
  clear h hk
  go_enter Tryz.func19, Tryz.ntmps19
  go_wp2
  go_loopw [3] (fun v wr => v = .int .i64 0 ∧ wr = W) (fun _ _ => 0)
  case atStart => exact ⟨rfl, rfl⟩
  case round =>
    obtain ⟨rfl, rfl⟩ := hrel
    go_wp2
    go_loopw [4] (fun v wx => v = .int .i64 0 ∧ wx = wr) (fun _ _ => 0)
    case atStart => exact ⟨rfl, rfl⟩
    case round =>
      obtain ⟨rfl, rfl⟩ := hrel
      go_wp2
      go_ret
      exact ⟨rfl, rfl⟩

set_option maxRecDepth 4000 in
theorem holdBands (W : World) {bb : Nat} {turn deep : Int} {f : Nat → Nat → Value} {seen : Nat → Int} (h : BkAt W bb turn deep f seen) (hk : Nil f 6) :
    Calls Tryz.prog 20 #[.pointer (some ⟨bb, 0, none⟩)] W fun e w' => e = .returned (.bool true) ∧ w' = W := by
  have c0 : W.cell? ⟨bb, 58, none⟩ = some (.slice none 0 0) := (h.cell (i := 58) (by decide)).trans (congrArg some (hk 0))
  have c2 : W.cell? ⟨bb, 60, none⟩ = some (.slice none 0 0) := (h.cell (i := 60) (by decide)).trans (congrArg some (hk 2))
  clear h hk
  go_enter Tryz.func20, Tryz.ntmps20
  go_wp2
  go_loopw [3] (fun v wr => v = .int .i64 0 ∧ wr = W) (fun _ _ => 0)
  case atStart => exact ⟨rfl, rfl⟩
  case round =>
    obtain ⟨rfl, rfl⟩ := hrel
    go_wp2
    go_loopw [4] (fun v wx => v = .int .i64 0 ∧ wx = wr) (fun _ _ => 0)
    case atStart => exact ⟨rfl, rfl⟩
    case round =>
      obtain ⟨rfl, rfl⟩ := hrel
      go_wp2
      go_ret
      exact ⟨rfl, rfl⟩

set_option maxRecDepth 4000 in
theorem holdEntries (W : World) {bb : Nat} {turn deep : Int} {f : Nat → Nat → Value} {seen : Nat → Int} (h : BkAt W bb turn deep f seen) (hk : Nil f 8) :
    Calls Tryz.prog 22 #[.pointer (some ⟨bb, 0, none⟩)] W fun e w' => e = .returned (.bool true) ∧ w' = W := by
  have c0 : W.cell? ⟨bb, 76, none⟩ = some (.slice none 0 0) := (h.cell (i := 76) (by decide)).trans (congrArg some (hk 0))
  have c2 : W.cell? ⟨bb, 78, none⟩ = some (.slice none 0 0) := (h.cell (i := 78) (by decide)).trans (congrArg some (hk 2))
  clear h hk
  go_enter Tryz.func22, Tryz.ntmps22
  go_wp2
  go_loopw [3] (fun v wr => v = .int .i64 0 ∧ wr = W) (fun _ _ => 0)
  case atStart => exact ⟨rfl, rfl⟩
  case round =>
    obtain ⟨rfl, rfl⟩ := hrel
    go_wp2
    go_loopw [4] (fun v wx => v = .int .i64 0 ∧ wx = wr) (fun _ _ => 0)
    case atStart => exact ⟨rfl, rfl⟩
    case round =>
      obtain ⟨rfl, rfl⟩ := hrel
      go_wp2
      go_ret
      exact ⟨rfl, rfl⟩

set_option maxRecDepth 4000 in
theorem holdChanges (W : World) {bb : Nat} {turn deep : Int} {f : Nat → Nat → Value} {seen : Nat → Int} (h : BkAt W bb turn deep f seen) (hk : Nil f 9) :
    Calls Tryz.prog 23 #[.pointer (some ⟨bb, 0, none⟩)] W fun e w' => e = .returned (.bool true) ∧ w' = W := by
  have c0 : W.cell? ⟨bb, 85, none⟩ = some (.slice none 0 0) := (h.cell (i := 85) (by decide)).trans (congrArg some (hk 0))
  have c2 : W.cell? ⟨bb, 87, none⟩ = some (.slice none 0 0) := (h.cell (i := 87) (by decide)).trans (congrArg some (hk 2))
  clear h hk
  go_enter Tryz.func23, Tryz.ntmps23
  go_wp2
  go_loopw [3] (fun v wr => v = .int .i64 0 ∧ wr = W) (fun _ _ => 0)
  case atStart => exact ⟨rfl, rfl⟩
  case round =>
    obtain ⟨rfl, rfl⟩ := hrel
    go_wp2
    go_loopw [4] (fun v wx => v = .int .i64 0 ∧ wx = wr) (fun _ _ => 0)
    case atStart => exact ⟨rfl, rfl⟩
    case round =>
      obtain ⟨rfl, rfl⟩ := hrel
      go_wp2
      go_ret
      exact ⟨rfl, rfl⟩

set_option maxRecDepth 4000 in
theorem holdReads (W : World) {bb : Nat} {turn deep : Int} {f : Nat → Nat → Value} {seen : Nat → Int} (h : BkAt W bb turn deep f seen) (hk : Nil f 10) :
    Calls Tryz.prog 24 #[.pointer (some ⟨bb, 0, none⟩)] W fun e w' => e = .returned (.bool true) ∧ w' = W := by
  have c0 : W.cell? ⟨bb, 94, none⟩ = some (.slice none 0 0) := (h.cell (i := 94) (by decide)).trans (congrArg some (hk 0))
  have c2 : W.cell? ⟨bb, 96, none⟩ = some (.slice none 0 0) := (h.cell (i := 96) (by decide)).trans (congrArg some (hk 2))
  clear h hk
  go_enter Tryz.func24, Tryz.ntmps24
  go_wp2
  go_loopw [3] (fun v wr => v = .int .i64 0 ∧ wr = W) (fun _ _ => 0)
  case atStart => exact ⟨rfl, rfl⟩
  case round =>
    obtain ⟨rfl, rfl⟩ := hrel
    go_wp2
    go_loopw [4] (fun v wx => v = .int .i64 0 ∧ wx = wr) (fun _ _ => 0)
    case atStart => exact ⟨rfl, rfl⟩
    case round =>
      obtain ⟨rfl, rfl⟩ := hrel
      go_wp2
      go_ret
      exact ⟨rfl, rfl⟩

set_option maxRecDepth 4000 in
theorem holdFindings (W : World) {bb : Nat} {turn deep : Int} {f : Nat → Nat → Value} {seen : Nat → Int} (h : BkAt W bb turn deep f seen) (hk : Nil f 11) :
    Calls Tryz.prog 25 #[.pointer (some ⟨bb, 0, none⟩)] W fun e w' => e = .returned (.bool true) ∧ w' = W := by
  have c0 : W.cell? ⟨bb, 103, none⟩ = some (.slice none 0 0) := (h.cell (i := 103) (by decide)).trans (congrArg some (hk 0))
  have c2 : W.cell? ⟨bb, 105, none⟩ = some (.slice none 0 0) := (h.cell (i := 105) (by decide)).trans (congrArg some (hk 2))
  clear h hk
  go_enter Tryz.func25, Tryz.ntmps25
  go_wp2
  go_loopw [3] (fun v wr => v = .int .i64 0 ∧ wr = W) (fun _ _ => 0)
  case atStart => exact ⟨rfl, rfl⟩
  case round =>
    obtain ⟨rfl, rfl⟩ := hrel
    go_wp2
    go_loopw [4] (fun v wx => v = .int .i64 0 ∧ wx = wr) (fun _ _ => 0)
    case atStart => exact ⟨rfl, rfl⟩
    case round =>
      obtain ⟨rfl, rfl⟩ := hrel
      go_wp2
      go_ret
      exact ⟨rfl, rfl⟩

set_option maxRecDepth 4000 in
theorem holdConflicts (W : World) {bb : Nat} {turn deep : Int} {f : Nat → Nat → Value} {seen : Nat → Int} (h : BkAt W bb turn deep f seen) (hk : Nil f 12) :
    Calls Tryz.prog 26 #[.pointer (some ⟨bb, 0, none⟩)] W fun e w' => e = .returned (.bool true) ∧ w' = W := by
  have c0 : W.cell? ⟨bb, 112, none⟩ = some (.slice none 0 0) := (h.cell (i := 112) (by decide)).trans (congrArg some (hk 0))
  have c2 : W.cell? ⟨bb, 114, none⟩ = some (.slice none 0 0) := (h.cell (i := 114) (by decide)).trans (congrArg some (hk 2))
  clear h hk
  go_enter Tryz.func26, Tryz.ntmps26
  go_wp2
  go_loopw [3] (fun v wr => v = .int .i64 0 ∧ wr = W) (fun _ _ => 0)
  case atStart => exact ⟨rfl, rfl⟩
  case round =>
    obtain ⟨rfl, rfl⟩ := hrel
    go_wp2
    go_loopw [4] (fun v wx => v = .int .i64 0 ∧ wx = wr) (fun _ _ => 0)
    case atStart => exact ⟨rfl, rfl⟩
    case round =>
      obtain ⟨rfl, rfl⟩ := hrel
      go_wp2
      go_ret
      exact ⟨rfl, rfl⟩

set_option maxRecDepth 4000 in
theorem holdPoints (W : World) {bb : Nat} {turn deep : Int} {f : Nat → Nat → Value} {seen : Nat → Int} (h : BkAt W bb turn deep f seen) (hk : Nil f 13) :
    Calls Tryz.prog 27 #[.pointer (some ⟨bb, 0, none⟩)] W fun e w' => e = .returned (.bool true) ∧ w' = W := by
  have c0 : W.cell? ⟨bb, 121, none⟩ = some (.slice none 0 0) := (h.cell (i := 121) (by decide)).trans (congrArg some (hk 0))
  have c2 : W.cell? ⟨bb, 123, none⟩ = some (.slice none 0 0) := (h.cell (i := 123) (by decide)).trans (congrArg some (hk 2))
  clear h hk
  go_enter Tryz.func27, Tryz.ntmps27
  go_wp2
  go_loopw [3] (fun v wr => v = .int .i64 0 ∧ wr = W) (fun _ _ => 0)
  case atStart => exact ⟨rfl, rfl⟩
  case round =>
    obtain ⟨rfl, rfl⟩ := hrel
    go_wp2
    go_loopw [4] (fun v wx => v = .int .i64 0 ∧ wx = wr) (fun _ _ => 0)
    case atStart => exact ⟨rfl, rfl⟩
    case round =>
      obtain ⟨rfl, rfl⟩ := hrel
      go_wp2
      go_ret
      exact ⟨rfl, rfl⟩

set_option maxRecDepth 4000 in
theorem holdNodes (W : World) {bb : Nat} {turn deep : Int} {f : Nat → Nat → Value} {seen : Nat → Int} (h : BkAt W bb turn deep f seen) (hk : Nil f 14) :
    Calls Tryz.prog 28 #[.pointer (some ⟨bb, 0, none⟩)] W fun e w' => e = .returned (.bool true) ∧ w' = W := by
  have c0 : W.cell? ⟨bb, 130, none⟩ = some (.slice none 0 0) := (h.cell (i := 130) (by decide)).trans (congrArg some (hk 0))
  have c2 : W.cell? ⟨bb, 132, none⟩ = some (.slice none 0 0) := (h.cell (i := 132) (by decide)).trans (congrArg some (hk 2))
  clear h hk
  go_enter Tryz.func28, Tryz.ntmps28
  go_wp2
  go_loopw [3] (fun v wr => v = .int .i64 0 ∧ wr = W) (fun _ _ => 0)
  case atStart => exact ⟨rfl, rfl⟩
  case round =>
    obtain ⟨rfl, rfl⟩ := hrel
    go_wp2
    go_loopw [4] (fun v wx => v = .int .i64 0 ∧ wx = wr) (fun _ _ => 0)
    case atStart => exact ⟨rfl, rfl⟩
    case round =>
      obtain ⟨rfl, rfl⟩ := hrel
      go_wp2
      go_ret
      exact ⟨rfl, rfl⟩

set_option maxRecDepth 4000 in
theorem holdRecords (W : World) {bb : Nat} {turn deep : Int} {f : Nat → Nat → Value} {seen : Nat → Int} (h : BkAt W bb turn deep f seen) (hk : Nil f 15) :
    Calls Tryz.prog 29 #[.pointer (some ⟨bb, 0, none⟩)] W fun e w' => e = .returned (.bool true) ∧ w' = W := by
  have c0 : W.cell? ⟨bb, 139, none⟩ = some (.slice none 0 0) := (h.cell (i := 139) (by decide)).trans (congrArg some (hk 0))
  have c2 : W.cell? ⟨bb, 141, none⟩ = some (.slice none 0 0) := (h.cell (i := 141) (by decide)).trans (congrArg some (hk 2))
  clear h hk
  go_enter Tryz.func29, Tryz.ntmps29
  go_wp2
  go_loopw [3] (fun v wr => v = .int .i64 0 ∧ wr = W) (fun _ _ => 0)
  case atStart => exact ⟨rfl, rfl⟩
  case round =>
    obtain ⟨rfl, rfl⟩ := hrel
    go_wp2
    go_loopw [4] (fun v wx => v = .int .i64 0 ∧ wx = wr) (fun _ _ => 0)
    case atStart => exact ⟨rfl, rfl⟩
    case round =>
      obtain ⟨rfl, rfl⟩ := hrel
      go_wp2
      go_ret
      exact ⟨rfl, rfl⟩

set_option maxRecDepth 4000 in
theorem holdFiles (W : World) {bb : Nat} {turn deep : Int} {f : Nat → Nat → Value} {seen : Nat → Int} (h : BkAt W bb turn deep f seen) (hk : Nil f 16) :
    Calls Tryz.prog 30 #[.pointer (some ⟨bb, 0, none⟩)] W fun e w' => e = .returned (.bool true) ∧ w' = W := by
  have c0 : W.cell? ⟨bb, 148, none⟩ = some (.slice none 0 0) := (h.cell (i := 148) (by decide)).trans (congrArg some (hk 0))
  have c2 : W.cell? ⟨bb, 150, none⟩ = some (.slice none 0 0) := (h.cell (i := 150) (by decide)).trans (congrArg some (hk 2))
  clear h hk
  go_enter Tryz.func30, Tryz.ntmps30
  go_wp2
  go_loopw [3] (fun v wr => v = .int .i64 0 ∧ wr = W) (fun _ _ => 0)
  case atStart => exact ⟨rfl, rfl⟩
  case round =>
    obtain ⟨rfl, rfl⟩ := hrel
    go_wp2
    go_loopw [4] (fun v wx => v = .int .i64 0 ∧ wx = wr) (fun _ _ => 0)
    case atStart => exact ⟨rfl, rfl⟩
    case round =>
      obtain ⟨rfl, rfl⟩ := hrel
      go_wp2
      go_ret
      exact ⟨rfl, rfl⟩

set_option maxRecDepth 4000 in
theorem holdExprs (W : World) {bb : Nat} {turn deep : Int} {f : Nat → Nat → Value} {seen : Nat → Int} (h : BkAt W bb turn deep f seen) (hk : Nil f 17) :
    Calls Tryz.prog 31 #[.pointer (some ⟨bb, 0, none⟩)] W fun e w' => e = .returned (.bool true) ∧ w' = W := by
  have c0 : W.cell? ⟨bb, 157, none⟩ = some (.slice none 0 0) := (h.cell (i := 157) (by decide)).trans (congrArg some (hk 0))
  have c2 : W.cell? ⟨bb, 159, none⟩ = some (.slice none 0 0) := (h.cell (i := 159) (by decide)).trans (congrArg some (hk 2))
  clear h hk
  go_enter Tryz.func31, Tryz.ntmps31
  go_wp2
  go_loopw [3] (fun v wr => v = .int .i64 0 ∧ wr = W) (fun _ _ => 0)
  case atStart => exact ⟨rfl, rfl⟩
  case round =>
    obtain ⟨rfl, rfl⟩ := hrel
    go_wp2
    go_loopw [4] (fun v wx => v = .int .i64 0 ∧ wx = wr) (fun _ _ => 0)
    case atStart => exact ⟨rfl, rfl⟩
    case round =>
      obtain ⟨rfl, rfl⟩ := hrel
      go_wp2
      go_ret
      exact ⟨rfl, rfl⟩

set_option maxRecDepth 4000 in
theorem holdClauses (W : World) {bb : Nat} {turn deep : Int} {f : Nat → Nat → Value} {seen : Nat → Int} (h : BkAt W bb turn deep f seen) (hk : Nil f 18) :
    Calls Tryz.prog 32 #[.pointer (some ⟨bb, 0, none⟩)] W fun e w' => e = .returned (.bool true) ∧ w' = W := by
  have c0 : W.cell? ⟨bb, 166, none⟩ = some (.slice none 0 0) := (h.cell (i := 166) (by decide)).trans (congrArg some (hk 0))
  have c2 : W.cell? ⟨bb, 168, none⟩ = some (.slice none 0 0) := (h.cell (i := 168) (by decide)).trans (congrArg some (hk 2))
  clear h hk
  go_enter Tryz.func32, Tryz.ntmps32
  go_wp2
  go_loopw [3] (fun v wr => v = .int .i64 0 ∧ wr = W) (fun _ _ => 0)
  case atStart => exact ⟨rfl, rfl⟩
  case round =>
    obtain ⟨rfl, rfl⟩ := hrel
    go_wp2
    go_loopw [4] (fun v wx => v = .int .i64 0 ∧ wx = wr) (fun _ _ => 0)
    case atStart => exact ⟨rfl, rfl⟩
    case round =>
      obtain ⟨rfl, rfl⟩ := hrel
      go_wp2
      go_ret
      exact ⟨rfl, rfl⟩

set_option maxRecDepth 4000 in
theorem holdLines (W : World) {bb : Nat} {turn deep : Int} {f : Nat → Nat → Value} {seen : Nat → Int} (h : BkAt W bb turn deep f seen) (hk : Nil f 19) :
    Calls Tryz.prog 33 #[.pointer (some ⟨bb, 0, none⟩)] W fun e w' => e = .returned (.bool true) ∧ w' = W := by
  have c0 : W.cell? ⟨bb, 175, none⟩ = some (.slice none 0 0) := (h.cell (i := 175) (by decide)).trans (congrArg some (hk 0))
  have c2 : W.cell? ⟨bb, 177, none⟩ = some (.slice none 0 0) := (h.cell (i := 177) (by decide)).trans (congrArg some (hk 2))
  clear h hk
  go_enter Tryz.func33, Tryz.ntmps33
  go_wp2
  go_loopw [3] (fun v wr => v = .int .i64 0 ∧ wr = W) (fun _ _ => 0)
  case atStart => exact ⟨rfl, rfl⟩
  case round =>
    obtain ⟨rfl, rfl⟩ := hrel
    go_wp2
    go_loopw [4] (fun v wx => v = .int .i64 0 ∧ wx = wr) (fun _ _ => 0)
    case atStart => exact ⟨rfl, rfl⟩
    case round =>
      obtain ⟨rfl, rfl⟩ := hrel
      go_wp2
      go_ret
      exact ⟨rfl, rfl⟩

set_option maxRecDepth 4000 in
theorem holdChecks (W : World) {bb : Nat} {turn deep : Int} {f : Nat → Nat → Value} {seen : Nat → Int} (h : BkAt W bb turn deep f seen) (hk : Nil f 20) :
    Calls Tryz.prog 34 #[.pointer (some ⟨bb, 0, none⟩)] W fun e w' => e = .returned (.bool true) ∧ w' = W := by
  have c0 : W.cell? ⟨bb, 184, none⟩ = some (.slice none 0 0) := (h.cell (i := 184) (by decide)).trans (congrArg some (hk 0))
  have c2 : W.cell? ⟨bb, 186, none⟩ = some (.slice none 0 0) := (h.cell (i := 186) (by decide)).trans (congrArg some (hk 2))
  clear h hk
  go_enter Tryz.func34, Tryz.ntmps34
  go_wp2
  go_loopw [3] (fun v wr => v = .int .i64 0 ∧ wr = W) (fun _ _ => 0)
  case atStart => exact ⟨rfl, rfl⟩
  case round =>
    obtain ⟨rfl, rfl⟩ := hrel
    go_wp2
    go_loopw [4] (fun v wx => v = .int .i64 0 ∧ wx = wr) (fun _ _ => 0)
    case atStart => exact ⟨rfl, rfl⟩
    case round =>
      obtain ⟨rfl, rfl⟩ := hrel
      go_wp2
      go_ret
      exact ⟨rfl, rfl⟩

set_option maxRecDepth 4000 in
theorem holdOptions (W : World) {bb : Nat} {turn deep : Int} {f : Nat → Nat → Value} {seen : Nat → Int} (h : BkAt W bb turn deep f seen) (hk : Nil f 21) :
    Calls Tryz.prog 35 #[.pointer (some ⟨bb, 0, none⟩)] W fun e w' => e = .returned (.bool true) ∧ w' = W := by
  have c0 : W.cell? ⟨bb, 193, none⟩ = some (.slice none 0 0) := (h.cell (i := 193) (by decide)).trans (congrArg some (hk 0))
  have c2 : W.cell? ⟨bb, 195, none⟩ = some (.slice none 0 0) := (h.cell (i := 195) (by decide)).trans (congrArg some (hk 2))
  clear h hk
  go_enter Tryz.func35, Tryz.ntmps35
  go_wp2
  go_loopw [3] (fun v wr => v = .int .i64 0 ∧ wr = W) (fun _ _ => 0)
  case atStart => exact ⟨rfl, rfl⟩
  case round =>
    obtain ⟨rfl, rfl⟩ := hrel
    go_wp2
    go_loopw [4] (fun v wx => v = .int .i64 0 ∧ wx = wr) (fun _ _ => 0)
    case atStart => exact ⟨rfl, rfl⟩
    case round =>
      obtain ⟨rfl, rfl⟩ := hrel
      go_wp2
      go_ret
      exact ⟨rfl, rfl⟩

set_option maxRecDepth 4000 in
theorem holdTables (W : World) {bb : Nat} {turn deep : Int} {f : Nat → Nat → Value} {seen : Nat → Int} (h : BkAt W bb turn deep f seen) (hk : Nil f 22) :
    Calls Tryz.prog 36 #[.pointer (some ⟨bb, 0, none⟩)] W fun e w' => e = .returned (.bool true) ∧ w' = W := by
  have c0 : W.cell? ⟨bb, 202, none⟩ = some (.slice none 0 0) := (h.cell (i := 202) (by decide)).trans (congrArg some (hk 0))
  have c2 : W.cell? ⟨bb, 204, none⟩ = some (.slice none 0 0) := (h.cell (i := 204) (by decide)).trans (congrArg some (hk 2))
  clear h hk
  go_enter Tryz.func36, Tryz.ntmps36
  go_wp2
  go_loopw [3] (fun v wr => v = .int .i64 0 ∧ wr = W) (fun _ _ => 0)
  case atStart => exact ⟨rfl, rfl⟩
  case round =>
    obtain ⟨rfl, rfl⟩ := hrel
    go_wp2
    go_loopw [4] (fun v wx => v = .int .i64 0 ∧ wx = wr) (fun _ _ => 0)
    case atStart => exact ⟨rfl, rfl⟩
    case round =>
      obtain ⟨rfl, rfl⟩ := hrel
      go_wp2
      go_ret
      exact ⟨rfl, rfl⟩

set_option maxRecDepth 4000 in
theorem holdGroups (W : World) {bb : Nat} {turn deep : Int} {f : Nat → Nat → Value} {seen : Nat → Int} (h : BkAt W bb turn deep f seen) (hk : Nil f 23) :
    Calls Tryz.prog 37 #[.pointer (some ⟨bb, 0, none⟩)] W fun e w' => e = .returned (.bool true) ∧ w' = W := by
  have c0 : W.cell? ⟨bb, 211, none⟩ = some (.slice none 0 0) := (h.cell (i := 211) (by decide)).trans (congrArg some (hk 0))
  have c2 : W.cell? ⟨bb, 213, none⟩ = some (.slice none 0 0) := (h.cell (i := 213) (by decide)).trans (congrArg some (hk 2))
  clear h hk
  go_enter Tryz.func37, Tryz.ntmps37
  go_wp2
  go_loopw [3] (fun v wr => v = .int .i64 0 ∧ wr = W) (fun _ _ => 0)
  case atStart => exact ⟨rfl, rfl⟩
  case round =>
    obtain ⟨rfl, rfl⟩ := hrel
    go_wp2
    go_loopw [4] (fun v wx => v = .int .i64 0 ∧ wx = wr) (fun _ _ => 0)
    case atStart => exact ⟨rfl, rfl⟩
    case round =>
      obtain ⟨rfl, rfl⟩ := hrel
      go_wp2
      go_ret
      exact ⟨rfl, rfl⟩
end Go.Proofs.YtekapipfaahhcaaGreatDoor.KB
