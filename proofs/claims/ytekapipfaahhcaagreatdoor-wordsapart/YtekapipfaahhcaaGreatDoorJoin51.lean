import Derived.Test.YtekapipfaahhcaaGreatDoorJoin50
import Derived.Deep.RegionHeldLaw
import Derived.Deep.RegionLaw
import Derived.BigQuiet
/- A list is kept. -/
namespace Go.Proofs.YtekapipfaahhcaaGreatDoor.KB
open Go.RowKit
set_option linter.constructorNameAsVariable false

theorem own_s3 {W : World} {base n size : Nat} {e : TypeId} {v : Value} {xs : List Value} (h : W.ownsRow base e size v n xs) : ∃ a c, v = .slice a n c := by
  obtain ⟨a, c, e, -⟩ := own_len h
  exact ⟨a, c, e⟩
/-- The lists while one is being kept. -/
def PT (lo bb : Nat) (W : World) (turn deep : Int) (seen : Nat → Int) (Z : Nat → Prop) (fz : List (Value × List Tk)) (r : Nat → Row) (xs : Nat → List Value) (X : World) : Prop := ∃ r' f', TkL X lo bb Z r' fz turn deep f' seen xs ∧ (∀ k, 8 ≤ k → r' k = r k) ∧ Below lo W X ∧ f' 7 4 = .slice none 0 0 ∧ f' 7 7 = .slice none 0 0
section
variable {lo bb : Nat} {W X : World} {turn deep : Int} {seen : Nat → Int} {Z : Nat → Prop} {fz : List (Value × List Tk)} {r : Nat → Row} {xs : Nat → List Value}
theorem PT.push (h : PT lo bb W turn deep seen Z fz r xs X) (hlo : lo ≤ W.heap.size) {j : Nat} (hj : j < 8) (n4 : j ≠ 4) (n7 : j ≠ 7) : ∃ a c, X.cell? ⟨bb, 67 + j, none⟩ = some (.slice a (xs j).length c) ∧ X.ownsRow lo (spT j) 1 (.slice a (xs j).length c) (xs j).length (xs j) ∧ lo ≤ X.heap.size ∧ ∀ x v' w', w'.ownsRow lo (spT j) 1 v' ((xs j).length + 1) (xs j ++ [x]) → (X.alloc (.cells #[x] (spT j))).grownBy w' (Value.slice a (xs j).length c).ownBlock → (v'.ownBlock = (Value.slice a (xs j).length c).ownBlock ∨ v'.ownBlock = some (X.alloc (.cells #[x] (spT j))).heap.size) → PT lo bb W turn deep seen Z fz r (updX xs j (xs j ++ [x])) (w'.setCell ⟨bb, 67 + j, none⟩ v') ∧ w'.cell? ⟨bb, 67 + j, none⟩ = some (.slice a (xs j).length c) ∧ w'.frozen? ⟨bb, 67 + j, none⟩ = false := by
  obtain ⟨r', f', hT, hr, hb, h4, h7⟩ := h
  have hl := Nat.le_trans hlo hb.size
  obtain ⟨a, c, e, k, o, -⟩ := hT.own hj
  refine ⟨a, c, k, o, hl, fun x v' w' ho hg hat => ?_⟩
  obtain ⟨q1, q2, q3, q4, q5⟩ := hT.push hl hj ho (by rw [e]; exact hg) (by rw [e]; exact hat) rfl
  rw [e] at q2
  exact ⟨⟨_, _, q1, fun k hk => (updR_ne _ _ (by omega)).trans (hr k hk), hb.trans q4, (if_neg (fun e => n4 e.2.symm)).trans h4, (if_neg (fun e => n7 e.2.symm)).trans h7⟩, q2, q3⟩
theorem PT.later {Y : World} (h : PT lo bb W turn deep seen Z fz r xs X) (hlo : lo ≤ W.heap.size) (hX : Below X.heap.size X Y) : PT lo bb W turn deep seen Z fz r xs Y := by
  obtain ⟨r', f', hT, hr, hb, h4, h7⟩ := h
  exact ⟨r', f', hT.later hX, hr, hb.trans (hX.mono (Nat.le_trans hlo hb.size)), h4, h7⟩
theorem PT.tell (h : PT lo bb W turn deep seen Z fz r xs X) (hlo : lo ≤ W.heap.size) {j : Nat} (hj : j < 8) (n4 : j ≠ 4) (n7 : j ≠ 7) {i : Nat} (hi8 : 8 ≤ i) (hi : r i = nilRow) : ∃ a c, X.cell? ⟨bb, 67 + j, none⟩ = some (.slice a (xs j).length c) ∧ lo ≤ X.heap.size ∧ (∀ D, Below X.heap.size X D → D.cell? ⟨bb, 67 + j, none⟩ = some (.slice a (xs j).length c) ∧ D.ownsRow lo (spT j) 1 (.slice a (xs j).length c) (xs j).length (xs j)) ∧ ∀ D v L v' w', Below X.heap.size X D → D.ownsRow X.heap.size 66 5 v (List.length L) (tkLs L) → w'.ownsRow lo (spT j) 1 v' ((xs j).length + 1) (xs j ++ [v]) → (D.alloc (.cells #[v] (spT j))).grownBy w' (Value.slice a (xs j).length c).ownBlock → (v'.ownBlock = (Value.slice a (xs j).length c).ownBlock ∨ v'.ownBlock = some (D.alloc (.cells #[v] (spT j))).heap.size) → (∃ Z', PT lo bb W turn deep seen Z' ((v, L) :: fz) r (updX xs j (xs j ++ [v])) (w'.setCell ⟨bb, 67 + j, none⟩ v')) ∧ w'.cell? ⟨bb, 67 + j, none⟩ = some (.slice a (xs j).length c) ∧ w'.frozen? ⟨bb, 67 + j, none⟩ = false := by
  obtain ⟨r', f', hT, hr, hb, h4, h7⟩ := h
  have hl := Nat.le_trans hlo hb.size
  obtain ⟨a, c, e, k, o, -⟩ := hT.own hj
  refine ⟨a, c, k, hl, fun D hD => ?_, fun D v L v' w' hD hov ho hg hat => ?_⟩
  · obtain ⟨a', c', e', k', o', -⟩ := (hT.later hD).own hj
    rw [e] at e'
    simp only [Value.slice.injEq] at e'
    obtain ⟨rfl, -, rfl⟩ := e'
    exact ⟨k', o'⟩
  · obtain ⟨Z', r9, t1, t2, t3, t4, t5, t6, t7⟩ := hT.tell hl ((hr i hi8).trans hi) hi8 hj hD hov ho (by rw [e]; exact hg) (by rw [e]; exact hat)
    rw [e] at t3
    exact ⟨⟨Z', r9, _, t1, fun k hk => (t2 k hk).trans (hr k hk), hb.trans t5, (if_neg (fun e => n4 e.2.symm)).trans h4, (if_neg (fun e => n7 e.2.symm)).trans h7⟩, t3, t4⟩
theorem PT.bk (h : PT lo bb W turn deep seen Z fz r xs X) : ∃ f', BkAt X bb turn deep f' seen := by
  obtain ⟨r', f', hT, -⟩ := h
  exact ⟨f', hT.bk⟩
theorem PT.counted (h : PT lo bb W turn deep seen Z fz r xs X) (hlo : lo ≤ W.heap.size) (v : Int) : PT lo bb W turn deep (updS seen 7 v) Z fz r xs (X.setCell ⟨bb, 75, none⟩ (.int .i64 v)) := by
  obtain ⟨r', f', hT, hr, hb, h4, h7⟩ := h
  have hG := grS_set X bb 75 (.int .i64 v)
  exact ⟨r', f', ⟨hT.bk.setSeen (k := 7) (by decide) v, hT.nil, hT.sep.book 75 _, hT.sp⟩, hr, hb.trans (hG.below (Nat.le_trans hlo hb.size) (fun b e => e ▸ hT.sep.bl.1)), h4, h7⟩
variable {f : Nat → Nat → Value} {O : List Ot} {Q : List Wt}
theorem PT.start (h : TkS W lo bb Z r fz turn 0 f seen O Q) (hlo : lo ≤ W.heap.size) (hX : Below W.heap.size W X) {l : Value} {L : List Tk} (hl : X.ownsRow W.heap.size 66 5 l L.length (tkLs L)) : ∃ i r1, 8 ≤ i ∧ r1 i = ⟨66, 5, l, L.length, tkLs L⟩ ∧ (∀ q ∈ Q, q.i ≠ i) ∧ Cnd r1 fz O Q [] [] ∧ PT lo bb W turn 1 seen Z fz r1 (xsOf O Q []) (X.setCell ⟨bb, 3, none⟩ (.int .i64 1)) := by
  obtain ⟨r0, hT, hr0⟩ := h.l
  obtain ⟨N, hN⟩ := h.fin
  have hi8 : 8 ≤ max N 8 := by omega
  have hnil : r0 (max N 8) = nilRow := (hr0 _ hi8).trans (hN _ (by omega))
  have hs := hT.sep.add (max N 8) (by rw [hnil]; rfl) (x := ⟨66, 5, l, L.length, tkLs L⟩) hX hl hlo
  have hne : ∀ q ∈ Q, q.i ≠ max N 8 := fun q hq e => by
    have h1 := (h.cQ q hq).2.1
    rw [e, hN _ (by omega)] at h1
    exact absurd (congrArg Row.k h1) (by simp [nilRow])
  have hG := grS_set X bb 3 (.int .i64 1)
  refine ⟨max N 8, updR r0 (max N 8) ⟨66, 5, l, L.length, tkLs L⟩, hi8, updR_same _ _ _, hne, ⟨fun o ho => ⟨.inl (h.cO o ho).1, (h.cO o ho).2⟩, fun q hq => ⟨(h.cQ q hq).1, ((updR_ne _ _ (hne q hq)).trans (hr0 _ (h.cQ q hq).1)).trans (h.cQ q hq).2.1, (h.cQ q hq).2.2⟩, fun b hb => (by cases hb), fun b hb => (by cases hb), ?_, h.lO, h.lQ, fun b hb => (by cases hb), fun b hb => (by cases hb), ⟨max N 8 + 1, fun i hi => (updR_ne _ _ (by omega)).trans ((hr0 i (by omega)).trans (hN i (by omega)))⟩⟩, _, f, ⟨(h.bk.later hX).setDeep 1, h.nil, hs.book 3 _, fun j hj => (updR_ne _ _ (by omega)).trans (hT.sp j hj)⟩, fun k hk => rfl, (hX.mono hlo).trans (hG.below (Nat.le_trans hlo hX.size) (fun b e => e ▸ h.sep.bl.1)), h.s4.1, h.s7.1⟩
  simp only [List.map_nil, List.nil_append]
  exact List.pairwise_map.2 h.dQ
theorem PT.finish (hP : PT lo bb W turn deep seen Z fz r (xsOf O Q []) X) (hc : Cnd r fz O Q [] []) : ∃ r' f', TkS X lo bb Z r' fz turn deep f' seen O Q ∧ Below lo W X := by
  obtain ⟨r1, f1, hT, hr, hb, h4, h7⟩ := hP
  have hrE : ∀ q, q ≠ 4 → q ≠ 7 → updR (updR r1 4 nilRow) 7 nilRow q = r1 q := fun q h4 h7 => (updR_ne _ _ h7).trans (updR_ne _ _ h4)
  have hnd := hc.nd
  simp only [List.map_nil, List.nil_append] at hnd
  have e : ∀ j, j < 8 → r1 j = ⟨spT j, 1, f1 7 j, (xsOf O Q [] j).length, xsOf O Q [] j⟩ := hT.sp
  refine ⟨updR (updR r1 4 nilRow) 7 nilRow, f1, ⟨hT.bk, hT.nil, (hT.sep.drop 4).drop 7, ?_, ?_, ?_, ?_, ⟨h4, by rw [updR_ne _ _ (by decide), updR_same]⟩, ?_, ?_, ⟨h7, updR_same _ _ _⟩, fun o ho => ?_, fun q hq => ?_, List.pairwise_map.1 hnd, hc.lO, hc.lQ, ?_⟩, hb⟩
  · rw [hrE 0 (by decide) (by decide), e 0 (by decide)]; simp [spT, xsOf]
  · rw [hrE 1 (by decide) (by decide), e 1 (by decide)]; simp [spT, xsOf]
  · rw [hrE 2 (by decide) (by decide), e 2 (by decide)]; simp [spT, xsOf]
  · rw [hrE 3 (by decide) (by decide), e 3 (by decide)]; simp [spT, xsOf]
  · rw [hrE 5 (by decide) (by decide), e 5 (by decide)]; simp [spT, xsOf, intV]
  · rw [hrE 6 (by decide) (by decide), e 6 (by decide)]; simp [spT, xsOf, intV]
  · obtain ⟨h1, h2⟩ := hc.cO o ho
    exact ⟨h1.resolve_right (fun ⟨b, hb, _⟩ => by cases hb), h2⟩
  · obtain ⟨h1, h2, h3⟩ := hc.cQ q hq
    exact ⟨h1, (hrE _ (by omega) (by omega)).trans ((hr _ h1).trans h2), h3⟩
  · obtain ⟨N, hN⟩ := hc.fin
    exact ⟨max N 8, fun i hi => (hrE i (by omega) (by omega)).trans ((hr i (by omega)).trans (hN i (by omega)))⟩
theorem Cnd.new {fz' : List (Value × List Tk)} {q : Wt} (h : Cnd r fz O Q [] []) (h8 : 8 ≤ q.i) (hq : r q.i = ⟨66, 5, q.v, q.L.length, tkLs q.L⟩) (hne : ∀ x ∈ Q, x.i ≠ q.i) (hf : ∀ y ∈ fz, y ∈ fz') (hc : (q.c, q.L) ∈ fz') (hl : q.L.length ≤ 90000) : Cnd r fz' O (Q ++ [q]) [] [] := by
  have hnd := h.nd
  simp only [List.map_nil, List.nil_append] at hnd
  refine ⟨fun o ho => ⟨(h.cO o ho).1.imp (hf _) (fun x => x), hf _ (h.cO o ho).2⟩, fun x hx => ?_, fun b hb => (by cases hb), fun b hb => (by cases hb), ?_, h.lO, fun x hx => ?_, fun b hb => (by cases hb), fun b hb => (by cases hb), h.fin⟩
  · rcases List.mem_append.1 hx with hx | hx
    · exact ⟨(h.cQ x hx).1, (h.cQ x hx).2.1, hf _ (h.cQ x hx).2.2⟩
    · rw [List.mem_singleton.1 hx]
      exact ⟨h8, hq, hc⟩
  · simp only [List.map_nil, List.nil_append, List.map_append, List.map_cons]
    refine List.nodup_append.2 ⟨hnd, by simp, fun a ha b hb e => ?_⟩
    obtain ⟨x, hx, rfl⟩ := List.mem_map.1 ha
    rw [List.mem_singleton.1 hb] at e
    exact hne x hx e
  · rcases List.mem_append.1 hx with hx | hx
    · exact h.lQ x hx
    · rw [List.mem_singleton.1 hx]
      exact hl
end

set_option maxRecDepth 8000 in
set_option maxHeartbeats 4000000 in
theorem tokens_walk {W X : World} {lo bb : Nat} {Z : Nat → Prop} {r : Nat → Row} {fz : List (Value × List Tk)} {turn : Int} {f : Nat → Nat → Value} {seen : Nat → Int} {O : List Ot} {Q : List Wt} (h : TkS W lo bb Z r fz turn 0 f seen O Q) (hlo : lo ≤ W.heap.size) (hX : Below W.heap.size W X) {l : Value} {L : List Tk} (hl : X.ownsRow W.heap.size 66 5 l L.length (tkLs L)) (hL : L.length ≤ 90000) (hO : O.length ≤ 500) (hQ : Q.length ≤ 500) (m : Int) {P : World → Prop}
    (hD : ∀ Y Z' r' fz' f' seen' Q', TkS Y lo bb Z' r' fz' turn 1 f' seen' O Q' → Q'.length = Q.length + 1 → Below lo W Y → (∀ y ∈ fz, y ∈ fz') → Calls Tryz.prog 13 #[.pointer (some ⟨bb, 0, none⟩)] Y fun e Y' => e = .returned (.tuple #[]) ∧ P Y') :
    Calls Tryz.prog 8 #[.pointer (some ⟨bb, 0, none⟩), l, .int .i64 m] X fun e Y => e = .returned (.tuple #[]) ∧ P Y := by
  obtain ⟨la, lc, rfl⟩ := own_s3 hl
  obtain ⟨i, r1, hi8, hri, hne, hC, hP1⟩ := PT.start h hlo hX hl
  have c3 : X.cell? ⟨bb, 3, none⟩ = some (.int .i64 0) := (h.bk.later hX).cell (i := 3) (by decide)
  have f3 := (h.bk.later hX).fz 3
  obtain ⟨i9, hi9, hin⟩ : ∃ j, 8 ≤ j ∧ r1 j = nilRow := by
    obtain ⟨N, hN⟩ := hC.fin
    exact ⟨max N 8, by omega, hN _ (by omega)⟩
  have hxl : Hid (∀ j, (xsOf O Q [] j).length ≤ 5000) := ⟨fun j => by
    match j with
    | 0 => simp [xsOf]; omega
    | 1 => simp [xsOf]; omega
    | 2 => simp [xsOf]; omega
    | 3 => simp [xsOf]; omega
    | 4 => simp [xsOf]
    | 5 => simp [xsOf, intV]; omega
    | 6 => simp [xsOf, intV]; omega
    | j + 7 => simp [xsOf, intV]⟩
  obtain ⟨xs, hxs⟩ : ∃ xs, xsOf O Q [] = xs := ⟨_, rfl⟩
  rw [hxs] at hP1 hxl
  replace hxs := Hid.mk hxs
  replace hC := Hid.mk hC
  replace hD := Hid.mk hD
  replace hne := Hid.mk hne
  replace hP1 := Hid.mk hP1
  have hor : Hid (∀ Y xs' Z' fz', PT lo bb W turn 1 seen Z' fz' r1 xs' Y → Y.ownsRow lo 66 5 (.slice la L.length lc) L.length (tkLs L)) := ⟨fun Y xs' Z' fz' hY => by
    obtain ⟨r7, f7, hT7, hr7, -⟩ := hY
    have := hT7.sep.own i
    rw [hr7 i hi8, hri] at this
    exact this⟩
  replace hri := Hid.mk hri
  clear h hl hX
  obtain ⟨iS, hS5, hS0, hS1, hS2⟩ := info_parts infoTs
  obtain ⟨iI, hI5, hI0, hI1, hI2⟩ := info_parts infoIn
  go_enter Tryz.func8, Tryz.ntmps8
  go_upto_region 1 with fail
  clear c3 f3
  generalize X.setCell ⟨bb, 3, none⟩ (.int .i64 1) = WA at *
  replace hP1 := hP1.out
  obtain ⟨a2, c2, kk, oo, hl1, nx1⟩ := hP1.push hlo (j := 2) (by decide) (by decide) (by decide)
  have k2 : WA.cell? ⟨bb, 69, none⟩ = some (.slice a2 (xs 2).length c2) := kk
  clear kk
  replace nx1 := Hid.mk nx1
  go_wp2_with (at_builtin; refine stopJ ?_)
  unfold StopJ
  refine wpList_app _ rfl _ _ 32 rfl lo 51 iS _ 1 24 Tryz.underlying32 hS5 hS0 hS1 hS2 rfl (by decide) (.slice a2 (xs 2).length c2) (xs 2).length (xs 2) rfl (oo.alloc _) ⟨WA.heap.size, 0, none⟩ 1 1 [.slice la L.length lc] rfl rfl (cell_one_new WA _ _) (by simp [Value.oneCell']) (by have := hxl.out 2; unfold maxLen; omega) (by have := hxl.out 2; omega) (Nat.le_trans hl1 (by simp)) ?_
  intro v9 w9 ho9 hg9 hat9 _
  obtain ⟨va2, vc2, rfl⟩ := own_s3 ho9
  obtain ⟨hP2, y0, y0f⟩ := nx1.out _ _ _ ho9 hg9 hat9
  replace y0 : w9.cell? ⟨bb, 69, none⟩ = some (.slice a2 (xs 2).length c2) := y0
  replace y0f : w9.frozen? ⟨bb, 69, none⟩ = false := y0f
  replace hP2 : PT lo bb W turn 1 seen Z fz r1 (updX (xs) 2 (xs 2 ++ [.slice la L.length lc])) (w9.setCell ⟨bb, 69, none⟩ (.slice va2 ((xs 2).length + 1) vc2)) := hP2
  clear ho9 hg9 hat9 k2 oo nx1 hP1
  replace hP2 := Hid.mk hP2
  go_upto_region 2 with fail
  clear y0 y0f
  generalize w9.setCell ⟨bb, 69, none⟩ (.slice va2 ((xs 2).length + 1) vc2) = WB at *
  replace hP2 := hP2.out
  obtain ⟨a3, c3, kk, hlF, hX1, nx2⟩ := hP2.tell hlo (j := 3) (by decide) (by decide) (by decide) hi9 hin
  rw [show (updX xs 2 (xs 2 ++ [.slice la L.length lc])) 3 = xs 3 from rfl] at kk hX1 nx2
  have k3 : WB.cell? ⟨bb, 70, none⟩ = some (.slice a3 (xs 3).length c3) := kk
  have hX2 : Hid (∀ D, Below WB.heap.size WB D → D.cell? ⟨bb, 70, none⟩ = some (.slice a3 (xs 3).length c3) ∧ D.ownsRow lo 51 1 (.slice a3 (xs 3).length c3) (xs 3).length (xs 3)) := ⟨hX1⟩
  clear kk hX1
  replace nx2 := Hid.mk nx2
  have D5 : Below WB.heap.size WB WB.drew := (Below.refl _ _).drew
  have DA : Below WB.drew.heap.size WB.drew (WB.drew.alloc (.cells #[] 66)) := (Below.refl _ _).alloc (Nat.le_refl _) _
  have m1' : WB.drew.cell? ⟨bb, 70, none⟩ = some (.slice a3 (xs 3).length c3) := k3
  have mA := (hX2.out _ (below_step D5 DA)).1
  have mB : (WB.alloc (.cells #[] 66)).drew.cell? ⟨bb, 70, none⟩ = some (.slice a3 (xs 3).length c3) := mA
  have hoF := hor.out _ _ _ _ hP2
  obtain ⟨iT, hT5, hT0, hT1, hT2⟩ := info_parts infoTk
  go_cut [2] from 23 to 34 (fun x wx => x = .int .i64 m ∧ ∃ t Z', PT lo bb W turn 1 seen Z' ((t, L) :: fz) r1 (updX (updX xs 2 (xs 2 ++ [.slice la L.length lc])) 3 (xs 3 ++ [t])) wx)
  case first =>
    have hrw := RwZ.of_own hoF
    obtain ⟨-, ⟨e0, n0⟩ | ⟨gb, gc, cur, e0, -⟩⟩ := hoF
    · have hL0 : Hid (L = []) := ⟨List.length_eq_zero_iff.1 n0⟩
      have h00 : Hid (L.length = 0) := ⟨n0⟩
      simp only [Value.slice.injEq] at e0
      obtain ⟨rfl, -, rfl⟩ := e0
      have B8 := below_step D5 DA
      have A8 : Below (WB.drew.alloc (.cells #[] 66)).heap.size (WB.drew.alloc (.cells #[] 66)) ((WB.drew.alloc (.cells #[] 66)).alloc (.cells #[.slice (some ⟨WB.heap.size, 0, none⟩) 0 0] 51)) := (Below.refl _ _).alloc (Nat.le_refl _) _
      have B9 := below_step B8 A8
      have m9 := (hX2.out _ B9).1
      have hoS := (hX2.out _ B9).2
      have hov8 : Hid ((WB.drew.alloc (.cells #[] 66)).ownsRow WB.heap.size 66 5 (.slice (some ⟨WB.heap.size, 0, none⟩) 0 0) (List.length L) (tkLs L)) := ⟨by rw [hL0.out]; exact empty_own WB.drew _ 5⟩
      have m9n : ((WB.alloc (.cells #[] 66)).alloc (.cells #[.slice (some ⟨WB.heap.size, 0, none⟩) 0 0] 51)).drew.cell? ⟨bb, 70, none⟩ = some (.slice a3 (xs 3).length c3) := m9
      have hnw : Hid (∀ j u, [Value.slice (some ⟨WB.heap.size, 0, none⟩) 0 0][j]? = some u → ((WB.alloc (.cells #[] 66)).alloc (.cells #[.slice (some ⟨WB.heap.size, 0, none⟩) 0 0] 51)).drew.cell? ((⟨WB.heap.size + 1, 0, none⟩ : Addr).add j) = some u) := ⟨by
        have e9 : (WB.drew.alloc (.cells #[] 66)).heap.size = WB.heap.size + 1 := by simp
        have h9 := cell_one_new (WB.drew.alloc (.cells #[] 66)) (.slice (some ⟨WB.heap.size, 0, none⟩) 0 0) 51
        rw [e9] at h9
        exact h9⟩
      clear n0 hrw
      go_region_law (first | (refine step_none (P := Tryz.prog) _ rfl _ _ 51 rfl WB.drew.heap.size 66 iT 5 Tryz.underlying51 hT5 _ 0 [] rfl (empty_own WB.drew _ 5) (congrArg (fun n => Value.slice none n 0) h00.out) ?_) | (refine step_app (P := Tryz.prog) _ rfl _ _ 32 rfl lo 51 iS _ 1 24 Tryz.underlying32 hS5 hS0 hS1 hS2 rfl (by decide) (.slice a3 (xs 3).length c3) (xs 3).length (xs 3) rfl hoS ⟨WB.heap.size + 1, 0, none⟩ 1 1 [.slice (some ⟨WB.heap.size, 0, none⟩) 0 0] rfl rfl hnw.out (by simp [Value.oneCell']) (by have := hxl.out 3; unfold maxLen; omega) (by have := hxl.out 3; omega) (Nat.le_trans hlF B9.size) ?_; intro vt wt hot hgt hatt _; obtain ⟨pt, ct, rfl⟩ := own_s3 hot; obtain ⟨hPn, y0, y0f⟩ := nx2.out _ _ _ _ _ B8 hov8.out hot hgt hatt; replace y0 : wt.cell? ⟨bb, 70, none⟩ = some (.slice a3 (xs 3).length c3) := y0; replace y0f : wt.frozen? ⟨bb, 70, none⟩ = false := y0f; replace hPn := Hid.mk hPn))
      all_goals (refine Met.intro ?_; go_step; go_meet)
      all_goals exact ⟨rfl, _, hPn.out⟩
    · simp only [Value.slice.injEq] at e0
      obtain ⟨rfl, -, rfl⟩ := e0
      obtain ⟨za, zc, ez, hz⟩ := hrw
      have hsrc : Hid (∀ j u, (tkLs L)[j]? = some u → (WB.drew.alloc (.cells #[] 66)).cell? ((⟨gb, 0, none⟩ : Addr).add j) = some u) := ⟨fun j u hu => by
        rw [show ((⟨gb, 0, none⟩ : Addr).add j) = ⟨gb, j, none⟩ by cases j <;> simp [Addr.add]]
        rcases hz with hz | ⟨b, eb, -, hbl, hbc⟩
        · rw [show L = [] from hz] at hu
          simp [tkLs] at hu
        · simp only [Value.slice.injEq] at ez
          obtain ⟨rfl, -, -⟩ := ez
          simp only [Option.some.injEq, Addr.mk.injEq] at eb
          obtain ⟨rfl, -⟩ := eb
          exact ((below_step D5 DA).cell (p := ⟨gb, j, none⟩) hbl).trans (hbc j u hu)⟩
      have hsl : Hid ((tkLs L).length = L.length * 5) := ⟨by rw [tkLs_len]⟩
      clear hz ez
      go_region_law (first | (refine step_app (P := Tryz.prog) _ rfl _ _ 51 rfl WB.drew.heap.size 66 iT _ 5 48 Tryz.underlying51 hT5 hT0 hT1 hT2 rfl (by decide) _ 0 [] rfl (empty_own WB.drew _ 5) ⟨gb, 0, none⟩ L.length _ (tkLs L) rfl hsl.out hsrc.out (tkLs_one _) (by unfold maxLen; omega) (by omega) DA.size ?_; intro v8 w8 ho8 hg8 _ _; obtain ⟨hov8, hb8⟩ := copied_own rfl ho8 hg8; rw [Nat.zero_add] at ho8; obtain ⟨p8, c8, rfl⟩ := own_s3 ho8; have B8 := below_step D5 hb8; have m8 := (hX2.out _ B8).1; have A8 : Below w8.heap.size w8 (w8.alloc (.cells #[.slice p8 L.length c8] 51)) := (Below.refl _ _).alloc (Nat.le_refl _) _; have B9 := below_step B8 A8; have m9 := (hX2.out _ B9).1; have hoS := (hX2.out _ B9).2; replace hov8 := Hid.mk hov8; clear ho8 hg8) | (refine step_app (P := Tryz.prog) _ rfl _ _ 32 rfl lo 51 iS _ 1 24 Tryz.underlying32 hS5 hS0 hS1 hS2 rfl (by decide) (.slice a3 (xs 3).length c3) (xs 3).length (xs 3) rfl hoS ⟨w8.heap.size, 0, none⟩ 1 1 [.slice p8 L.length c8] rfl rfl (cell_one_new w8 _ _) (by simp [Value.oneCell']) (by have := hxl.out 3; unfold maxLen; omega) (by have := hxl.out 3; omega) (Nat.le_trans hlF B9.size) ?_; intro vt wt hot hgt hatt _; obtain ⟨pt, ct, rfl⟩ := own_s3 hot; obtain ⟨hPn, y0, y0f⟩ := nx2.out _ _ _ _ _ B8 hov8.out hot hgt hatt; replace y0 : wt.cell? ⟨bb, 70, none⟩ = some (.slice a3 (xs 3).length c3) := y0; replace y0f : wt.frozen? ⟨bb, 70, none⟩ = false := y0f; replace hPn := Hid.mk hPn))
      all_goals (refine Met.intro ?_; go_step; go_meet)
      all_goals exact ⟨rfl, _, hPn.out⟩
  case rest =>
    obtain ⟨rfl, t, Z2, hP3⟩ := hcut
    clear hP2 nx2 hX2 k3 m1' mA mB hoF D5 DA hlF
    have hct : Hid (∃ ta tc, t = .slice ta L.length tc) := ⟨by
      obtain ⟨r7, f7, hT7, -⟩ := hP3
      obtain ⟨a7, c7, e7, -⟩ := hT7.sep.fz _ (List.mem_cons_self ..)
      exact ⟨a7, c7, e7⟩⟩
    obtain ⟨a5, c5, kk, oo, hl3, nx3⟩ := hP3.push hlo (j := 5) (by decide) (by decide) (by decide)
    rw [show (updX (updX (xs) 2 (xs 2 ++ [.slice la L.length lc])) 3 (xs 3 ++ [t])) 5 = xs 5 from rfl] at kk oo nx3
    have k5 : wc.cell? ⟨bb, 72, none⟩ = some (.slice a5 (xs 5).length c5) := kk
    clear kk
    replace nx3 := Hid.mk nx3
    go_wp2_with (at_builtin; refine stopJ ?_)
    unfold StopJ
    refine wpList_app _ rfl _ _ 25 rfl lo 3 iI _ 1 8 Tryz.underlying25 hI5 hI0 hI1 hI2 rfl (by decide) (.slice a5 (xs 5).length c5) (xs 5).length (xs 5) rfl (oo.alloc _) ⟨wc.heap.size, 0, none⟩ 1 1 [.int .i64 m] rfl rfl (cell_one_new wc _ _) (by simp [Value.oneCell']) (by have := hxl.out 5; unfold maxLen; omega) (by have := hxl.out 5; omega) (Nat.le_trans hl3 (by simp)) ?_
    intro v9 w9 ho9 hg9 hat9 _
    obtain ⟨va5, vc5, rfl⟩ := own_s3 ho9
    obtain ⟨hP4, y0, y0f⟩ := nx3.out _ _ _ ho9 hg9 hat9
    replace y0 : w9.cell? ⟨bb, 72, none⟩ = some (.slice a5 (xs 5).length c5) := y0
    replace y0f : w9.frozen? ⟨bb, 72, none⟩ = false := y0f
    replace hP4 : PT lo bb W turn 1 seen Z2 ((t, L) :: fz) r1 (updX (updX (updX (xs) 2 (xs 2 ++ [.slice la L.length lc])) 3 (xs 3 ++ [t])) 5 (xs 5 ++ [.int .i64 m])) (w9.setCell ⟨bb, 72, none⟩ (.slice va5 ((xs 5).length + 1) vc5)) := hP4
    clear ho9 hg9 hat9 k5 oo nx3 hP3
    replace hP4 := Hid.mk hP4
    go_upto_region 4 with fail
    clear y0 y0f
    generalize w9.setCell ⟨bb, 72, none⟩ (.slice va5 ((xs 5).length + 1) vc5) = WD at *
    replace hP4 := hP4.out
    obtain ⟨a6, c6, kk, oo, hl4, nx4⟩ := hP4.push hlo (j := 6) (by decide) (by decide) (by decide)
    rw [show (updX (updX (updX (xs) 2 (xs 2 ++ [.slice la L.length lc])) 3 (xs 3 ++ [t])) 5 (xs 5 ++ [.int .i64 m])) 6 = xs 6 from rfl] at kk oo nx4
    have k6 : WD.cell? ⟨bb, 73, none⟩ = some (.slice a6 (xs 6).length c6) := kk
    clear kk
    replace nx4 := Hid.mk nx4
    obtain ⟨fb, hfb⟩ := hP4.bk
    have kd6 : WD.drew.cell? ⟨bb, 73, none⟩ = some (.slice a6 (xs 6).length c6) := k6
    have ks : WD.cell? ⟨bb, 75, none⟩ = some (.int .i64 (seen 7)) := hfb.cell (i := 75) (by decide)
    have ksd : WD.drew.cell? ⟨bb, 75, none⟩ = some (.int .i64 (seen 7)) := ks
    have hbd : Hid (BkAt WD.drew bb turn 1 fb seen) := ⟨hfb.later (Below.refl _ _).drew⟩
    have hE : Hid (∀ d : Int, (WD.alloc (.cells #[.int .i64 d] 3)).drew.cell? ⟨bb, 73, none⟩ = some (.slice a6 (xs 6).length c6)) := ⟨fun d => by
      have E6 : Below WD.heap.size WD (WD.alloc (.cells #[.int .i64 d] 3)) := (Below.refl _ _).alloc (Nat.le_refl _) _
      exact (E6.cell (p := ⟨bb, 73, none⟩) (World.block_lt_of_cell? _ _ k6)).trans k6⟩
    clear hfb
    go_cut [2] from 45 to 59 (fun x wx => x = .int .i64 m ∧ ∃ d : Int, PT lo bb W turn 1 seen Z2 ((t, L) :: fz) r1 (updX (updX (updX (updX (xs) 2 (xs 2 ++ [.slice la L.length lc])) 3 (xs 3 ++ [t])) 5 (xs 5 ++ [.int .i64 m])) 6 (xs 6 ++ [.int .i64 d])) wx)
    case first =>
      go_region_law (first | (refine step_app (P := Tryz.prog) _ rfl _ _ 25 rfl lo 3 iI _ 1 8 Tryz.underlying25 hI5 hI0 hI1 hI2 rfl (by decide) (.slice a6 (xs 6).length c6) (xs 6).length (xs 6) rfl (show (WD.alloc (.cells #[.int .i64 dd] 3)).drew.ownsRow lo 3 1 _ _ _ from (oo.alloc _).drew) ⟨WD.heap.size, 0, none⟩ 1 1 [.int .i64 dd] rfl rfl (cell_one_new WD _ _) (by simp [Value.oneCell']) (by have := hxl.out 6; unfold maxLen; omega) (by have := hxl.out 6; omega) (Nat.le_trans hl4 (by simp)) ?_; intro v9 w9 ho9 hg9 hat9 _; obtain ⟨va6, vc6, rfl⟩ := own_s3 ho9; obtain ⟨hPn, y0, y0f⟩ := nx4.out _ _ _ ho9 ⟨hg9.os, hg9.tape, hg9.output, hg9.size, hg9.block⟩ hat9; replace y0 : w9.cell? ⟨bb, 73, none⟩ = some (.slice a6 (xs 6).length c6) := y0; replace y0f : w9.frozen? ⟨bb, 73, none⟩ = false := y0f; replace hPn := Hid.mk hPn) | (go_simp; go_at_call 12; refine (due_any hbd.out _).mono ?_; rintro e w8 ⟨dd, rfl, rfl⟩; have ke6 := hE.out dd))
      all_goals (refine Met.intro ?_; go_step; go_meet)
      all_goals exact ⟨rfl, _, hPn.out⟩
    case rest =>
      obtain ⟨rfl, dd, hP5⟩ := hcut
      clear hP4 nx4 oo k6 kd6 ks ksd hbd hE
      obtain ⟨fb, hfb⟩ := hP5.bk
      have ks : wc.cell? ⟨bb, 75, none⟩ = some (.int .i64 (seen 7)) := hfb.cell (i := 75) (by decide)
      have ksf := hfb.fz 75
      have hP6 := hP5.counted hlo (wrap64 (seen 7 + 1))
      clear hfb hP5
      replace hP6 := Hid.mk hP6
      go_upto_region 6 with fail
      clear ks ksf
      generalize wc.setCell ⟨bb, 75, none⟩ (.int .i64 (wrap64 (seen 7 + 1))) = WZ at *
      have hdn := hD.out WZ
      have hfin : Calls Tryz.prog 13 #[.pointer (some ⟨bb, 0, none⟩)] WZ fun e Y' => e = .returned (.tuple #[]) ∧ P Y' := by
        have hx : updX (updX (updX (updX (xs) 2 (xs 2 ++ [.slice la L.length lc])) 3 (xs 3 ++ [t])) 5 (xs 5 ++ [.int .i64 m])) 6 (xs 6 ++ [.int .i64 dd]) = xsOf O (Q ++ [⟨i, .slice la L.length lc, t, L, m, dd⟩]) [] := by
          rw [← hxs.out]
          exact xs_kept O Q [] ⟨i, .slice la L.length lc, t, L, m, dd⟩
        have hQ6 := hP6.out
        rw [hx] at hQ6
        obtain ⟨r8, f8, hS8, hb8⟩ := hQ6.finish (hC.out.new (q := ⟨i, .slice la L.length lc, t, L, m, dd⟩) hi8 hri.out hne.out (fun y hy => List.mem_cons_of_mem _ hy) (List.mem_cons_self ..) hL)
        exact hdn _ _ _ _ _ _ hS8 (by simp) hb8 (fun y hy => List.mem_cons_of_mem _ hy)
      clear hdn hD hP6 hC hor hri hne hxl hxs
      go_wp2_with (go_at_call 13; refine hfin.mono ?_; rintro e w9 ⟨rfl, hp⟩; replace hp := Hid.mk hp)
      go_end0
      exact ⟨rfl, hp.out⟩
end Go.Proofs.YtekapipfaahhcaaGreatDoor.KB


/- The lists under way. -/
namespace Go.Proofs.YtekapipfaahhcaaGreatDoor.KB
open Go.RowKit
set_option linter.constructorNameAsVariable false

def MkE (lo bb : Nat) (W : World) (turn deep : Int) (seen : Nat → Int) (Zo : Nat → Prop) (F : List (Value × List Tk)) (n : Nat) (Q : List Wt) (k : Nat) (X : World) : Prop :=
  ∃ Z r fz f O Q' A, TkL X lo bb Z r fz turn deep f seen (xsOf O Q' A) ∧ Cnd r fz O Q' A (Q.drop k) ∧ (∀ b, Zo b → Z b) ∧ (∀ b, Zo b → X.heap[b]? = W.heap[b]?) ∧ Below lo W X ∧ O.length = n + A.length ∧ Q'.length + A.length = k ∧ ∀ y ∈ F, y ∈ fz
theorem cell_heap {W X : World} {b o : Nat} (h : X.heap[b]? = W.heap[b]?) : X.cell? ⟨b, o, none⟩ = W.cell? ⟨b, o, none⟩ := by simp only [World.cell?, h]

theorem own_sl {W : World} {base n size : Nat} {e : TypeId} {v : Value} {xs : List Value} (h : W.ownsRow base e size v n xs) : ∃ a c, v = .slice a n c := by
  obtain ⟨a, c, e, -⟩ := own_len h
  exact ⟨a, c, e⟩
theorem drewN_below (w : World) (n : Nat) : Below w.heap.size w (w.drewN n) := by
  induction n with
  | zero => exact Below.refl _ _
  | succ n ih => exact ih.drew
/-- The lists under way. -/
def PS (lo bb : Nat) (W : World) (turn deep : Int) (seen : Nat → Int) (Zo Z : Nat → Prop) (fz : List (Value × List Tk)) (r : Nat → Row) (xs : Nat → List Value) (X : World) : Prop := ∃ r' f', TkL X lo bb Z r' fz turn deep f' seen xs ∧ (∀ k, 8 ≤ k → r' k = r k) ∧ Below lo W X ∧ ∀ b, Zo b → X.heap[b]? = W.heap[b]?
theorem PS.push {lo bb : Nat} {W X : World} {turn deep : Int} {seen : Nat → Int} {Zo Z : Nat → Prop} {fz : List (Value × List Tk)} {r : Nat → Row} {xs : Nat → List Value} (h : PS lo bb W turn deep seen Zo Z fz r xs X) (hlo : lo ≤ W.heap.size) (hZ : ∀ b, Zo b → Z b) {j : Nat} (hj : j < 8) : ∃ a c, X.cell? ⟨bb, 67 + j, none⟩ = some (.slice a (xs j).length c) ∧ X.ownsRow lo (spT j) 1 (.slice a (xs j).length c) (xs j).length (xs j) ∧ lo ≤ X.heap.size ∧ ∀ x v' w', w'.ownsRow lo (spT j) 1 v' ((xs j).length + 1) (xs j ++ [x]) → (X.alloc (.cells #[x] (spT j))).grownBy w' (Value.slice a (xs j).length c).ownBlock → (v'.ownBlock = (Value.slice a (xs j).length c).ownBlock ∨ v'.ownBlock = some (X.alloc (.cells #[x] (spT j))).heap.size) → PS lo bb W turn deep seen Zo Z fz r (updX xs j (xs j ++ [x])) (w'.setCell ⟨bb, 67 + j, none⟩ v') ∧ w'.cell? ⟨bb, 67 + j, none⟩ = some (.slice a (xs j).length c) ∧ w'.frozen? ⟨bb, 67 + j, none⟩ = false := by
  obtain ⟨r', f', hT, hr, hb, hh⟩ := h
  have hl := Nat.le_trans hlo hb.size
  obtain ⟨a, c, e, k, o, -⟩ := hT.own hj
  refine ⟨a, c, k, o, hl, fun x v' w' ho hg hat => ?_⟩
  obtain ⟨q1, q2, q3, q4, q5⟩ := hT.push hl hj ho (by rw [e]; exact hg) (by rw [e]; exact hat) rfl
  rw [e] at q2
  exact ⟨⟨_, _, q1, fun k hk => (updR_ne _ _ (by omega)).trans (hr k hk), hb.trans q4, fun b hb' => (q5 b (hZ b hb')).trans (hh b hb')⟩, q2, q3⟩
theorem PS.later {lo bb : Nat} {W X Y : World} {turn deep : Int} {seen : Nat → Int} {Zo Z : Nat → Prop} {fz : List (Value × List Tk)} {r : Nat → Row} {xs : Nat → List Value} (h : PS lo bb W turn deep seen Zo Z fz r xs X) (hlo : lo ≤ W.heap.size) (hZ : ∀ b, Zo b → Z b) (hX : Below X.heap.size X Y) : PS lo bb W turn deep seen Zo Z fz r xs Y := by
  obtain ⟨r', f', hT, hr, hb, hh⟩ := h
  exact ⟨r', f', hT.later hX, hr, hb.trans (hX.mono (Nat.le_trans hlo hb.size)), fun b hb' => (hX.block b (hT.sep.zl b (hZ b hb')).2.1).trans (hh b hb')⟩
theorem PS.tell {lo bb : Nat} {W X : World} {turn deep : Int} {seen : Nat → Int} {Zo Z : Nat → Prop} {fz : List (Value × List Tk)} {r : Nat → Row} {xs : Nat → List Value} (h : PS lo bb W turn deep seen Zo Z fz r xs X) (hlo : lo ≤ W.heap.size) (hZ : ∀ b, Zo b → Z b) {j : Nat} (hj : j < 8) {i : Nat} (hi8 : 8 ≤ i) (hi : r i = nilRow) : ∃ a c, X.cell? ⟨bb, 67 + j, none⟩ = some (.slice a (xs j).length c) ∧ lo ≤ X.heap.size ∧ (∀ D, Below X.heap.size X D → D.cell? ⟨bb, 67 + j, none⟩ = some (.slice a (xs j).length c) ∧ D.ownsRow lo (spT j) 1 (.slice a (xs j).length c) (xs j).length (xs j)) ∧ ∀ D v L v' w', Below X.heap.size X D → D.ownsRow X.heap.size 66 5 v (List.length L) (tkLs L) → w'.ownsRow lo (spT j) 1 v' ((xs j).length + 1) (xs j ++ [v]) → (D.alloc (.cells #[v] (spT j))).grownBy w' (Value.slice a (xs j).length c).ownBlock → (v'.ownBlock = (Value.slice a (xs j).length c).ownBlock ∨ v'.ownBlock = some (D.alloc (.cells #[v] (spT j))).heap.size) → (∃ Z', (∀ b, Zo b → Z' b) ∧ PS lo bb W turn deep seen Zo Z' ((v, L) :: fz) r (updX xs j (xs j ++ [v])) (w'.setCell ⟨bb, 67 + j, none⟩ v')) ∧ w'.cell? ⟨bb, 67 + j, none⟩ = some (.slice a (xs j).length c) ∧ w'.frozen? ⟨bb, 67 + j, none⟩ = false := by
  obtain ⟨r', f', hT, hr, hb, hh⟩ := h
  have hl := Nat.le_trans hlo hb.size
  obtain ⟨a, c, e, k, o, -⟩ := hT.own hj
  refine ⟨a, c, k, hl, fun D hD => ?_, fun D v L v' w' hD hov ho hg hat => ?_⟩
  · obtain ⟨a', c', e', k', o', -⟩ := (hT.later hD).own hj
    rw [e] at e'
    simp only [Value.slice.injEq] at e'
    obtain ⟨rfl, -, rfl⟩ := e'
    exact ⟨k', o'⟩
  · obtain ⟨Z', r9, t1, t2, t3, t4, t5, t6, t7⟩ := hT.tell hl ((hr i hi8).trans hi) hi8 hj hD hov ho (by rw [e]; exact hg) (by rw [e]; exact hat)
    rw [e] at t3
    exact ⟨⟨Z', fun b hb' => t6 b (hZ b hb'), r9, _, t1, fun k hk => (t2 k hk).trans (hr k hk), hb.trans t5, fun b hb' => (t7 b (hZ b hb')).trans (hh b hb')⟩, t3, t4⟩
end Go.Proofs.YtekapipfaahhcaaGreatDoor.KB
