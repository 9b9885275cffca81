import Derived.Test.YthmjkmdbggfiiaaGreatDoorTurnKcR
import Derived.Test.YthmjkmdbggfiiaaGreatDoorKcPointsS
import Derived.Test.YthmjkmdbggfiiaaGreatDoorJoin39
import Derived.Deep.RegionHeldLaw
import Derived.Deep.RegionLaw
import Derived.BigQuiet
/- What is set by may be written, and grows. -/
namespace Go.Proofs.YthmjkmdbggfiiaaGreatDoor.KB
open Go.RowKit
set_option linter.constructorNameAsVariable false

section
variable {N : Nat → Kn} {U : Nat → Prop} {lo bb : Nat} {W X Y : World} {turn deep : Int} {seen : Nat → Int} {F : List (Value × Nat × List Value)} {R : Nat → Row → Prop} {c : Nat → Nat} {V : Nat → Prop}
theorem KM.put1 {Z : Nat → Prop} {r : Nat → Row} {fz : List (Value × Nat × List Value)} {f : Nat → Nat → Value} {O : Nat → List Ot} {Q : Nat → List Wt} {A : Nat → List Fr} {i : Nat} {x x' : Row} (hS : KS N U X lo bb Z r fz turn deep f seen O Q A) (hb : Below lo W X) (hf : ∀ y ∈ F, y ∈ fz) (hr : ∀ i x, R i x → Rs U r Q A i x) (hc : ∀ k, U k → (O k).length + 2 * (Q k).length + (A k).length = c k) (hv : ∀ k, U k → V k → A k = []) (hx : Rs U r Q A i x) (hk : 0 < x'.k) (hs : Sep Y lo bb Z (updR r i x') fz) (hG : GrS (fun g => x.v.ownBlock = some g) X Y) (hlx : lo ≤ X.heap.size) : KM N U lo bb W turn deep seen F (fun j y => (R j y ∧ j ≠ i) ∨ (j = i ∧ y = x')) c V Y := by
  have hri := hx.row
  have hnb : ¬ x.v.ownBlock = some bb := fun e => (hS.sep.rz i bb (by rw [hri]; exact e)).2 rfl
  have hni : ∀ k, U k → ∀ j, Ix (Q k) (A k) j → j ≠ i := fun k hk j hj e => hx.no k hk (e ▸ hj)
  refine ⟨Z, updR r i x', fz, f, O, Q, A, ⟨hS.bk.grS hG hnb, hS.nil, hS.uk, hs, fun k hk j hj => ?_, fun k hk => (hS.c k hk).rows (fun j _ hj3 => updR_ne _ _ (hni k hk j ?_)) (fun y hy => hy), hS.x, ?_⟩, hb.trans (hG.below hlx (fun g e => (own_rowT (hS.sep.own i) (by rw [hri]; exact e)).1)), hf, fun j y hj => ?_, hc, hv⟩
  · have := hS.uk k hk
    have := hx.big
    rw [updR_ne _ _ (by omega)]
    exact hS.sp k hk j hj
  · rcases hj3 with h3 | h3 | ⟨q, hq, -⟩
    · exact .inl h3
    · exact .inr h3
    · cases hq
  · obtain ⟨M, hM⟩ := hS.fin
    exact ⟨max M (i + 1), fun j hj => (updR_ne _ _ (by omega)).trans (hM j (by omega))⟩
  · rcases hj with ⟨hj, hne⟩ | ⟨rfl, rfl⟩
    · have h0 := hr j y hj
      exact ⟨h0.big, (updR_ne _ _ hne).trans h0.row, h0.pos, h0.no⟩
    · exact ⟨hx.big, updR_same _ _ _, hk, hx.no⟩
theorem KM.app (h : KM N U lo bb W turn deep seen F R c V X) (hlo : lo ≤ W.heap.size) {i : Nat} {x x' : Row} (hR : R i x) (ho : Y.ownsRow lo x'.e x'.k x'.v x'.n x'.xs) (hk : 0 < x'.k) (hg : X.grownBy Y x.v.ownBlock) (hat : x'.v.ownBlock = x.v.ownBlock ∨ x'.v.ownBlock = some X.heap.size) : KM N U lo bb W turn deep seen F (fun j y => (R j y ∧ j ≠ i) ∨ (j = i ∧ y = x')) c V Y := by
  have hlx := h.lox hlo
  obtain ⟨Z, r, fz, f, O, Q, A, hS, hb, hf, hr, hc, hv⟩ := h
  have hx := hr i x hR
  exact KM.put1 hS hb hf hr hc hv hx hk (hS.sep.app i ho (by rw [hx.row]; exact hg) (by rw [hx.row]; exact hat)) (.of_grown hg (fun g e => e)) hlx
theorem KM.write (h : KM N U lo bb W turn deep seen F R c V X) (hlo : lo ≤ W.heap.size) {i g n cap : Nat} {e : TypeId} {k : Nat} {xs : List Value} (hR : R i ⟨e, k, .slice (some ⟨g, 0, none⟩) n cap, n, xs⟩) (j : Nat) (u : Value) : KM N U lo bb W turn deep seen F (fun q y => (R q y ∧ q ≠ i) ∨ (q = i ∧ y = ⟨e, k, .slice (some ⟨g, 0, none⟩) n cap, n, xs.set j u⟩)) c V (X.setCell ⟨g, j, none⟩ u) := by
  have hlx := h.lox hlo
  obtain ⟨Z, r, fz, f, O, Q, A, hS, hb, hf, hr, hc, hv⟩ := h
  have hx := hr i _ hR
  have hs := hS.sep.write i (g := g) (n := n) (cap := cap) (by rw [hx.row]) (by rw [hx.row]) j u
  rw [hx.row] at hs
  refine KM.put1 hS hb hf hr hc hv hx hx.pos hs ((grS_set X g j u).mono (fun b _ e => ?_)) hlx
  rw [e]
  rfl
end
/-- A struct in a block of its own is a row of one. -/
theorem box_row (w : World) (cs : Array Value) (t : TypeId) : (w.alloc (.cells cs t)).ownsRow w.heap.size t cs.size (.slice (some ⟨w.heap.size, 0, none⟩) 1 1) 1 cs.toList := by
  refine ⟨by simp, .inr ⟨w.heap.size, 1, cs, rfl, Nat.le_refl _, heap_alloc_new w _, Nat.le_refl _, by unfold maxLen; omega, by simp, by
    rw [Nat.one_mul, ← Array.length_toList]
    exact List.take_length⟩⟩
end Go.Proofs.YthmjkmdbggfiiaaGreatDoor.KB


/- A list of Points is kept. -/
namespace Go.Proofs.YthmjkmdbggfiiaaGreatDoor.KB
open Go.RowKit
set_option linter.constructorNameAsVariable false
attribute [local go_sem] CF.run_store_float

set_option maxRecDepth 8000 in
set_option maxHeartbeats 4000000 in
theorem keepPoints_walk {W : World} {lo bb : Nat} {Z : Nat → Prop} {r : Nat → Row} {fz : List (Value × Nat × List Value)} {turn d : Int} {f : Nat → Nat → Value} {seen : Nat → Int} {O : List Ot} {Q : List Wt} (hL0 : TkL knPoints 13 W lo bb Z r fz turn d f seen (xsOf O Q [])) (hC : Cnd knPoints r fz O Q [] []) (hfin : Fin r) (hlo : lo ≤ W.heap.size) {i n : Nat} {l : Value} {L : List Value} (hi8 : 192 ≤ i) (hri : r i = ⟨64, 2, l, n, L⟩) (hne : ∀ q ∈ Q, q.i ≠ i) (hgd : knPoints.good n L) (hn : n ≤ 90000) (hO : O.length ≤ 500) (hQ : Q.length ≤ 500) (hd0 : 0 ≤ d) (hd1 : d ≤ 1000) (m : Int) {P : World → Prop}
    (hD : ∀ Y Z' r' fz' f' seen' q, q.i = i → q.v = l → q.n = n → q.L = L → TkL knPoints 13 Y lo bb Z' r' fz' turn (d + 1) f' seen' (xsOf O (Q ++ [q]) []) → Cnd knPoints r' fz' O (Q ++ [q]) [] [] → Below lo W Y → (∀ y ∈ fz, y ∈ fz') → Fx 13 f f' → (∀ j, Out 13 j → r' j = r j) → Calls Tryz.prog 59 #[.pointer (some ⟨bb, 0, none⟩)] Y fun e Y' => e = .returned (.tuple #[]) ∧ P Y') :
    Calls Tryz.prog 21 #[.pointer (some ⟨bb, 0, none⟩), l, .int .i64 m] W fun e Y => e = .returned (.tuple #[]) ∧ P Y := by
  have hio : Out 13 i := out_big (by decide) hi8
  have ho0 := hL0.sep.own i
  rw [hri] at ho0
  simp only at ho0
  obtain ⟨la, lc, rfl⟩ := own_sl ho0
  clear ho0
  have c3 : W.cell? ⟨bb, 3, none⟩ = some (.int .i64 d) := hL0.bk.cell (i := 3) (by decide)
  have f3 := hL0.bk.fz 3
  have hP1 : PS knPoints 13 lo bb W turn (d + 1) seen f (fun _ => False) Z fz r (xsOf O Q []) (W.setCell ⟨bb, 3, none⟩ (.int .i64 (d + 1))) := ⟨r, f, ⟨hL0.kk, hL0.bk.setDeep _, hL0.sep.book 3 _, hL0.sp⟩, fun _ _ => rfl, Fx.refl _ _, (grS_set W bb 3 _).below hlo (fun b e => e ▸ hL0.sep.bl.1), fun _ h => h.elim⟩
  obtain ⟨i9, -, hi9, -, hin⟩ := hfin.free (k := 13) (by decide) i
  have hone : Hid (∀ u ∈ L, u.oneCell' = true) := ⟨hgd.1⟩
  have hxl : Hid (∀ j, (xsOf O Q [] j).length ≤ 5000) := ⟨fun j => by
    match j with
    | 0 => simp [xsOf]; omega
    | 1 => simp [xsOf]; omega
    | 2 => simp [xsOf]; omega
    | 3 => simp [xsOf]; omega
    | 4 => simp [xsOf]
    | 5 => simp [xsOf, intV]; omega
    | 6 => simp [xsOf, intV]; omega
    | j + 7 => simp [xsOf, intV]⟩
  obtain ⟨xs, hxs⟩ : ∃ xs, xsOf O Q [] = xs := ⟨_, rfl⟩
  rw [hxs] at hP1 hxl
  replace hxs := Hid.mk hxs
  replace hC := Hid.mk hC
  replace hD := Hid.mk hD
  replace hne := Hid.mk hne
  replace hgd := Hid.mk hgd
  replace hP1 := Hid.mk hP1
  have hor : Hid (∀ Y xs' Z' fz', PS knPoints 13 lo bb W turn (d + 1) seen f (fun _ => False) Z' fz' r xs' Y → Y.ownsRow lo 64 2 (.slice la n lc) n L) := ⟨fun Y xs' Z' fz' hY => by
    have := hY.own i hio
    rw [hri] at this
    exact this⟩
  replace hri := Hid.mk hri
  clear hL0 hfin
  obtain ⟨iS, hS5, hS0, hS1, hS2⟩ := info_parts infoPointss
  obtain ⟨iI, hI5, hI0, hI1, hI2⟩ := info_parts infoIn
  obtain ⟨iT, hT5, hT0, hT1, hT2⟩ := info_parts infoPoints
  go_enter Tryz.func21, Tryz.ntmps21
  go_upto_region 1 with fail
  clear c3 f3
  generalize W.setCell ⟨bb, 3, none⟩ (.int .i64 (d + 1)) = WA at *
  replace hP1 := hP1.out
  obtain ⟨a2, c2, kk, oo, hl1, nx1⟩ := hP1.push hlo (fun _ h => h.elim) (j := 2) (by decide)
  have k2 : WA.cell? ⟨bb, 123, none⟩ = some (.slice a2 (xs 2).length c2) := kk
  clear kk
  replace nx1 := Hid.mk nx1
  go_wp2_with (at_builtin; refine stopJ ?_)
  unfold StopJ
  refine wpList_app _ rfl _ _ 41 rfl lo 24 iS _ 1 24 Tryz.underlying41 hS5 hS0 hS1 hS2 rfl (by decide) (.slice a2 (xs 2).length c2) (xs 2).length (xs 2) rfl (oo.alloc _) ⟨WA.heap.size, 0, none⟩ 1 1 [.slice la n lc] rfl rfl (cell_one_new WA _ _) (by simp [Value.oneCell']) (by have := hxl.out 2; unfold maxLen; omega) (by have := hxl.out 2; omega) (Nat.le_trans hl1 (by simp)) ?_
  intro v9 w9 ho9 hg9 hat9 _
  obtain ⟨va2, vc2, rfl⟩ := own_sl ho9
  obtain ⟨hP2, y0, y0f⟩ := nx1.out _ _ _ ho9 hg9 hat9
  replace y0 : w9.cell? ⟨bb, 123, none⟩ = some (.slice a2 (xs 2).length c2) := y0
  replace y0f : w9.frozen? ⟨bb, 123, none⟩ = false := y0f
  replace hP2 : PS knPoints 13 lo bb W turn (d + 1) seen f (fun _ => False) Z fz r (updX (xs) 2 (xs 2 ++ [.slice la n lc])) (w9.setCell ⟨bb, 123, none⟩ (.slice va2 ((xs 2).length + 1) vc2)) := hP2
  clear ho9 hg9 hat9 k2 oo nx1 hP1
  replace hP2 := Hid.mk hP2
  go_upto_region 2 with fail
  clear y0 y0f
  generalize w9.setCell ⟨bb, 123, none⟩ (.slice va2 ((xs 2).length + 1) vc2) = WB at *
  replace hP2 := hP2.out
  obtain ⟨a3, c3, kk, hlF, hX1, nx2⟩ := hP2.tell hlo (fun _ h => h.elim) (j := 3) (by decide) hi9 hin
  rw [show (updX xs 2 (xs 2 ++ [.slice la n lc])) 3 = xs 3 from rfl] at kk hX1 nx2
  have k3 : WB.cell? ⟨bb, 124, none⟩ = some (.slice a3 (xs 3).length c3) := kk
  have hX2 : Hid (∀ D, Below WB.heap.size WB D → D.cell? ⟨bb, 124, none⟩ = some (.slice a3 (xs 3).length c3) ∧ D.ownsRow lo 24 1 (.slice a3 (xs 3).length c3) (xs 3).length (xs 3)) := ⟨hX1⟩
  clear kk hX1
  replace nx2 := Hid.mk nx2
  have D5 : Below WB.heap.size WB WB.drew := (Below.refl _ _).drew
  have DA : Below WB.drew.heap.size WB.drew (WB.drew.alloc (.cells #[] 64)) := (Below.refl _ _).alloc (Nat.le_refl _) _
  have m1' : WB.drew.cell? ⟨bb, 124, none⟩ = some (.slice a3 (xs 3).length c3) := k3
  have mA := (hX2.out _ (below_step D5 DA)).1
  have mB : (WB.alloc (.cells #[] 64)).drew.cell? ⟨bb, 124, none⟩ = some (.slice a3 (xs 3).length c3) := mA
  have hoF := hor.out _ _ _ _ hP2
  have hLn : Hid (L.length = n * 2) := ⟨hoF.1⟩
  go_cut [2] from 23 to 34 (fun x wx => x = .int .i64 m ∧ ∃ t Z', PS knPoints 13 lo bb W turn (d + 1) seen f (fun _ => False) Z' ((t, n, L) :: fz) r (updX (updX xs 2 (xs 2 ++ [.slice la n lc])) 3 (xs 3 ++ [t])) wx)
  case first =>
    have hrw := RwZ.of_own hoF
    obtain ⟨-, ⟨e0, n0⟩ | ⟨gb, gc, cur, e0, -⟩⟩ := hoF
    · have h00 : Hid (n = 0) := ⟨n0⟩
      have hL0 : Hid (L = []) := ⟨List.length_eq_zero_iff.1 (by have := hLn.out; rw [n0] at this; simpa using this)⟩
      simp only [Value.slice.injEq] at e0
      obtain ⟨rfl, -, rfl⟩ := e0
      have B8 := below_step D5 DA
      have A8 : Below (WB.drew.alloc (.cells #[] 64)).heap.size (WB.drew.alloc (.cells #[] 64)) ((WB.drew.alloc (.cells #[] 64)).alloc (.cells #[.slice (some ⟨WB.heap.size, 0, none⟩) 0 0] 24)) := (Below.refl _ _).alloc (Nat.le_refl _) _
      have B9 := below_step B8 A8
      have m9 := (hX2.out _ B9).1
      have hoS := (hX2.out _ B9).2
      have hov8 : Hid ((WB.drew.alloc (.cells #[] 64)).ownsRow WB.heap.size 64 2 (.slice (some ⟨WB.heap.size, 0, none⟩) 0 0) n L) := ⟨by rw [hL0.out, h00.out]; exact empty_own WB.drew _ 2⟩
      have m9n : ((WB.alloc (.cells #[] 64)).alloc (.cells #[.slice (some ⟨WB.heap.size, 0, none⟩) 0 0] 24)).drew.cell? ⟨bb, 124, none⟩ = some (.slice a3 (xs 3).length c3) := m9
      have hnw : Hid (∀ j u, [Value.slice (some ⟨WB.heap.size, 0, none⟩) 0 0][j]? = some u → ((WB.alloc (.cells #[] 64)).alloc (.cells #[.slice (some ⟨WB.heap.size, 0, none⟩) 0 0] 24)).drew.cell? ((⟨WB.heap.size + 1, 0, none⟩ : Addr).add j) = some u) := ⟨by
        have e9 : (WB.drew.alloc (.cells #[] 64)).heap.size = WB.heap.size + 1 := by simp
        have h9 := cell_one_new (WB.drew.alloc (.cells #[] 64)) (.slice (some ⟨WB.heap.size, 0, none⟩) 0 0) 24
        rw [e9] at h9
        exact h9⟩
      clear n0 hrw
      go_region_law (first | (refine step_none (P := Tryz.prog) _ rfl _ _ 24 rfl WB.drew.heap.size 64 iT 2 Tryz.underlying24 hT5 _ 0 [] rfl (empty_own WB.drew _ 2) (congrArg (fun n => Value.slice none n 0) h00.out) ?_) | (refine step_app (P := Tryz.prog) _ rfl _ _ 41 rfl lo 24 iS _ 1 24 Tryz.underlying41 hS5 hS0 hS1 hS2 rfl (by decide) (.slice a3 (xs 3).length c3) (xs 3).length (xs 3) rfl hoS ⟨WB.heap.size + 1, 0, none⟩ 1 1 [.slice (some ⟨WB.heap.size, 0, none⟩) 0 0] rfl rfl hnw.out (by simp [Value.oneCell']) (by have := hxl.out 3; unfold maxLen; omega) (by have := hxl.out 3; omega) (Nat.le_trans hlF B9.size) ?_; intro vt wt hot hgt hatt _; obtain ⟨pt, ct, rfl⟩ := own_sl hot; obtain ⟨hPn, y0, y0f⟩ := nx2.out _ _ _ _ _ _ B8 hov8.out hot hgt hatt; replace y0 : wt.cell? ⟨bb, 124, none⟩ = some (.slice a3 (xs 3).length c3) := y0; replace y0f : wt.frozen? ⟨bb, 124, none⟩ = false := y0f; obtain ⟨Zn, -, hPn⟩ := hPn; replace hPn := Hid.mk hPn))
      all_goals (refine Met.intro ?_; go_step; go_meet)
      all_goals exact ⟨rfl, _, _, hPn.out⟩
    · simp only [Value.slice.injEq] at e0
      obtain ⟨rfl, -, rfl⟩ := e0
      obtain ⟨za, zc, ez, hz⟩ := hrw
      have hsrc : Hid (∀ j u, L[j]? = some u → (WB.drew.alloc (.cells #[] 64)).cell? ((⟨gb, 0, none⟩ : Addr).add j) = some u) := ⟨fun j u hu => by
        rw [show ((⟨gb, 0, none⟩ : Addr).add j) = ⟨gb, j, none⟩ by cases j <;> simp [Addr.add]]
        rcases hz with hz | ⟨b, eb, -, hbl, hbc⟩
        · have hl0 := hLn.out
          rw [hz, Nat.zero_mul] at hl0
          rw [List.length_eq_zero_iff.1 hl0] at hu
          simp at hu
        · simp only [Value.slice.injEq] at ez
          obtain ⟨rfl, -, -⟩ := ez
          simp only [Option.some.injEq, Addr.mk.injEq] at eb
          obtain ⟨rfl, -⟩ := eb
          exact ((below_step D5 DA).cell (p := ⟨gb, j, none⟩) hbl).trans (hbc j u hu)⟩
      clear hz ez
      go_region_law (first | (refine step_app (P := Tryz.prog) _ rfl _ _ 24 rfl WB.drew.heap.size 64 iT _ 2 16 Tryz.underlying24 hT5 hT0 hT1 hT2 rfl (by decide) _ 0 [] rfl (empty_own WB.drew _ 2) ⟨gb, 0, none⟩ n _ L rfl hLn.out hsrc.out hone.out (by unfold maxLen; omega) (by omega) DA.size ?_; intro v8 w8 ho8 hg8 _ _; obtain ⟨hov8, hb8⟩ := copied_own ho8 hg8; rw [Nat.zero_add] at ho8; obtain ⟨p8, c8, rfl⟩ := own_sl ho8; have B8 := below_step D5 hb8; have m8 := (hX2.out _ B8).1; have A8 : Below w8.heap.size w8 (w8.alloc (.cells #[.slice p8 n c8] 24)) := (Below.refl _ _).alloc (Nat.le_refl _) _; have B9 := below_step B8 A8; have m9 := (hX2.out _ B9).1; have hoS := (hX2.out _ B9).2; replace hov8 := Hid.mk hov8; clear ho8 hg8) | (refine step_app (P := Tryz.prog) _ rfl _ _ 41 rfl lo 24 iS _ 1 24 Tryz.underlying41 hS5 hS0 hS1 hS2 rfl (by decide) (.slice a3 (xs 3).length c3) (xs 3).length (xs 3) rfl hoS ⟨w8.heap.size, 0, none⟩ 1 1 [.slice p8 n c8] rfl rfl (cell_one_new w8 _ _) (by simp [Value.oneCell']) (by have := hxl.out 3; unfold maxLen; omega) (by have := hxl.out 3; omega) (Nat.le_trans hlF B9.size) ?_; intro vt wt hot hgt hatt _; obtain ⟨pt, ct, rfl⟩ := own_sl hot; obtain ⟨hPn, y0, y0f⟩ := nx2.out _ _ _ _ _ _ B8 hov8.out hot hgt hatt; replace y0 : wt.cell? ⟨bb, 124, none⟩ = some (.slice a3 (xs 3).length c3) := y0; replace y0f : wt.frozen? ⟨bb, 124, none⟩ = false := y0f; obtain ⟨Zn, -, hPn⟩ := hPn; replace hPn := Hid.mk hPn))
      all_goals (refine Met.intro ?_; go_step; go_meet)
      all_goals exact ⟨rfl, _, _, hPn.out⟩
  case rest =>
    obtain ⟨rfl, t, Z2, hP3⟩ := hcut
    clear hP2 nx2 hX2 k3 m1' mA mB hoF D5 DA hlF
    have hct : Hid (∃ ta tc, t = .slice ta n tc) := ⟨by
      obtain ⟨r7, f7, hT7, -⟩ := hP3
      obtain ⟨a7, c7, e7, -⟩ := hT7.sep.fz _ (List.mem_cons_self ..)
      exact ⟨a7, c7, e7⟩⟩
    obtain ⟨a5, c5, kk, oo, hl3, nx3⟩ := hP3.push hlo (fun _ h => h.elim) (j := 5) (by decide)
    rw [show (updX (updX (xs) 2 (xs 2 ++ [.slice la n lc])) 3 (xs 3 ++ [t])) 5 = xs 5 from rfl] at kk oo nx3
    have k5 : wc.cell? ⟨bb, 126, none⟩ = some (.slice a5 (xs 5).length c5) := kk
    clear kk
    replace nx3 := Hid.mk nx3
    go_wp2_with (at_builtin; refine stopJ ?_)
    unfold StopJ
    refine wpList_app _ rfl _ _ 28 rfl lo 3 iI _ 1 8 Tryz.underlying28 hI5 hI0 hI1 hI2 rfl (by decide) (.slice a5 (xs 5).length c5) (xs 5).length (xs 5) rfl (oo.alloc _) ⟨wc.heap.size, 0, none⟩ 1 1 [.int .i64 m] rfl rfl (cell_one_new wc _ _) (by simp [Value.oneCell']) (by have := hxl.out 5; unfold maxLen; omega) (by have := hxl.out 5; omega) (Nat.le_trans hl3 (by simp)) ?_
    intro v9 w9 ho9 hg9 hat9 _
    obtain ⟨va5, vc5, rfl⟩ := own_sl ho9
    obtain ⟨hP4, y0, y0f⟩ := nx3.out _ _ _ ho9 hg9 hat9
    replace y0 : w9.cell? ⟨bb, 126, none⟩ = some (.slice a5 (xs 5).length c5) := y0
    replace y0f : w9.frozen? ⟨bb, 126, none⟩ = false := y0f
    replace hP4 : PS knPoints 13 lo bb W turn (d + 1) seen f (fun _ => False) Z2 ((t, n, L) :: fz) r (updX (updX (updX (xs) 2 (xs 2 ++ [.slice la n lc])) 3 (xs 3 ++ [t])) 5 (xs 5 ++ [.int .i64 m])) (w9.setCell ⟨bb, 126, none⟩ (.slice va5 ((xs 5).length + 1) vc5)) := hP4
    clear ho9 hg9 hat9 k5 oo nx3 hP3
    replace hP4 := Hid.mk hP4
    go_upto_region 4 with fail
    clear y0 y0f
    generalize w9.setCell ⟨bb, 126, none⟩ (.slice va5 ((xs 5).length + 1) vc5) = WD at *
    replace hP4 := hP4.out
    obtain ⟨a6, c6, kk, oo, hl4, nx4⟩ := hP4.push hlo (fun _ h => h.elim) (j := 6) (by decide)
    rw [show (updX (updX (updX (xs) 2 (xs 2 ++ [.slice la n lc])) 3 (xs 3 ++ [t])) 5 (xs 5 ++ [.int .i64 m])) 6 = xs 6 from rfl] at kk oo nx4
    have k6 : WD.cell? ⟨bb, 127, none⟩ = some (.slice a6 (xs 6).length c6) := kk
    clear kk
    replace nx4 := Hid.mk nx4
    obtain ⟨fb, hfb⟩ := hP4.bk
    have kd6 : WD.drew.cell? ⟨bb, 127, none⟩ = some (.slice a6 (xs 6).length c6) := k6
    have ks : WD.cell? ⟨bb, 129, none⟩ = some (.int .i64 (seen 13)) := hfb.cell (i := 129) (by decide)
    have ksd : WD.drew.cell? ⟨bb, 129, none⟩ = some (.int .i64 (seen 13)) := ks
    have hbd : Hid (BkAt WD.drew bb turn (d + 1) fb seen) := ⟨hfb.later (Below.refl _ _).drew⟩
    have hE : Hid (∀ d : Int, (WD.alloc (.cells #[.int .i64 d] 3)).drew.cell? ⟨bb, 127, none⟩ = some (.slice a6 (xs 6).length c6)) := ⟨fun d => by
      have E6 : Below WD.heap.size WD (WD.alloc (.cells #[.int .i64 d] 3)) := (Below.refl _ _).alloc (Nat.le_refl _) _
      exact (E6.cell (p := ⟨bb, 127, none⟩) (World.block_lt_of_cell? _ _ k6)).trans k6⟩
    clear hfb
    go_cut [2] from 45 to 59 (fun x wx => x = .int .i64 m ∧ ∃ dd : Int, PS knPoints 13 lo bb W turn (d + 1) seen f (fun _ => False) Z2 ((t, n, L) :: fz) r (updX (updX (updX (updX (xs) 2 (xs 2 ++ [.slice la n lc])) 3 (xs 3 ++ [t])) 5 (xs 5 ++ [.int .i64 m])) 6 (xs 6 ++ [.int .i64 dd])) wx)
    case first =>
      go_region_law (first | (refine step_app (P := Tryz.prog) _ rfl _ _ 28 rfl lo 3 iI _ 1 8 Tryz.underlying28 hI5 hI0 hI1 hI2 rfl (by decide) (.slice a6 (xs 6).length c6) (xs 6).length (xs 6) rfl (show (WD.alloc (.cells #[.int .i64 dd] 3)).drew.ownsRow lo 3 1 _ _ _ from (oo.alloc _).drew) ⟨WD.heap.size, 0, none⟩ 1 1 [.int .i64 dd] rfl rfl (cell_one_new WD _ _) (by simp [Value.oneCell']) (by have := hxl.out 6; unfold maxLen; omega) (by have := hxl.out 6; omega) (Nat.le_trans hl4 (by simp)) ?_; intro v9 w9 ho9 hg9 hat9 _; obtain ⟨va6, vc6, rfl⟩ := own_sl ho9; obtain ⟨hPn, y0, y0f⟩ := nx4.out _ _ _ ho9 ⟨hg9.os, hg9.tape, hg9.output, hg9.size, hg9.block⟩ hat9; replace y0 : w9.cell? ⟨bb, 127, none⟩ = some (.slice a6 (xs 6).length c6) := y0; replace y0f : w9.frozen? ⟨bb, 127, none⟩ = false := y0f; replace hPn := Hid.mk hPn) | (go_simp; go_at_call 58; refine (due_any hbd.out _).mono ?_; rintro e w8 ⟨dd, rfl, rfl⟩; have ke6 := hE.out dd))
      all_goals (refine Met.intro ?_; go_step; go_meet)
      all_goals exact ⟨rfl, _, hPn.out⟩
    case rest =>
      obtain ⟨rfl, dd, hP5⟩ := hcut
      clear hP4 nx4 oo k6 kd6 ks ksd hbd hE
      obtain ⟨fb, hfb⟩ := hP5.bk
      have ks : wc.cell? ⟨bb, 129, none⟩ = some (.int .i64 (seen 13)) := hfb.cell (i := 129) (by decide)
      have ksf := hfb.fz 129
      have hP6 : PS knPoints 13 lo bb W turn (d + 1) (updS seen 13 (wrap64 (seen 13 + 1))) f (fun _ => False) Z2 ((t, n, L) :: fz) r (updX (updX (updX (updX (xs) 2 (xs 2 ++ [.slice la n lc])) 3 (xs 3 ++ [t])) 5 (xs 5 ++ [.int .i64 m])) 6 (xs 6 ++ [.int .i64 dd])) (wc.setCell ⟨bb, 129, none⟩ (.int .i64 (wrap64 (seen 13 + 1)))) := hP5.counted hlo (fun _ h => h.elim) (wrap64 (seen 13 + 1))
      clear hfb hP5
      replace hP6 := Hid.mk hP6
      go_upto_region 6 with fail
      clear ks ksf
      generalize wc.setCell ⟨bb, 129, none⟩ (.int .i64 (wrap64 (seen 13 + 1))) = WZ at *
      have hfin : Calls Tryz.prog 59 #[.pointer (some ⟨bb, 0, none⟩)] WZ fun e Y' => e = .returned (.tuple #[]) ∧ P Y' := by
        have hx : updX (updX (updX (updX (xs) 2 (xs 2 ++ [.slice la n lc])) 3 (xs 3 ++ [t])) 5 (xs 5 ++ [.int .i64 m])) 6 (xs 6 ++ [.int .i64 dd]) = xsOf O (Q ++ [⟨i, .slice la n lc, t, n, L, m, dd⟩]) [] := by
          rw [← hxs.out]
          exact xs_kept O Q [] ⟨i, .slice la n lc, t, n, L, m, dd⟩
        have hQ6 := hP6.out
        rw [hx] at hQ6
        obtain ⟨r8, f8, hT8, hr8, hx8, hb8, -⟩ := hQ6
        refine hD.out _ _ _ _ _ _ ⟨i, .slice la n lc, t, n, L, m, dd⟩ rfl rfl rfl rfl hT8 ?_ hb8 (fun y hy => List.mem_cons_of_mem _ hy) hx8 hr8
        exact (hC.out.rows (r' := r8) (fun j hj _ => hr8 j (out_big (by decide) hj)) (fun y hy => hy)).new (q := ⟨i, .slice la n lc, t, n, L, m, dd⟩) hi8 ((hr8 i hio).trans hri.out) hne.out (fun y hy => List.mem_cons_of_mem _ hy) (List.mem_cons_self ..) hn hgd.out
      clear hD hP6 hC hor hri hne hxl hxs
      go_wp2_with (go_at_call 59; refine hfin.mono ?_; rintro e w9 ⟨rfl, hp⟩; replace hp := Hid.mk hp)
      go_end0
      exact ⟨rfl, hp.out⟩
end Go.Proofs.YthmjkmdbggfiiaaGreatDoor.KB
