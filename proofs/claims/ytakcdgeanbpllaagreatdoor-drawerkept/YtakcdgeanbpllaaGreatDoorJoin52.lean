import Derived.Test.YtakcdgeanbpllaaGreatDoorJoin51
import Derived.Test.YtakcdgeanbpllaaGreatDoorJoin50
/- world.open, of any world. -/
namespace Go.Proofs.YtakcdgeanbpllaaGreatDoor.DJ
open Go.RowKit
set_option linter.constructorNameAsVariable false

section
variable {lo : Nat} {S S' T : Nat → Prop} {ub db sum : Nat} {d d' : Dk} {s : List Nat} {R : List Rec} {L : Option Rec} {F : Option (List Nat)} {soft : Bool} {wp wp' : Option Nat} {g : Nat} {W X : World}
/-- The drawer's place in the law's world is set. -/
theorem KpD.set1 (h : KpD W lo T ub db wp sum s R L F soft) (hT : ∀ k, T k → k ≠ ub) (wp' : Option Nat) : KpD (W.setCell ⟨ub, 1, none⟩ (.pointer (wp'.map fun b => ⟨b, 0, none⟩))) lo T ub db wp' sum s R L F soft := by
  obtain ⟨sv, rv, lv, fv, hr, h1, h2, h3, h4⟩ := h
  have hg := grS_set W ub 1 (.pointer (wp'.map fun b => ⟨b, 0, none⟩))
  exact ⟨sv, rv, lv, fv, heap_setCell_same _ _ 1 _ _ _ hr, h1.grS hg hT, h2.grS hg hT, h3.grS hg hT, h4.grS hg hT⟩
theorem KpS.shut (h : KpS lo S T ub db sum d s R L F soft wp g W) : KpS lo S T ub db sum d s R L F soft none g (W.setCell ⟨ub, 1, none⟩ (.pointer none)) := by
  have hg := grS_set W ub 1 (.pointer none)
  refine ⟨h.disk.grS hg (fun k hk e => h.nub (e ▸ hk)), h.shp, h.fine, h.lf, h.dat.set1 (fun k hk => (h.TS k hk).2.1) none, fun wb e => (by cases e), h.nub, h.lub, fun k hk => ?_⟩
  obtain ⟨a, b, c, e⟩ := h.TS k hk
  exact ⟨a, b, c, by simpa using e⟩
theorem KpD.cells (h : KpD W lo T ub db wp sum s R L F soft) : W.cell? ⟨ub, 0, none⟩ = some (.pointer (some ⟨db, 0, none⟩)) ∧ W.cell? ⟨ub, 1, none⟩ = some (.pointer (wp.map fun b => ⟨b, 0, none⟩)) ∧ W.cell? ⟨ub, 2, none⟩ = some (.int .u32 (sum : Int)) ∧ W.frozen? ⟨ub, 1, none⟩ = false := by
  obtain ⟨sv, rv, lv, fv, hr, -⟩ := h
  obtain ⟨c0, c1, c2, -⟩ := wd_cells hr
  exact ⟨c0, c1, c2, wd_frozen hr 1⟩
end

set_option maxRecDepth 4000 in
set_option maxHeartbeats 2000000 in
theorem wopen_err {lo db ub sum g : Nat} {S T : Nat → Prop} {d : Dk} {s : List Nat} {R : List Rec} {L : Option Rec} {F : Option (List Nat)} {soft : Bool} {wp : Option Nat} (w : World) (h : KpS lo S T ub db sum d s R L F soft wp g w) (hlo : lo ≤ w.heap.size) (ht : TabL lo w)
    (he : (openD d sum).1 = 190 ∨ (openD d sum).1 = 191 ∨ (openD d sum).1 = 194) (hn : (openD d sum).2.1 = none) (hs : Shp sum s R L F g (openD d sum).2.2.fs) :
    Calls Tryz.prog 9 #[.pointer (some ⟨ub, 0, none⟩)] w fun e w' => e = .returned (.bool true) ∧ ∃ S', KpS lo S' T ub db sum (openD d sum).2.2 s R L F soft none g w' ∧ Below lo w w' := by
  have hO := open_any sum h.fine.good.sum h.Rlen.2 w.drew (Nat.le_trans hlo (Nat.le_refl _)) (ht.next ((Below.refl _ _).drew)) (h.disk.later ((Below.refl _ _).drew))
  obtain ⟨r, hr⟩ : ∃ r, openD d sum = r := ⟨_, rfl⟩
  have hOp : Hid (∀ e X, OpP lo db S d sum w.drew e X → e = .returned (.tuple #[.pointer none, .slice none 0 0, .slice none 0 0, .int .i64 (r.1 : Nat)]) ∧ ∃ S', KpS lo S' T ub db sum r.2.2 s R L F soft none g (X.setCell ⟨ub, 1, none⟩ (.pointer none)) ∧ Below lo w (X.setCell ⟨ub, 1, none⟩ (.pointer none)) ∧ X.cell? ⟨ub, 0, none⟩ = some (.pointer (some ⟨db, 0, none⟩)) ∧ X.cell? ⟨ub, 2, none⟩ = some (.int .u32 (sum : Int)) ∧ X.frozen? ⟨ub, 1, none⟩ = false ∧ X.cell? ⟨ub, 1, none⟩ = some (.pointer (wp.map fun b => ⟨b, 0, none⟩))) := ⟨fun e X hX => by
    obtain ⟨S', h1, h2, h3⟩ := hX
    rw [hn] at h3
    rw [hr] at h1 h3 hs
    have hv : Dv S w S' X := ⟨⟨h2.gr.os, h2.gr.tape, h2.gr.output, h2.gr.size, h2.gr.block⟩, h2.sub⟩
    have hdat := h.dat.grS hv.gr (fun k hk => (h.TS k hk).1) h.nub
    have hS' : ∀ k, k < w.heap.size → ¬ S k → ¬ S' k := fun k hk hn e => by
      rcases hv.sub _ e with e | e
      · exact hn e
      · omega
    have hK : KpS lo S' T ub db sum r.2.2 s R L F soft none g (X.setCell ⟨ub, 1, none⟩ (.pointer none)) := by
      have hg := grS_set X ub 1 (.pointer none)
      have hu := hS' _ h.ult h.nub
      refine ⟨h1.grS hg (fun k hk e => hu (e ▸ hk)), hs, h.fine, h.lf, hdat.set1 (fun k hk => (h.TS k hk).2.1) none, fun wb e => (by cases e), hu, h.lub, fun k hk => ?_⟩
      obtain ⟨a, b, c, e⟩ := h.TS k hk
      exact ⟨hS' k e a, b, c, by simpa using Nat.lt_of_lt_of_le e hv.gr.size⟩
    obtain ⟨c0, c1, c2, f1⟩ := hdat.cells
    exact ⟨h3.1, S', hK, (hv.below' hlo h.disk.low).trans ((grS_set X ub 1 _).below (Nat.le_trans hlo hv.gr.size) (fun k e => e ▸ h.lub)), c0, c2, f1, c1⟩⟩
  rw [hr] at he ⊢
  obtain ⟨q0, q1, q2, -⟩ := h.dat.cells
  have S0 : w.drew.cell? ⟨ub, 0, none⟩ = some (.pointer (some ⟨db, 0, none⟩)) ∧ w.drew.cell? ⟨ub, 2, none⟩ = some (.int .u32 (sum : Int)) := ⟨q0, q2⟩
  have hnil : ∀ (W : World), (binOp BinOp.eql 28 (.pointer none) (.pointer none)).run Tryz.prog W = .ok (.bool true) W := fun _ => rfl
  generalize r.1 = e0 at *
  clear hr hn hs h
  rcases he with rfl | rfl | rfl
  all_goals
    go_enter Tryz.func9, Tryz.ntmps9
    go_wp2_with fail
    go_region_held3 (fun X => X.cell? ⟨ub, 0, none⟩ = some (.pointer (some ⟨db, 0, none⟩)) ∧ X.cell? ⟨ub, 2, none⟩ = some (.int .u32 (sum : Int))) (with_reducible assumption) ((go_at_call 24; refine hO.mono ?_; intro e w1 hm1; obtain ⟨rfl, S1, hK, hb, x0, x2, f1, x1⟩ := hOp.out _ _ hm1; clear hm1; have S1' := And.intro x0 x2))
    replace hK := Hid.mk hK
    go_wp2
    go_ret
    exact ⟨rfl, S1, hK.out, hb⟩
end Go.Proofs.YtakcdgeanbpllaaGreatDoor.DJ


/- world.other: another machine over a copy of the files. -/
namespace Go.Proofs.YtakcdgeanbpllaaGreatDoor.DJ
open Go.RowKit
set_option linter.constructorNameAsVariable false

theorem ins_last {fs : List Fl} {f : Fl} (h : ∀ x ∈ fs, ltB x.nm f.nm = true) : ins fs f = fs ++ [f] := by
  unfold ins
  have h1 : fs.takeWhile (fun x => ltB x.nm f.nm) = fs := by
    induction fs with
    | nil => rfl
    | cons x l ih =>
      simp only [List.takeWhile_cons, h x (List.mem_cons_self ..), if_true, ih (fun y hy => h y (List.mem_cons_of_mem _ hy))]
  have h2 : fs.dropWhile (fun x => ltB x.nm f.nm) = [] := by
    clear h1
    induction fs with
    | nil => rfl
    | cons x l ih =>
      simp only [List.dropWhile_cons, h x (List.mem_cons_self ..), if_true, ih (fun y hy => h y (List.mem_cons_of_mem _ hy))]
  rw [h1, h2]
theorem insAll_take {fs : List Fl} (h : Srt fs) : ∀ i, i ≤ fs.length → insAll (fs.take i) = fs.take i := by
  intro i
  induction i with
  | zero => intro _; rfl
  | succ i ih =>
    intro hi
    rw [List.take_succ_eq_append_getElem (by omega), insAll_snoc, ih (by omega), ins_last]
    intro x hx
    obtain ⟨j, hj, rfl⟩ := List.getElem_of_mem hx
    rw [List.length_take] at hj
    rw [List.getElem_take]
    exact List.pairwise_iff_getElem.1 h j i (by omega) (by omega) (by omega)
theorem insAll_srt {fs : List Fl} (h : Srt fs) : insAll fs = fs := by
  have := insAll_take h fs.length (Nat.le_refl _)
  rwa [List.take_length] at this
theorem shp_names {sum : Nat} {s : List Nat} {R : List Rec} {L : Option Rec} {F : Option (List Nat)} {g : Nat} {fs : List Fl} (hf : Fine sum s R L F g) (hs : Shp sum s R L F g fs) : ∀ f ∈ fs, ∃ k, k ≤ 99999999 ∧ f.nm = Nm k := by
  cases hs with
  | base => exact fun f hfm => ⟨g, hf.top, by rw [List.mem_singleton.1 hfm]; rfl⟩
  | late hL hn h1 h2 => exact fun f hfm => ⟨g, hf.top, by rw [List.mem_singleton.1 hfm]; rfl⟩
  | foldA hF hn h1 =>
      intro f hfm
      rcases List.mem_cons.1 hfm with e | e
      · exact ⟨g, hf.top, by rw [e]; rfl⟩
      · exact ⟨g + 1, (hf.F _ hF).2, by rw [List.mem_singleton.1 e]; rfl⟩
  | foldB hF hn h1 =>
      intro f hfm
      rcases List.mem_cons.1 hfm with e | e
      · exact ⟨g + 1, (hf.F _ hF).2, by rw [e]; rfl⟩
      · exact ⟨g, hf.top, by rw [List.mem_singleton.1 e]; rfl⟩
  | none h1 h2 h3 => exact fun f hfm => (by simp at hfm)
  | fresh h1 h2 h3 h4 h5 => exact fun f hfm => ⟨1, by decide, by rw [List.mem_singleton.1 hfm]; rfl⟩
theorem KpAt.later {W W' : World} {a : Option Addr} {ks : List Int} (h : KpAt W a ks) (hb : Below W.heap.size W W') : KpAt W' a ks := h.grS (S := fun _ => False) (.of_below hb) (fun _ _ h => h)

set_option maxRecDepth 4000 in
set_option maxHeartbeats 2000000 in
theorem other_any {lo db ub sum g : Nat} {S T : Nat → Prop} {d : Dk} {s : List Nat} {R : List Rec} {L : Option Rec} {F : Option (List Nat)} {soft : Bool} {wp : Option Nat} (ks : List Int) (hkl : ks.length ≤ 4611686018427387904) (ka : Option Addr) (kc : Nat) (w : World) (h : KpS lo S T ub db sum d s R L F soft wp g w) (hlo : lo ≤ w.heap.size) (ht : TabL lo w) (hK : KpAt w ka ks) (hkb : ks = [] ∨ ∀ p, ka = some p → p.block < w.heap.size) :
    Calls Tryz.prog 18 #[.pointer (some ⟨ub, 0, none⟩), .slice ka ks.length kc] w fun e w' => e = .returned (.bool true) ∧ Below w.heap.size w w' := by
  have hok : Ok d := by
    obtain ⟨mb, D, fb, vv, h⟩ := h.disk
    exact h.ok
  have hF := files_any w h.disk
  have hfit : ∀ f ∈ d.fs, Fit f := fun f hf => ⟨hok.nmd f hf, hok.siz f hf, hok.sur f hf, hok.byt f hf⟩
  have hdist : ∀ i j (hi : i < d.fs.length) (hj : j < d.fs.length), i ≠ j → d.fs[i].nm ≠ d.fs[j].nm := fun i j hi hj hne => by
    have hp := List.pairwise_iff_getElem.1 hok.srt
    rcases Nat.lt_or_gt_of_ne hne with h' | h'
    · exact ltB_ne (hp i j hi hj h')
    · exact (ltB_ne (hp j i hj hi h')).symm
  have hN := Hid.mk (fun a c X hX => newDisk_ok d.fs hfit hdist hok.len a c X hX)
  rw [insAll_srt hok.srt] at hN
  have hul := h.ult
  obtain ⟨q0, -, q2, -⟩ := h.dat.cells
  have hKc := Hid.mk (fun X (hX : Below w.heap.size w X) => And.intro ((hX.cell (p := ⟨ub, 0, none⟩) hul).trans q0) ((hX.cell (p := ⟨ub, 2, none⟩) hul).trans q2))
  have hsum := h.fine.good.sum
  have hR9 : R.length ≤ 1000000000 := by have := h.Rlen.1; omega
  have hshp : Shp sum s R L F g (restart ⟨d.fs, false, none, 0, 0⟩ ks).fs := cuts_kept h.shp ks 0
  obtain ⟨hop, hcalm⟩ := open_kept h.fine hshp
  have h0 := (hcalm (calm_restart _ _)).1
  obtain ⟨g', s', R', hn, hm, -, -⟩ : ∃ g' s' R', (openD (restart ⟨d.fs, false, none, 0, 0⟩ ks) sum).2.1 = some (g', s', R') ∧ May s R L F s' R' ∧ (g' = g ∨ (g' = g + 1 ∧ F.isSome)) ∧ Base sum s' R' g' (openD (restart ⟨d.fs, false, none, 0, 0⟩ ks) sum).2.2.fs := by
    rcases hop with ⟨-, hx⟩ | ⟨hx, -⟩
    · exact hx
    · omega
  have hsb : ∀ x ∈ s', x < 256 := by
    obtain ⟨sv, rv, lv, fv, hrow, h1, h2, h3, h4⟩ := h.dat
    rcases hm with ⟨rfl, -⟩ | ⟨rfl, -⟩
    · exact h1.1
    · obtain ⟨g, x, -, -, -, h5⟩ := h4
      exact h5.1
  have hnames := shp_names h.fine hshp
  have hOp := Hid.mk (fun (W1 X : World) (S2 : Nat → Prop) (db2 : Nat) (h1 : W1.heap.size ≤ X.heap.size) (ht1 : TabL W1.heap.size X) (hD : DiskAt X W1.heap.size S2 db2 (restart ⟨d.fs, false, none, 0, 0⟩ ks)) => open_any sum hsum hnames X h1 ht1 hD)
  have hOq : Hid (∀ (W1 X : World) S2 db2 e Y, OpP W1.heap.size db2 S2 (restart ⟨d.fs, false, none, 0, 0⟩ ks) sum X e Y → (∀ k, S2 k → W1.heap.size ≤ k ∧ k < X.heap.size) → W1.heap.size ≤ X.heap.size → ∃ wb sa sc ra rc, e = .returned (.tuple #[.pointer (some ⟨wb, 0, none⟩), .slice sa s'.length sc, .slice ra R'.length rc, .int .i64 0]) ∧ Below W1.heap.size X Y ∧ Byts Y sa s' ∧ RcAt Y ra R' ∧ R'.length ≤ rc) := ⟨fun W1 X S2 db2 e Y hY hS2 hz => by
    obtain ⟨S', h1, h2, h3⟩ := hY
    rw [hn] at h3
    obtain ⟨wb, sa, sc, ra, rc, rfl, -, h4, h5, h6, h7, h8⟩ := h3
    obtain ⟨a9, c9, e9, -, h9, -⟩ := h8.len
    have : rc = c9 := by injection e9
    exact ⟨wb, sa, sc, ra, rc, rfl, h2.below' hz hS2, byts_of_own (n := s'.length) hsb h7, h8.at_, by omega⟩⟩
  have hMy := Hid.mk (fun (Y : World) (hY : Below w.heap.size w Y) sa ra sc rc hs hr hk => may_any (s' := s') (R' := R') (h.dat.grS (U := fun _ => False) (.of_below hY) (fun _ _ h => h) (fun h => h)) hR9 h.lf hm sa ra sc rc hs hr hk)
  have hRs := Hid.mk (fun (W1 X : World) (S2 : Nat → Prop) (db2 : Nat) (h1 : W1.heap.size ≤ X.heap.size) (hX : Below w.heap.size w X) (hz : w.heap.size ≤ W1.heap.size) (hD : DiskAt X W1.heap.size S2 db2 ⟨d.fs, false, none, 0, 0⟩) => restart_any2 ks hkl ka kc X h1 (hK.later hX) (hkb.imp id (fun hkb p hp e => by have := hkb p hp; have := (hD.low _ e).1; omega)) hD)
  have hn1 : ∀ (b : Nat) (W : World), (binOp BinOp.eql 27 (.pointer (some ⟨b, 0, none⟩)) (.pointer none)).run Tryz.prog W = .ok (.bool false) W := fun _ _ => rfl
  have hn2 : ∀ (b : Nat) (W : World), (binOp BinOp.neq 28 (.pointer (some ⟨b, 0, none⟩)) (.pointer none)).run Tryz.prog W = .ok (.bool true) W := fun _ _ => rfl
  replace hF := Hid.mk hF
  have ht' := Hid.mk ht
  clear hfit hdist hop hcalm h0 hn hm hshp hnames hsb hok h ht hK hkb
  go_enter Tryz.func18, Tryz.ntmps18
  go_wp2_with (first | (go_at_call 14; refine hF.out.mono ?_; rintro e w1 ⟨fa, fc, rfl, hF1, hb1⟩) | (go_at_call 26; refine (hN.out fa fc w1 hF1.at_).mono ?_; rintro e w2 ⟨S2, db2, rfl, hD2, hb2⟩; have hb12 := below_step hb1 hb2; have c2 := hKc.out _ hb12) | (go_at_call 19; refine (hRs.out w1 w2 S2 db2 hb2.size hb12 hb1.size hD2).mono ?_; rintro e w3 ⟨rfl, S3, hD3, hv3⟩; have hb3 : Below w1.heap.size w1 w3 := hb2.trans (hv3.below' hb2.size hD2.low); have hb13 := below_step hb1 hb3; have c3 := hKc.out _ hb13; obtain ⟨c30, c32⟩ := c3) | (go_at_call 24; refine (hOp.out w1 w3 S3 db2 hb3.size ((((ht'.out.next (hb1.mono hlo)).mono (Nat.le_trans hlo hb1.size))).next hb3) hD3).mono ?_; intro e w4 hm4; obtain ⟨wb, sa, sc, ra, rc, rfl, hb4, hs4, hr4, hk4⟩ := hOq.out _ _ _ _ _ _ hm4 hD3.low hb3.size; clear hm4; have hb14 : Below w.heap.size w w4 := below_step hb1 (hb3.trans hb4)) | (go_at_call 27; refine (hMy.out w4 hb14 sa ra sc rc hs4 hr4 hk4).mono ?_; rintro e w5 ⟨rfl, m5, rfl⟩))
  go_ret
  exact ⟨rfl, below_drewN hb14 m5⟩
end Go.Proofs.YtakcdgeanbpllaaGreatDoor.DJ


/- world.open, of a journal that opens. -/
namespace Go.Proofs.YtakcdgeanbpllaaGreatDoor.DJ
open Go.RowKit
set_option linter.constructorNameAsVariable false

theorem RcO.x {W : World} {lo : Nat} {v : Value} {R : List Rec} (h : RcO W lo v R) : RcX W lo (fun k => lo ≤ k ∧ k < W.heap.size) v R := by
  obtain ⟨L, h1, h2, h3⟩ := h
  exact ⟨L, h1, h2, fun g e => own_ltT h2 e, fun x hx => ⟨h3 x hx, fun g e => own_ltT (h3 x hx).own e⟩⟩

theorem RcX.item {w : World} {base : Nat} {T : Nat → Prop} {a : Option Addr} {n c : Nat} {R : List Rec} (h : RcX w base T (.slice a n c) R) {i : Nat} (hi : i < R.length) : ∃ b p c', a = some ⟨b, 0, none⟩ ∧ w.cell? ⟨b, i * 2, none⟩ = some (.int .u8 (R[i].1 : Int)) ∧ w.cell? ⟨b, i * 2 + 1, none⟩ = some (.slice p R[i].2.length c') ∧ (p = none → c' = 0) ∧ Byts w p R[i].2 ∧ R[i].1 < 256 := by
  obtain ⟨L, rfl, h2, -, h3⟩ := h
  have h0 := h2
  rw [List.length_map] at hi
  obtain ⟨q1, ⟨e, hn⟩ | ⟨g, cap, cur, e, hb, r, -⟩⟩ := h0
  · rw [List.length_map] at hn
    omega
  · injection e with e1 e2 e3
    subst e1
    rw [e2] at h2
    obtain ⟨g1, g2⟩ := rcV_get L i hi
    have hl : (rcV L).length = (L.map Prod.fst).length * 2 := h2.1
    rw [List.length_map] at hl
    have hx := (h3 L[i] (List.getElem_mem hi)).1
    obtain ⟨p, cc, hp⟩ := own_lenB hx.own
    have k1 := h2.cellAt (i * 2) (by rw [List.length_map]; omega)
    have k2 := h2.cellAt (i * 2 + 1) (by rw [List.length_map]; omega)
    have ho := hx.own
    rw [hp] at ho
    rw [List.getElem_map]
    refine ⟨g, p, cc, rfl, k1.trans g1, ?_, own_none ho, byts_of_own (n := L[i].1.2.length) hx.byt ho, hx.kd⟩
    rw [← hp]
    exact k2.trans g2

/-- One round of the telling: what the region meets. -/
theorem KpG.J {lo : Nat} {S T : Nat → Prop} {ub db wb sum : Nat} {d : Dk} {s : List Nat} {R : List Rec} {g n : Nat} {lv fv : Value} {soft : Bool} {W : World} (h : KpG lo S T ub db wb sum d s R g n lv fv soft W) : ∃ sv ra rc L, L.map Prod.fst = R ∧ (∀ g, (Value.slice ra R.length rc).ownBlock = some g → T g) ∧ ∀ X, Below W.heap.size W X → KpG lo S T ub db wb sum d s R g n lv fv soft X ∧ X.heap[ub]? = some (wdRow db (some ⟨wb, 0, none⟩) sum sv (.slice ra R.length rc) lv fv soft) ∧ X.ownsRow lo 38 2 (.slice ra R.length rc) R.length (rcV L) ∧ BytX X lo T sv s ∧ ∀ x ∈ L, RcB X lo x ∧ ∀ g, x.2.ownBlock = some g → T g := by
  obtain ⟨sv, rv, hr, hs, L, hL, ho, hvT, hx⟩ := h.row
  obtain ⟨ra, rc, rfl⟩ := own_lenB ho
  refine ⟨sv, ra, rc, L, hL, hvT, fun X hX => ⟨h.later hX, (hX.block _ (wd_lt hr)).trans hr, own_later ho hX, hs.grS (U := fun _ => False) (.of_below hX) (fun _ _ h => h), fun x hxm => ⟨RcB.grS (S := fun _ => False) (hx x hxm).1 (.of_below hX) (fun _ _ _ _ h => h), (hx x hxm).2⟩⟩⟩

set_option maxRecDepth 4000 in
set_option maxHeartbeats 2000000 in
theorem wopen_ok {lo db ub sum g g' : Nat} {S T : Nat → Prop} {d : Dk} {s s' : List Nat} {R R' : List Rec} {L : Option Rec} {F : Option (List Nat)} {soft : Bool} {wp : Option Nat} (w : World) (h : KpS lo S T ub db sum d s R L F soft wp g w) (hlo : lo ≤ w.heap.size) (ht : TabL lo w)
    (hn : (openD d sum).2.1 = some (g', s', R')) (hm : May s R L F s' R') (hB : Base sum s' R' g' (openD d sum).2.2.fs) :
    Calls Tryz.prog 9 #[.pointer (some ⟨ub, 0, none⟩)] w fun e w' => e = .returned (.bool true) ∧ ∃ S' T' wb, KpS lo S' T' ub db sum (openD d sum).2.2 s' R' none none false (some wb) g' w' ∧ Below lo w w' := by
  have hO := open_any sum h.fine.good.sum h.Rlen.2 w.drew (Nat.le_trans hlo (Nat.le_refl _)) (ht.next ((Below.refl _ _).drew)) (h.disk.later ((Below.refl _ _).drew))
  obtain ⟨r, hr⟩ : ∃ r, openD d sum = r := ⟨_, rfl⟩
  have hul := h.ult
  have hsl : s'.length ≤ 1048576 := hB.2.1.s
  have hRl2 : R'.length ≤ 2097152 + 1 := by
    have := h.Rlen.1
    rcases hm with ⟨-, rfl | ⟨x, -, rfl⟩⟩ | ⟨-, rfl⟩
    · omega
    · simp; omega
    · simp
  have hOp : Hid (∀ e X, OpP lo db S d sum w.drew e X → ∃ S' wb sa sc ra rc, e = .returned (.tuple #[.pointer (some ⟨wb, 0, none⟩), .slice sa s'.length sc, .slice ra R'.length rc, .int .i64 0]) ∧ DiskAt X lo S' db r.2.2 ∧ Dv S w S' X ∧ w.heap.size ≤ wb ∧ DwAt X wb db sum g' R'.length false ∧ ¬ S' wb ∧ (sa = none → sc = 0) ∧ X.ownsRow w.heap.size 5 1 (.slice sa s'.length sc) s'.length (bysV s') ∧ RcO X w.heap.size (.slice ra R'.length rc) R' ∧ R'.length ≤ rc) := ⟨fun e X hX => by
    obtain ⟨S', h1, h2, h3⟩ := hX
    rw [hn] at h3
    obtain ⟨wb, sa, sc, ra, rc, rfl, -, h4, h5, h6, h7, h8⟩ := h3
    rw [hr] at h1
    obtain ⟨a9, c9, e9, -, h9, -⟩ := h8.len
    have : rc = c9 := by injection e9
    exact ⟨S', wb, sa, sc, ra, rc, rfl, h1, ⟨⟨h2.gr.os, h2.gr.tape, h2.gr.output, h2.gr.size, h2.gr.block⟩, h2.sub⟩, h4, h5, h6, own_none h7, h7, h8, by omega⟩⟩
  have hsb : ∀ x ∈ s', x < 256 := by
    obtain ⟨sv, rv, lv, fv, hrow, h1, h2, h3, h4⟩ := h.dat
    rcases hm with ⟨rfl, -⟩ | ⟨rfl, -⟩
    · exact h1.1
    · obtain ⟨g, x, -, -, -, h5⟩ := h4
      exact h5.1
  rw [hr] at hB ⊢
  obtain ⟨q0, q1, q2, -⟩ := h.dat.cells
  have S0 : w.drew.cell? ⟨ub, 0, none⟩ = some (.pointer (some ⟨db, 0, none⟩)) ∧ w.drew.cell? ⟨ub, 2, none⟩ = some (.int .u32 (sum : Int)) := ⟨q0, q2⟩
  have hnil : ∀ (b : Nat) (W : World), (binOp BinOp.eql 28 (.pointer (some ⟨b, 0, none⟩)) (.pointer none)).run Tryz.prog W = .ok (.bool false) W := fun _ _ => rfl
  have hK0 := Hid.mk h
  replace hB := Hid.mk hB
  replace hm := Hid.mk hm
  have hSl := h.disk.low
  have hub := h.nub
  have hlu := h.lub
  have hTu : Hid (∀ k, T k → k ≠ ub) := ⟨fun k hk => (h.TS k hk).2.1⟩
  clear hn h
  go_enter Tryz.func9, Tryz.ntmps9
  go_wp2_with fail
  go_region_held3 (fun X => X.cell? ⟨ub, 0, none⟩ = some (.pointer (some ⟨db, 0, none⟩)) ∧ X.cell? ⟨ub, 2, none⟩ = some (.int .u32 (sum : Int))) (with_reducible assumption) ((go_at_call 24; refine hO.mono ?_; intro e w1 hm1; obtain ⟨S1, wb, sa, sc, ra, rc, rfl, hD1, hv1, hwb, hw1, hnS, hsc, hos, hrs, hrc⟩ := hOp.out _ _ hm1; clear hm1; have hd1 := Hid.mk (hK0.out.dat.grS hv1.gr (fun k hk => (hK0.out.TS k hk).1) hub); obtain ⟨x0, x1, x2, f1⟩ := hd1.out.cells; have S1' := And.intro x0 x2))
  have hne : wb ≠ ub := by omega
  have hwX : DwAt (w1.setCell ⟨ub, 1, none⟩ (.pointer (some ⟨wb, 0, none⟩))) wb db sum g' R'.length false := hw1.grS (grS_set w1 ub 1 _) hne
  have hdX : KpD (w1.setCell ⟨ub, 1, none⟩ (.pointer (some ⟨wb, 0, none⟩))) lo T ub db (some wb) sum s R L F soft := hd1.out.set1 hTu.out (some wb)
  have hnu : ¬ S1 ub := fun e => by
    rcases hv1.sub _ e with e | e
    · exact hub e
    · omega
  have hDX := hD1.grS (grS_set w1 ub 1 (.pointer (some ⟨wb, 0, none⟩))) (fun k hk e => hnu (e ▸ hk))
  have hBX : Below lo w (w1.setCell ⟨ub, 1, none⟩ (.pointer (some ⟨wb, 0, none⟩))) := (hv1.below' hlo hSl).trans ((grS_set w1 ub 1 _).below (Nat.le_trans hlo hv1.gr.size) (fun k e => e ▸ hlu))
  have hszX : (w1.setCell ⟨ub, 1, none⟩ (.pointer (some ⟨wb, 0, none⟩))).heap.size = w1.heap.size := by simp
  have hosX := (grS_set w1 ub 1 (.pointer (some ⟨wb, 0, none⟩))).own hos (fun k hk e => by have := (own_rowT hos hk).1; omega)
  have hrsX := (hrs.x).grS (grS_set w1 ub 1 (.pointer (some ⟨wb, 0, none⟩))) (fun k hk e => by omega)
  rw [← hszX] at hrsX
  have hS1 : ∀ k, S1 k → k < w1.heap.size := fun k hk => (hD1.low k hk).2
  rw [← hszX] at hS1
  have hwl : wb < w1.heap.size := hw1.lt
  have hwz := hv1.gr.size
  rw [← hszX] at hwl hwz
  go_upto_region 5 with fail
  obtain ⟨X1, hX1⟩ : ∃ X1, w1.setCell ⟨ub, 1, none⟩ (.pointer (some ⟨wb, 0, none⟩)) = X1 := ⟨_, rfl⟩
  rw [hX1] at hwX hDX hBX hszX hdX hosX hrsX hS1 hwl hwz ⊢
  have hBy := byts_of_own (n := s'.length) hsb hosX
  have hM := may_any hdX (by have := hK0.out.Rlen.1; omega) hK0.out.lf hm.out sa ra sc rc hBy hrsX.rc.at_ hrc
  have hLn := fun m => len_any (X1.drewN m) (hwX.later (below_drewN (Below.refl _ _) m))
  clear hX1 hw1 hD1 hv1 x0 x1 x2 f1 S1' q0 q1 q2 S0 hO hOp hd1 hos hrs hszX
  replace hLn := Hid.mk hLn
  replace hM := Hid.mk hM
  go_wp2_with (first | (go_at_call 27; refine hM.out.mono ?_; rintro e w2 ⟨rfl, m2, rfl⟩) | (go_at_call 28; refine (hLn.out m2).mono ?_; rintro e w3 ⟨rfl, rfl⟩) | (at_builtin; refine stopJ ?_))
  unfold StopJ
  have bD : Below X1.heap.size X1 (X1.drewN m2) := below_drewN (Below.refl X1.heap.size X1) m2
  have hdD := hdX.grS (U := fun _ => False) (.of_below bD) (fun _ _ h => h) (fun h => h)
  have hwD := hwX.later bD
  have hDD := hDX.later bD
  have hBD : Below lo w (X1.drewN m2) := below_drewN hBX m2
  have hByD := hBy.later bD
  have hrD := hrsX.grS (U := fun _ => False) (.of_below bD) (fun _ _ h => h)
  have hszD : (X1.drewN m2).heap.size = X1.heap.size := by rw [World.heap_drewN]
  rw [← hszD] at hrD hS1 hwl hwz
  clear hwX hDX hBX hLn hM hdX hrsX hBy hosX bD
  generalize X1.drewN m2 = X2 at *
  clear hszD
  refine wpList_copyN X2 rfl _ _ rfl X2.heap.size (Nat.le_refl _) (.slice none 0 0) rfl (World.ownsRow_nil _ _ _ _) sa sc s' rfl hsc hByD (by omega) ?_
  intro a5 c5 w5 ho5 hB5 hb5
  have hlo2 : lo ≤ X2.heap.size := Nat.le_trans hlo hBD.size
  obtain ⟨sv, rv, lv, fv, hrowD, -⟩ := hdD
  have hr5 := (hb5.block _ (wd_lt hrowD)).trans hrowD
  have hul2 := wd_lt hrowD
  obtain ⟨y0, y1, y2, y3, y4, y5, y6, y7⟩ := wd_cells hr5
  have g3 := wd_frozen hr5 3
  have g4 := wd_frozen hr5 4
  have G6 : GrS (fun k => k = ub) w5 ((w5.setCell ⟨ub, 3, none⟩ (.slice a5 s'.length c5)).setCell ⟨ub, 4, none⟩ (.slice none 0 0)) := (grS_set w5 ub 3 _).trans (grS_set _ ub 4 _)
  have hr6 : ((w5.setCell ⟨ub, 3, none⟩ (.slice a5 s'.length c5)).setCell ⟨ub, 4, none⟩ (.slice none 0 0)).heap[ub]? = some (wdRow db (some ⟨wb, 0, none⟩) sum (.slice a5 s'.length c5) (.slice none 0 0) lv fv soft) := heap_setCell_same _ _ 4 _ _ _ (heap_setCell_same _ _ 3 _ _ _ hr5)
  have hP6 : KpG lo S1 (fun k => (Value.slice a5 s'.length c5).ownBlock = some k) ub db wb sum r.2.2 s' (R'.take 0) g' R'.length lv fv soft ((w5.setCell ⟨ub, 3, none⟩ (.slice a5 s'.length c5)).setCell ⟨ub, 4, none⟩ (.slice none 0 0)) := by
    refine ⟨(hDD.later hb5).grS G6 (fun k hk e => hnu (e ▸ hk)), (hwD.later hb5).grS G6 hne, ⟨_, _, hr6, ⟨hsb, G6.own (ho5.mono hlo2) (fun k hk e => ?_), fun k hk => hk⟩, RcX.nil _ _ _⟩, hnS, hnu, hne, by omega, hlu, fun k hk => ?_⟩
    · have := (own_rowT ho5 hk).1
      omega
    · obtain ⟨z1, z2⟩ := own_ltT ho5 hk
      refine ⟨fun e => ?_, by omega, by omega, by omega, ?_⟩
      · have := hS1 k e
        omega
      · exact Nat.lt_of_lt_of_le z2 G6.size
  have hr6' : RcX ((w5.setCell ⟨ub, 3, none⟩ (.slice a5 s'.length c5)).setCell ⟨ub, 4, none⟩ (.slice none 0 0)) w.heap.size (fun k => w.heap.size ≤ k ∧ k < X2.heap.size) (.slice ra R'.length rc) R' := (hrD.grS (U := fun _ => False) (.of_below hb5) (fun _ _ h => h)).grS G6 (fun k hk e => by omega)
  have hB6 : Below lo w ((w5.setCell ⟨ub, 3, none⟩ (.slice a5 s'.length c5)).setCell ⟨ub, 4, none⟩ (.slice none 0 0)) := (hBD.trans (hb5.mono hlo2)).trans (G6.below (Nat.le_trans hlo2 hb5.size) (fun k e => e ▸ hlu))
  have hI : Hid (∃ T', KpG lo S1 T' ub db wb sum r.2.2 s' (R'.take 0) g' R'.length lv fv soft ((w5.setCell ⟨ub, 3, none⟩ (.slice a5 s'.length c5)).setCell ⟨ub, 4, none⟩ (.slice none 0 0)) ∧ (∀ k, T' k → X2.heap.size ≤ k) ∧ X2.heap.size ≤ ((w5.setCell ⟨ub, 3, none⟩ (.slice a5 s'.length c5)).setCell ⟨ub, 4, none⟩ (.slice none 0 0)).heap.size ∧ RcX ((w5.setCell ⟨ub, 3, none⟩ (.slice a5 s'.length c5)).setCell ⟨ub, 4, none⟩ (.slice none 0 0)) w.heap.size (fun k => w.heap.size ≤ k ∧ k < X2.heap.size) (.slice ra R'.length rc) R' ∧ Below lo w ((w5.setCell ⟨ub, 3, none⟩ (.slice a5 s'.length c5)).setCell ⟨ub, 4, none⟩ (.slice none 0 0))) := ⟨_, hP6, fun k hk => (own_rowT ho5 hk).1, by simpa using hb5.size, hr6', hB6⟩
  clear hP6 hr6' hB6 hr6 G6 hr5 hrowD hrD hBD hDD hwD hByD hB5 ho5 hS1
  go_wp2
  go_loopw [7] (fun v wr => ∃ i : Nat, i ≤ R'.length ∧ v = .int .i64 (i : Int) ∧ ∃ T', KpG lo S1 T' ub db wb sum r.2.2 s' (R'.take i) g' R'.length lv fv soft wr ∧ (∀ k, T' k → X2.heap.size ≤ k) ∧ X2.heap.size ≤ wr.heap.size ∧ RcX wr w.heap.size (fun k => w.heap.size ≤ k ∧ k < X2.heap.size) (.slice ra R'.length rc) R' ∧ Below lo w wr) (fun v _ => R'.length - (intOf v).toNat)
  case atStart => exact ⟨0, Nat.zero_le _, rfl, hI.out⟩
  case round =>
    clear hI hb5 y0 y1 y2 y3 y4 y5 y6 y7 g3 g4
    obtain ⟨i, hi, rfl, T1, hG, hT1, hX2, hRx, hb⟩ := hrel
    by_cases hlt : i < R'.length
    · have hlt' : (i : Int) < (R'.length : Int) := by omega
      have hi0 : (0 : Int) ≤ (i : Int) := by omega
      have hS : R'.take (i + 1) = R'.take i ++ [R'[i]] := List.take_succ_eq_append_getElem hlt
      have hbod : R'[i].2.length ≤ 1048576 := hB.out.2.1.R _ (List.getElem_mem hlt)
      obtain ⟨b, p, c, rfl, k0, k1, hpc, hby, hkd⟩ := hRx.item hlt
      have hnext : Hid (∀ X T9, KpG lo S1 T9 ub db wb sum r.2.2 s' (R'.take i ++ [R'[i]]) g' R'.length lv fv soft X → KpG lo S1 T9 ub db wb sum r.2.2 s' (R'.take (i + 1)) g' R'.length lv fv soft X) := ⟨fun X T9 hX => by rw [hS]; exact hX⟩
      have htl : (R'.take i).length = i := by rw [List.length_take]; omega
      clear hS
      generalize hx0 : R'[i] = x at *
      clear hx0
      obtain ⟨kd, B⟩ := x
      simp only at k0 k1 hby hkd hbod
      have hby1 := Hid.mk hby.1
      have hkI : (kd : Int) < 256 := by omega
      have hk0 : (0 : Int) ≤ (kd : Int) := by omega
      have hwr : IntKind.i64.wrap (kd : Int) = (kd : Int) := by rw [IntKind.wrap_i64]; omega
      obtain ⟨sv1, qa, qc, L1, hL1, hvT1, J⟩ := hG.J
      have hRc := Hid.mk (fun X (hX : Below wr.heap.size wr X) => record_any (kd : Int) p c hpc B (by omega) X (hby.later hX))
      rw [show ((kd : Nat) : Int) % 256 = (kd : Int) by omega] at hRc
      obtain ⟨k, hk⟩ : ∃ k, B.length = k := ⟨_, rfl⟩
      rw [hk] at hRc k1 hbod
      replace hk := Hid.mk hk
      have hwl1 := hG.drw.lt
      have hul1 := hG.ult
      have hSl1 := hG.disk.low
      obtain ⟨i0, hi5, hz0, hz1, hz2⟩ := info_parts infoRc
      have D5 : Below wr.heap.size wr wr.drew := (Below.refl _ _).drew
      have u4 := (wd_cells (J _ D5).2.1).2.2.2.2.1
      have u4' := (wd_cells (J _ (Below.refl _ _)).2.1).2.2.2.2.1
      have v0 := (D5.cell (p := ⟨b, i * 2, none⟩) (World.block_lt_of_cell? _ _ k0)).trans k0
      have v1 := (D5.cell (p := ⟨b, i * 2 + 1, none⟩) (World.block_lt_of_cell? _ _ k1)).trans k1
      have hbN : Hid (∀ g, wr.heap.size ≤ g → ¬ S1 g ∧ g ≠ wb ∧ g ≠ ub) := ⟨fun g hg => ⟨fun e => by have := (hSl1 _ e).2; omega, by omega, by omega⟩⟩
      have hlor : lo ≤ wr.heap.size := Nat.le_trans hlo hb.size
      rw [htl] at hvT1 J u4 u4'
      replace hvT1 := Hid.mk hvT1
      replace hL1 := Hid.mk hL1
      replace J := Hid.mk J
      replace hb := Hid.mk hb
      replace hRx := Hid.mk hRx
      replace hT1 := Hid.mk hT1
      replace htl := Hid.mk htl
      clear hG hby
      go_upto_region 12 with fail
      go_region_law (first | (go_simp; go_at_call 13; refine (hRc.out _ D5).mono ?_; rintro e w8 ⟨p8, c8, rfl, ho8, hb8⟩; have Q8 := below_step D5 hb8; have u1 := (wd_cells (J.out _ Q8).2.1).2.2.2.2.1; have A8 : Below w8.heap.size w8 (w8.alloc (.cells #[.int .u8 (kd : Int), .slice p8 k c8] 38)) := (Below.refl _ _).alloc (Nat.le_refl _) _; have Q9 := below_step Q8 A8; have u9 := (wd_cells (J.out _ Q9).2.1).2.2.2.2.1; have hoL := (J.out _ Q9).2.2.1; have hR8 := Hid.mk (RcB.mk (x := ((kd, B), .slice p8 k c8)) hkd hby1.out (by rw [hk.out]; exact own_later (ho8.mono hlor) A8)); have hn8 := Hid.mk (fun g (e : (Value.slice p8 k c8).ownBlock = some g) => hbN.out g (own_rowT ho8 e).1); have hn9 := Hid.mk (fun g (e : (Value.slice p8 k c8).ownBlock = some g) => (own_rowT ho8 e).1)) | (refine step_append_at (P := Tryz.prog) _ rfl _ _ 29 rfl lo 38 i0 _ 2 32 Tryz.underlying29 hi5 hz0 hz1 hz2 rfl (by decide) _ i (rcV L1) rfl hoL ⟨w8.heap.size, 0, none⟩ 1 1 [.int .u8 (kd : Int), .slice p8 k c8] rfl rfl (lit_at w8 _ _) (by simp [Value.oneCell']) (by unfold maxLen; omega) (by omega) (Nat.le_trans hlor Q9.size) ?_; intro v' w9 hown' hgrow hat; obtain ⟨q9, k9, rfl⟩ := own_lenB hown'; have hG := Hid.mk ((J.out _ Q9).1.grow (J.out _ Q9).2.1 (J.out _ Q9).2.2.2.1 hL1.out (by rw [htl.out]; exact hoL) hvT1.out (J.out _ Q9).2.2.2.2 hR8.out hn8.out hgrow (by rw [htl.out]; exact hown') hat (Nat.le_trans hlor Q9.size)); have m4 := (wd_cells hG.out.1).2.2.2.2.1; have m5 := wd_frozen hG.out.1 4))
      all_goals (refine Met.intro ?_; go_step)
      all_goals
        have hE : Hid (∃ T', KpG lo S1 T' ub db wb sum r.2.2 s' (R'.take (i + 1)) g' R'.length lv fv soft (w9.setCell ⟨ub, 4, none⟩ (.slice q9 (i + 1) k9)) ∧ (∀ k, T' k → X2.heap.size ≤ k) ∧ X2.heap.size ≤ (w9.setCell ⟨ub, 4, none⟩ (.slice q9 (i + 1) k9)).heap.size ∧ RcX (w9.setCell ⟨ub, 4, none⟩ (.slice q9 (i + 1) k9)) w.heap.size (fun k => w.heap.size ≤ k ∧ k < X2.heap.size) (.slice (some ⟨b, 0, none⟩) R'.length rc) R' ∧ Below lo w (w9.setCell ⟨ub, 4, none⟩ (.slice q9 (i + 1) k9))) := ⟨by
          obtain ⟨-, ⟨T9, h9, hT9⟩, b9, G9⟩ := hG.out
          have hz9 := Q9.size
          refine ⟨T9, hnext.out _ _ h9, fun z hz => ?_, Nat.le_trans hX2 (Nat.le_trans hz9 G9.size), (hRx.out.grS (U := fun _ => False) (.of_below Q9) (fun _ _ h => h)).grS G9 (fun z hz e => ?_), (hb.out.trans (Q9.mono hlor)).trans b9⟩
          · rcases hT9 z hz with e | e | e
            · exact hT1.out z e
            · have := hn9.out z e
              exact Nat.le_trans hX2 this
            · subst e
              exact Nat.le_trans hX2 hz9
          · rcases e with e | e
            · have := hT1.out z e
              omega
            · omega⟩
        clear hG J hRc hnext hvT1 hL1 hRx hb hT1 htl hown' hgrow hat m4 m5 u1 u9 hoL hR8 hn8 hn9 u4 u4' v0 v1 k0 k1
        generalize w9.setCell ⟨ub, 4, none⟩ (.slice q9 (i + 1) k9) = wz at *
        go_wp2
        go_roundw
        case rel => exact ⟨i + 1, by omega, by first | rfl | go_num, hE.out⟩
        case measure => simp [intOf]; omega
    · have hlt' : ¬ (i : Int) < (R'.length : Int) := by omega
      obtain rfl : i = R'.length := by omega
      rw [List.take_length] at hG
      have hTS := hG.TS
      obtain ⟨sv1, rv1, hr1, hs1, hx1⟩ := hG.row
      obtain ⟨z0, z1, z2, z3, z4, z5, z6, z7⟩ := wd_cells hr1
      have k5 := wd_frozen hr1 5
      have k6 := wd_frozen hr1 6
      have k7 := wd_frozen hr1 7
      have hfin : Hid (KpS lo S1 T1 ub db sum r.2.2 s' R' none none false (some wb) g' (((wr.setCell ⟨ub, 5, none⟩ (.slice none 0 0)).setCell ⟨ub, 6, none⟩ (.slice none 0 0)).setCell ⟨ub, 7, none⟩ (.bool false)) ∧ Below lo w (((wr.setCell ⟨ub, 5, none⟩ (.slice none 0 0)).setCell ⟨ub, 6, none⟩ (.slice none 0 0)).setCell ⟨ub, 7, none⟩ (.bool false))) := by
        have G9 : GrS (fun k => k = ub) wr (((wr.setCell ⟨ub, 5, none⟩ (.slice none 0 0)).setCell ⟨ub, 6, none⟩ (.slice none 0 0)).setCell ⟨ub, 7, none⟩ (.bool false)) := ((grS_set wr ub 5 _).trans (grS_set _ ub 6 _)).trans (grS_set _ ub 7 _)
        refine ⟨KpG.whole ⟨hG.disk.grS G9 (fun k hk e => hG.nub (e ▸ hk)), hG.drw.grS G9 hG.ne, ⟨sv1, rv1, heap_setCell_same _ _ 7 _ _ _ (heap_setCell_same _ _ 6 _ _ _ (heap_setCell_same _ _ 5 _ _ _ hr1)), hs1.grS G9 (fun k hk => (hTS k hk).2.2.1), hx1.grS G9 (fun k hk => (hTS k hk).2.2.1)⟩, hG.nwb, hG.nub, hG.ne, hG.lwb, hG.lub, fun k hk => ?_⟩ hB.out, hb.trans (G9.below (Nat.le_trans hlo hb.size) (fun k e => e ▸ hlu))⟩
        obtain ⟨a, b, c, e, f⟩ := hTS k hk
        exact ⟨a, b, c, e, Nat.lt_of_lt_of_le f G9.size⟩
      clear hr1 hG hs1 hx1
      go_wp2
      go_ret
      exact ⟨rfl, ⟨S1, T1, wb, hfin.out.1⟩, hfin.out.2⟩
end Go.Proofs.YtakcdgeanbpllaaGreatDoor.DJ
