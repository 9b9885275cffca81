import Derived.Test.YthbojlbgjmecoaaGreatJoin53
import Derived.Deep.RegionHeldLaw
/- Append of both disks. -/
namespace Go.Proofs.YthbojlbgjmecoaaGreat.DJ
open Go.RowKit
set_option linter.constructorNameAsVariable false

def nowb (dat : List Nat) (i t : Nat) : Nat := if t < i then (dat.getD t 0 + 1) % 256 else dat.getD t 0
theorem PD.turn {W W' : World} {lo pb db rb l2 g : Nat} {d : Dk} {S T : Nat → Prop} (h : PD W lo pb db rb l2 d S T) (hg : GrS (fun z => z = g) W W') (h1 : ¬ S g) (h2 : ¬ T g) (h3 : g ≠ pb) : PD W' lo pb db rb l2 d S T := ⟨(hg.block _ h.lt (fun e => h3 e.symm)).trans h.row, h.two.grS hg (fun _ hk e => h1 (e ▸ hk)) (fun _ hk e => h2 (e ▸ hk)), h.sp, h.tp⟩
theorem byts_now {W : World} {g : Nat} {dat : List Nat} (hg : g < W.heap.size) (hc : ∀ t, t < dat.length → W.cell? ⟨g, t, none⟩ = some (.int .u8 (nowb dat dat.length t : Int))) : Byts W (some ⟨g, 0, none⟩) (dat.map fun x => (x + 1) % 256) := by
  refine ⟨fun x hx => ?_, .inr ⟨g, 0, rfl, hg, fun t ht => ?_⟩⟩
  · obtain ⟨y, -, rfl⟩ := List.mem_map.1 hx
    omega
  · have ht' : t < dat.length := by simpa using ht
    rw [Nat.zero_add, hc t ht']
    unfold nowb
    rw [if_pos ht', List.getElem_map, List.getD_eq_getElem?_getD, List.getElem?_eq_getElem ht']
    rfl
/-- The copy, i bytes of which are turned. -/
structure NowB (W : World) (g : Nat) (dat : List Nat) (i : Nat) : Prop where
  lt : g < W.heap.size
  cell : ∀ t, t < dat.length → W.cell? ⟨g, t, none⟩ = some (.int .u8 (nowb dat i t : Int))
  fz : ∀ t, W.frozen? ⟨g, t, none⟩ = false
theorem NowB.grS {U : Nat → Prop} {W W' : World} {g i : Nat} {dat : List Nat} (h : NowB W g dat i) (hg : GrS U W W') (hU : ¬ U g) : NowB W' g dat i := ⟨Nat.lt_of_lt_of_le h.lt hg.size, fun t ht => (hg.cell h.lt hU).trans (h.cell t ht), fun t => (World.frozen?_of_block (a := ⟨g, t, none⟩) (hg.block _ h.lt hU)).trans (h.fz t)⟩
theorem NowB.later {W W' : World} {g i : Nat} {dat : List Nat} (h : NowB W g dat i) (hb : Below W.heap.size W W') : NowB W' g dat i := h.grS (U := fun _ => False) (.of_below hb) (fun h => h)
theorem NowB.byts0 {W : World} {g : Nat} {dat : List Nat} (h : NowB W g dat 0) (hb : ∀ x ∈ dat, x < 256) : Byts W (some ⟨g, 0, none⟩) dat :=
  ⟨hb, .inr ⟨g, 0, rfl, h.lt, fun t ht => by
    rw [Nat.zero_add, h.cell t ht]
    unfold nowb
    rw [if_neg (by omega), List.getD_eq_getElem?_getD, List.getElem?_eq_getElem ht]
    rfl⟩⟩
theorem NowB.of_rm {W : World} {lo R g c : Nat} {dat : List Nat} {vb vf : Value} (h : RmB W lo R [(⟨[], dat, 0⟩, g, c)] vb vf) : NowB W g dat 0 := by
  have hd := h.dat _ (List.mem_singleton.2 rfl)
  obtain ⟨-, cs, r⟩ := own_rowT hd (g := g) rfl
  refine ⟨(hd.lt g rfl).2, fun t ht => ?_, fun t => frozen_of_row _ _ t _ _ r⟩
  have hbl : (bysV dat).length = dat.length := by simp [bysV]
  rw [hd.cellAt t (by show t < (dat.length + 600) * 1; omega), List.getElem?_append_left (by show t < (bysV dat).length; omega)]
  unfold nowb
  rw [if_neg (by omega)]
  simp only [bysV, List.getElem?_map, List.getElem?_eq_getElem ht, Option.map_some, List.getD_eq_getElem?_getD, Option.getD_some]
theorem NowB.put {W : World} {g i : Nat} {dat : List Nat} (h : NowB W g dat i) (hi : i < dat.length) : NowB (W.setCell ⟨g, i, none⟩ (.int .u8 (nowb dat (i + 1) i : Int))) g dat (i + 1) ∧ GrS (fun z => z = g) W (W.setCell ⟨g, i, none⟩ (.int .u8 (nowb dat (i + 1) i : Int))) := by
  have hg := grS_set W g i (.int .u8 (nowb dat (i + 1) i : Int))
  refine ⟨⟨Nat.lt_of_lt_of_le h.lt hg.size, fun t ht => ?_, fun t => by rw [World.frozen?_setCell]; exact h.fz t⟩, hg⟩
  by_cases htk : t = i
  · subst htk
    exact World.cell?_setCell_same _ _ _ (h.cell t ht)
  · have e : nowb dat (i + 1) t = nowb dat i t := by
      unfold nowb
      by_cases h1 : t < i
      · rw [if_pos h1, if_pos (by omega)]
      · rw [if_neg h1, if_neg (by omega)]
    rw [e]
    exact (World.cell?_setCell_other _ _ _ _ (by intro e; injection e with _ e _; exact htk e.symm)).trans (h.cell t ht)
theorem nowb_wrap (dat : List Nat) (i : Nat) : IntKind.u8.wrap ((nowb dat i i : Nat) + 1 : Int) = ((nowb dat (i + 1) i : Nat) : Int) := by
  unfold nowb
  rw [if_neg (by omega), if_pos (by omega), IntKind.wrap_u8]
  omega
theorem own_partsB {w : World} {base n q : Nat} {p : Option Addr} {xs : List Value} (h : w.ownsRow base 5 1 (.slice p n q) n xs) : (p = none → q = 0) ∧ n ≤ q ∧ ∀ z, p = some z → base ≤ z.block := by
  obtain ⟨-, ⟨e, h0⟩ | ⟨g, cap, cur, e, hb, -, hle, -⟩⟩ := h
  · injection e with e1 e2 e3
    subst e1 e3
    exact ⟨fun _ => rfl, by omega, fun z hz => by cases hz⟩
  · injection e with e1 e2 e3
    subst e1 e3
    exact ⟨fun e => (by cases e), hle, fun z hz => (by cases hz; exact hb)⟩
/-- append(nil, bs...) as a step. -/
theorem step_appN {ops : Array Oper} {o : Oper} {a : Act} (w : World) {K : Act → World → Prop} {Q : Exit → Act → World → Prop} {E : Prop}
    (hg : o.guard = none) (s x : Operand) (ho : o.op = .call { callee := .builtin .append, args := #[s, x], argTypes := #[34, 34] })
    (hs : a.eval s = .slice none 0 0) (ad : Option Addr) (c m : Nat) (bs : List Nat) (hm : m = bs.length) (hx : a.eval x = .slice ad m c) (hcap : ad = none → c = 0) (hN : Byts w ad bs) (hlen : bs.length ≤ 140737488355328)
    (h : ∀ p q w', w'.ownsRow w.heap.size 5 1 (.slice p m q) m (bysV bs) → Below w.heap.size w w' → K (a.put o.dst (.slice p m q)) w') : if Region.wanted o (yielded ops a.tmps) = true then Oper.wp Tryz.prog o a w K Q else E :=
  step_appB w hg s x ho w.heap.size _ 0 [] hs (World.ownsRow_nil _ _ _ _) ad c m bs hm hx hcap hN (by omega) (Nat.le_refl _) (fun p q w' h1 h2 => by
    subst hm
    rw [Nat.zero_add, List.nil_append] at h1
    rw [Nat.zero_add]
    exact h p q w' h1 ((Below.refl _ _).grown h2 (Nat.le_refl _) (fun k e => by cases e)))
theorem app_both {lo pb db rb l2 : Nat} {d d2 : Dk} {S T S1 T1 S2 T2 : Nat → Prop} {W1 W7 W8 W9 W10 : World} (h : PD W7 lo pb db rb l2 d S1 T1) (hG : GrS (fun z => S z ∨ T z) W1 W7) (hF : ∀ k, S1 k ∨ T1 k → (S k ∨ T k) ∨ W1.heap.size ≤ k) (hp : DiskAt W8 l2 S2 db d2) (hv : Dv S1 W7.drew S2 W8) (hb : Below W8.heap.size W8 W9) (hr : RdAt W10 T2 rb d2) (hv' : Dv T1 W9 T2 W10) : PD W10 lo pb db rb l2 d2 S2 T2 ∧ GrS (fun z => S z ∨ T z) W1 W10 ∧ (∀ k, S2 k ∨ T2 k → (S k ∨ T k) ∨ W1.heap.size ≤ k) ∧ GrS (fun z => S1 z ∨ T1 z) W7 W10 ∧ ∀ k, S2 k ∨ T2 k → (S1 k ∨ T1 k) ∨ W7.heap.size ≤ k := by
  have hd := (Below.refl W7.heap.size W7).drew
  obtain ⟨x1, x2, x3⟩ := (h.later hd).both hp hv hb hr hv'
  have hsz := hG.size
  refine ⟨x1, (hG.trans (.of_below hd)).past x2 hF, fun k hk => ?_, (GrS.of_below hd).trans x2, x3⟩
  rcases x3 k hk with e | e
  · exact hF k e
  · exact .inr (Nat.le_trans hsz e)
set_option maxRecDepth 100000 in
set_option maxHeartbeats 4000000 in
theorem disk_append {lo pb db rb l2 : Nat} {d : Dk} {S T : Nat → Prop} (o : OpD) (hk : o.kind = 1) (hB : OpB o) (w : World) (h : PD w lo pb db rb l2 d S T) (hI : OpI w lo o) : Calls Tryz.prog 5 #[.pointer (some ⟨pb, 0, none⟩), .agg o.v.toArray] w (PdP lo pb db rb l2 S T w) := by
  obtain ⟨W1, hW1⟩ : ∃ W1, w.alloc (.cells o.v.toArray 38) = W1 := ⟨_, rfl⟩
  have hB1 : Below w.heap.size w W1 := by rw [← hW1]; exact (Below.refl _ _).alloc (Nat.le_refl _) _
  have hr1 : W1.heap[w.heap.size]? = some (.cells o.v.toArray 38 (0, 0)) := by rw [← hW1]; exact heap_alloc_new _ _
  have hl1 : w.heap.size < W1.heap.size := by rw [← hW1]; simp
  have h1 := h.later hB1
  obtain ⟨ob, hob⟩ : ∃ ob, w.heap.size = ob := ⟨_, rfl⟩
  have hobS : ¬ S ob := fun e => by have := (h.two.p.low _ e).2; omega
  have hobT : ¬ T ob := fun e => by have := h.two.r.hi _ e; omega
  rw [hob] at hr1 hl1
  have hbd : Below W1.heap.size W1 W1.drew := (Below.refl _ _).drew
  have h2 := h1.later hbd
  have hC : Hid (∀ Y, GrS (fun z => S z ∨ T z) W1 Y → OpC Y pb ob db rb o) := ⟨fun Y hY => opc_of ((hY.block _ h1.lt (fun e => e.elim h.sp h.tp)).trans h1.row) ((hY.block _ hl1 (fun e => e.elim hobS hobT)).trans hr1)⟩
  have hC0 := hC.out W1 (.refl _ _)
  have hCd := hC.out W1.drew (.of_below hbd)
  obtain ⟨kd, nn, mm, sc, nm, da, dat, dc, ka, ks, kc, sm⟩ := o
  simp only at hk
  subst hk
  simp only [OpC, OpD.v] at hC hC0 hCd hW1 ⊢
  have hW1' := hW1.symm
  replace hW1' := Hid.mk hW1'
  obtain ⟨W2, hW2⟩ : ∃ W2, W1.alloc (.cells #[.slice none 0 0, .slice none 0 0, .slice none 0 0, .slice none 0 0, .slice none 0 0, .slice none 0 0, .slice none 0 0, .slice none 0 0, .slice none 0 0, .slice none 0 0, .slice none 0 0, .slice none 0 0, .slice none 0 0, .slice none 0 0, .slice none 0 0, .slice none 0 0, .slice none 0 0, .slice none 0 0, .slice none 0 0, .slice none 0 0, .slice none 0 0] 65) = W2 := ⟨_, rfl⟩
  have hB2 : Below W1.heap.size W1 W2 := by rw [← hW2]; exact (Below.refl _ _).alloc (Nat.le_refl _) _
  have hR2 : RmB W2 W2.heap.size W1.heap.size [] (.slice none 0 0) (.slice none 0 0) := by rw [← hW2]; exact RmB.new W1 _
  obtain ⟨R, hR⟩ : ∃ R, W1.heap.size = R := ⟨_, rfl⟩
  have hR2l : R < W2.heap.size := by rw [← hW2, ← hR]; simp
  rw [hR] at hR2
  have h22 := h1.later hB2
  have hIw1 : OpI W1 lo _ := hI.grS (U := fun _ => False) (.of_below hB1) (fun _ _ h => h)
  have hIw2 := hIw1.grS (U := fun _ => False) (.of_below hB2) (fun _ _ h => h)
  have hdl : dat.length ≤ 1048576 := hB.dl
  have hnl : nm.length ≤ 4294967296 := Nat.le_trans hB.nl (by decide)
  have hnb : ∀ x ∈ nm, x < 256 := hB.nb
  have hdc : da = none → dc = 0 := hB.dcap
  have hdcl : dat.length ≤ dc := hB.dcl
  have hdb : ∀ x ∈ dat, x < 256 := hI.dat.1
  obtain ⟨m0, -, mf, -⟩ := hR2.cell
  have hby := rbytes_any R W2.heap.size 0 (.slice none 0 0) [] W2 da dc dat hIw2.dat hdl (by decide) (World.ownsRow_nil _ _ _ _) (Nat.le_refl _) m0 (mf 0) (by simp [Value.ownBlock])
  have hSl : ∀ k, S k → k < R := fun k hk => by rw [← hR]; exact (h1.two.p.low k hk).2
  have hTl : ∀ k, T k → k < R := fun k hk => by rw [← hR]; exact h1.two.r.hi k hk
  have hpR : pb < R := by rw [← hR]; exact h1.lt
  have hwR : w.heap.size ≤ R := by rw [← hR]; exact hB1.size
  have hIn : Hid (∀ g cN vb' Wm w3, w3 = Wm.setCell ⟨R, 0, none⟩ vb' → GrS (fun z => (Value.slice none 0 0).ownBlock = some z) W2 Wm → Wm.ownsRow W2.heap.size 5 1 (.slice (some ⟨g, 0, none⟩) (dat.length + 600) cN) (dat.length + 600) (bysV dat ++ mksB 600) → Wm.ownsRow W2.heap.size 34 1 vb' (0 + 1) ([] ++ [.slice (some ⟨g, 0, none⟩) (dat.length + 600) cN]) → PD w3 lo pb db rb l2 d S T ∧ GrS (fun z => S z ∨ T z) W1 w3 ∧ GrS (fun z => S z ∨ T z) w w3 ∧ RmB w3 W2.heap.size R [(⟨[], dat, 0⟩, g, cN)] vb' (.slice none 0 0) ∧ R < g ∧ g < w3.heap.size) := ⟨fun g cN vb' Wm w3 hw3 hgm hog hov => by
    have hb2m : Below W2.heap.size W2 Wm := hgm.below (Nat.le_refl _) (fun k e => by cases e)
    have hgs := grS_set Wm R 0 vb'
    rw [← hw3] at hgs
    have hgl := hog.lt g rfl
    have hrm := RmB.snoc (f := ⟨[], dat, 0⟩) hR2 (Nat.le_refl _) hdb hgm hog hov
    rw [← hw3] at hrm
    have hG : GrS (fun z => S z ∨ T z) W1 w3 := ((GrS.of_below hB2).trans (.of_below hb2m)).past hgs (fun z e => .inr (by rw [e, hR]; exact Nat.le_refl _))
    have hGw : GrS (fun z => S z ∨ T z) w w3 := ((GrS.of_below (below_step hB1 hB2)).trans (.of_below hb2m)).past hgs (fun z e => .inr (by rw [e]; exact hwR))
    have h3 : PD w3 lo pb db rb l2 d S T := (h22.later hb2m).turn hgs (fun e => by have := hSl R e; omega) (fun e => by have := hTl R e; omega) (by omega)
    exact ⟨h3, hG, hGw, hrm, by omega, Nat.lt_of_lt_of_le hgl.2 hgs.size⟩⟩
  have hDo : Hid (∀ Y, GrS (fun z => S z ∨ T z) W1 Y → Byts Y da dat) := ⟨fun Y hY => (hIw1.grS hY (fun k hk e => e.elim (fun e => by have := h.two.sl k e; omega) (fun e => by have := h.two.tl k e; omega))).dat⟩
  have hap : Hid (dat = [] ∨ ∀ p, da = some p → ¬ T p.block) := ⟨hI.dlo.imp id (fun q p hp e => by have := q p hp; have := h.two.tl _ e; omega)⟩
  have hS0 : W2.cell? ⟨ob, 5, none⟩ = some (.slice da dat.length dc) := (hC.out W2 (.of_below hB2)).2.2.2.2.2.2.1
  obtain ⟨z0, z1, z2, z3, z4, z5, z6, z7⟩ := hC0
  obtain ⟨Rs, hRs⟩ : ∃ r, append d nm dat = r := ⟨_, rfl⟩
  obtain ⟨d2, hd2e⟩ : ∃ r, append Rs.2 nm (dat.map fun x => (x + 1) % 256) = r := ⟨_, rfl⟩
  have hdI : (dat.length : Int) ≤ 1048576 := by omega
  have hbyH := Hid.mk hby
  have hSTR : Hid ((∀ k, S k → k < R) ∧ ∀ k, T k → k < R) := ⟨⟨hSl, hTl⟩⟩
  clear hCd h h1 h2 h22 hB hobS hobT hr1 m0 mf hR2 hIw1 hIw2 hI hSl hTl hby
  have hAp : Hid (∀ Y d' S' T', PD Y lo pb db rb l2 d' S' T' → GrS (fun z => S z ∨ T z) W1 Y → (∀ k, S' k ∨ T' k → (S k ∨ T k) ∨ W1.heap.size ≤ k) → PdP lo pb db rb l2 S T w (.returned (.bool true)) Y) := ⟨fun Y d' S' T' x1 x2 x3 => ⟨rfl, d', S', T', x1, (GrS.of_below hB1).trans x2, fun k hk => (x3 k hk).imp id (fun e => Nat.le_trans hB1.size e)⟩⟩
  have hK9 : Hid (∀ (X : World) (T' : Nat → Prop) p q w9, RdAt X T' rb Rs.2 → w9.ownsRow X.heap.size 5 1 (.slice p dat.length q) dat.length (bysV (dat.map fun x => (x + 1) % 256)) → Below X.heap.size X w9 → Calls Tryz.prog 16 #[.pointer (some ⟨rb, 0, none⟩), .string (strB nm), .slice p dat.length q] w9 fun e w' => e = .returned (.int .i64 (d2.1 : Int)) ∧ ∃ T2, RdAt w' T2 rb d2.2 ∧ Dv T' w9 T2 w') := ⟨fun X T' p q w9 hX ho hb => by
    obtain ⟨y1, y2, y3⟩ := own_partsB ho
    have ho' := ho
    rw [show dat.length = (dat.map fun x => (x + 1) % 256).length by rw [List.length_map]] at ho
    have hby9 := byts_of_own (n := (dat.map fun x => (x + 1) % 256).length) (fun x hx => by obtain ⟨y, -, rfl⟩ := List.mem_map.1 hx; omega) ho
    have := rappend_any (T := T') (rb := rb) (d := Rs.2) hnl hnb (data := dat.map fun x => (x + 1) % 256) (by rw [List.length_map]; omega) p q y1 (by rw [List.length_map]; exact y2) w9 hby9 (.inr (fun z hz e => by have := y3 z hz; have := hX.hi _ e; omega)) (hX.later hb)
    rw [hd2e, List.length_map] at this
    exact this⟩
  go_enter Tryz.func5, Tryz.ntmps5
  go_wp2_with fail
  go_wp2_with (go_at_call 13; refine hbyH.out.mono ?_; rintro e w3 ⟨g, cN, vb', Wm, rfl, hw3, hgm, hog, hov, -⟩; obtain ⟨p3, gr3, grw, hrm, hgR, hgl⟩ := hIn.out g cN vb' Wm w3 hw3 hgm hog hov; clear hw3 hgm hog hov)
  have hdr3 := (Below.refl w3.heap.size w3).drew
  have hSg : ¬ S g := fun e => by have := hSTR.out.1 g e; omega
  have hTg : ¬ T g := fun e => by have := hSTR.out.2 g e; omega
  have hN3 := NowB.of_rm hrm
  have gd3 := gr3.trans (.of_below hdr3)
  have q3 := hC.out w3.drew gd3
  have hS3 : w3.drew.cell? ⟨pb, 0, none⟩ = some (.pointer (some ⟨db, 0, none⟩)) ∧ w3.drew.cell? ⟨ob, 4, none⟩ = some (.string (strB nm)) := ⟨q3.1, q3.2.2.2.2.2.1⟩
  have p3d := p3.later hdr3
  have hpa := append_any hnl hnb (data := dat) (by omega) (some ⟨g, 0, none⟩) (dat.length + 600) (fun e => by cases e) (by omega) w3.drew p3d.two.l2 ((hN3.later hdr3).byts0 hdb) (fun p hp => by cases hp; exact hSg) p3d.two.p
  rw [hRs] at hpa
  have hK4 : Hid (∀ w4 S', Dv S w3.drew S' w4 → (GrS (fun z => S z ∨ T z) W1 w4 ∧ GrS (fun z => S z ∨ T z) W1 w4.drew) ∧ RmB w4.drew W2.heap.size R [(⟨[], dat, 0⟩, g, cN)] vb' (.slice none 0 0) ∧ RdAt w4.drew T rb d ∧ NowB w4.drew g dat 0) := ⟨fun w4 S' hv => by
    have hd4 := (Below.refl w4.heap.size w4).drew
    have g4 : GrS (fun z => S z ∨ T z) W1 w4 := gd3.trans (hv.gr.mono (fun _ _ e => .inl e))
    refine ⟨⟨g4, g4.trans (.of_below hd4)⟩, ((hrm.later hdr3).grS hv.gr (fun e => by have := hSTR.out.1 R e; omega) (fun g cs hlo _ e => by have := hSTR.out.1 g e; omega)).later hd4, (p3d.two.r.grS hv.gr (fun k h3 h4 => p3.two.ap k h4 h3)).later hd4, ((hN3.later hdr3).grS hv.gr hSg).later hd4⟩⟩
  replace hrm := Hid.mk hrm
  replace p3 := Hid.mk p3
  replace hN3 := Hid.mk hN3
  replace gr3 := Hid.mk gr3
  clear hdr3 gd3 q3 p3d hIn grw
  go_region_held3 (fun Y => Y.cell? ⟨pb, 0, none⟩ = some (.pointer (some ⟨db, 0, none⟩)) ∧ Y.cell? ⟨ob, 4, none⟩ = some (.string (strB nm))) (assumption) ((go_at_call 14; refine hpa.mono ?_; rintro e w4 ⟨rfl, S', hd4, hv4⟩; obtain ⟨⟨g4, g4d⟩, hrm4, hrd4, hN4⟩ := hK4.out w4 S' hv4; have q4 := hC.out w4 g4; have q4d := hC.out w4.drew g4d; have hS4 : w4.cell? ⟨pb, 0, none⟩ = some (.pointer (some ⟨db, 0, none⟩)) ∧ w4.cell? ⟨ob, 4, none⟩ = some (.string (strB nm)) := ⟨q4.1, q4.2.2.2.2.2.1⟩; have hS5 : w4.drew.cell? ⟨pb, 2, none⟩ = some (.pointer (some ⟨rb, 0, none⟩)) ∧ w4.drew.cell? ⟨ob, 4, none⟩ = some (.string (strB nm)) ∧ w4.drew.cell? ⟨ob, 5, none⟩ = some (.slice da dat.length dc) := ⟨q4d.2.1, q4d.2.2.2.2.2.1, q4d.2.2.2.2.2.2.1⟩; have hsb := sameBytes_any (hN4.byts0 hdb) (hDo.out _ g4d) (dat.length + 600) dc; simp only [decide_true] at hsb; have hho := hold_b (E := [(⟨[], dat, 0⟩, g, cN)]) (fun x hx => by cases List.mem_singleton.1 hx; exact hdl) (by simp) w4.drew hrm4; replace hd4 := Hid.mk hd4; replace hv4 := Hid.mk hv4; replace hrd4 := Hid.mk hrd4; replace hN4 := Hid.mk hN4; replace g4d := Hid.mk g4d; clear q4 q4d hrm4 g4))
  clear hS0 hS3 hpa
  go_wp2_with fail
  go_region_held3 (fun Y => Y.cell? ⟨pb, 2, none⟩ = some (.pointer (some ⟨rb, 0, none⟩)) ∧ Y.cell? ⟨ob, 4, none⟩ = some (.string (strB nm)) ∧ Y.cell? ⟨ob, 5, none⟩ = some (.slice da dat.length dc)) (assumption) (first | (go_at_call 15; refine hsb.mono ?_; rintro e w5 ⟨rfl, hw5⟩; subst w5) | (go_at_call 12; refine hho.mono ?_; rintro e w5 ⟨rfl, hb5⟩; have g5 := g4d.out.trans (.of_below hb5); have q5 := hC.out w5 g5; have hS6 : w5.cell? ⟨pb, 2, none⟩ = some (.pointer (some ⟨rb, 0, none⟩)) ∧ w5.cell? ⟨ob, 4, none⟩ = some (.string (strB nm)) ∧ w5.cell? ⟨ob, 5, none⟩ = some (.slice da dat.length dc) := ⟨q5.2.1, q5.2.2.2.2.2.1, q5.2.2.2.2.2.2.1⟩; have hra := rappend_any hnl hnb (data := dat) (by omega) da dc hdc hdcl w5 (hDo.out _ g5) hap.out (hrd4.out.later hb5); rw [hRs] at hra; replace hb5 := Hid.mk hb5; clear q5 g5) | (go_at_call 16; refine hra.mono ?_; rintro e w6 ⟨rfl, T', hr6, hv6⟩; obtain ⟨p6, g6, f6, -, f6'⟩ := app_both p3.out gr3.out (fun _ h => .inl h) hd4.out hv4.out (below_step ((Below.refl w4.heap.size w4).drew) hb5.out) hr6 hv6; have q6 := hC.out w6 g6; have hS7 : w6.cell? ⟨pb, 2, none⟩ = some (.pointer (some ⟨rb, 0, none⟩)) ∧ w6.cell? ⟨ob, 4, none⟩ = some (.string (strB nm)) ∧ w6.cell? ⟨ob, 5, none⟩ = some (.slice da dat.length dc) := ⟨q6.2.1, q6.2.2.2.2.2.1, q6.2.2.2.2.2.2.1⟩; have hN6 := Hid.mk ((hN4.out.later hb5.out).grS hv6.gr hTg); replace p6 := Hid.mk p6; replace g6 := Hid.mk g6; replace f6 := Hid.mk f6; replace f6' := Hid.mk f6'; clear q6 hr6 hv6))
  clear hsb hho hra hb5 hd4 hv4 hrd4 hN4 hN3 hrm hK4 hDo
  have hSg6 : ¬ S' g ∧ ¬ T' g := ⟨fun e => (f6'.out g (.inl e)).elim (fun q => q.elim hSg hTg) (fun q => by omega), fun e => (f6'.out g (.inr e)).elim (fun q => q.elim hSg hTg) (fun q => by omega)⟩
  have hgp : g ≠ pb := by omega
  have hgW : W1.heap.size ≤ g := by omega
  clear f6' hSg hTg p3 gr3 hSTR g4d
  go_wp2_with fail
  go_loopw [9] (fun v wr => ∃ k : Nat, k ≤ dat.length ∧ v = .int .i64 (k : Int) ∧ NowB wr g dat k ∧ GrS (fun z => z = g) w6 wr) (fun v _ => dat.length - (intOf v).toNat)
  case atStart => exact ⟨0, Nat.zero_le _, rfl, hN6.out, .refl _ _⟩
  case round =>
    clear hN6
    obtain ⟨k, hk, rfl, hN, hG⟩ := hrel
    by_cases hkn : k < dat.length
    · have hkn' : (k : Int) < (dat.length : Int) := by omega
      have hk0 : (0 : Int) ≤ (k : Int) := by omega
      have c2 := hN.cell k hkn
      have c3 := hN.fz k
      have hv := nowb_wrap dat k
      have hp := Hid.mk (hN.put hkn)
      replace hG := Hid.mk hG
      generalize nowb dat (k + 1) k = y at *
      generalize nowb dat k k = x at *
      clear hN
      go_wp2
      go_roundw
      case rel => exact ⟨k + 1, by omega, by go_num, hp.out.1, hG.out.trans hp.out.2⟩
      case measure => simp [intOf]; omega
    · obtain rfl : k = dat.length := by omega
      have p7 := p6.out.turn hG hSg6.1 hSg6.2 hgp
      have g7 : GrS (fun z => S z ∨ T z) W1 wr := g6.out.past hG (fun z e => .inr (by rw [e]; exact hgW))
      have hb7 := byts_now hN.lt hN.cell
      clear hG hN
      by_cases h64 : 0 < dat.length ∧ dat.length ≤ 64
      · have h01 : (0 : Int) < (dat.length : Int) := by omega
        have h02 : (dat.length : Int) ≤ 64 := by omega
        have hdr7 := (Below.refl wr.heap.size wr).drew
        have p7d := p7.later hdr7
        have hb7d := hb7.later hdr7
        have gd7 := g7.trans (.of_below hdr7)
        have q7 := hC.out _ gd7
        have hSA : wr.drew.cell? ⟨pb, 0, none⟩ = some (.pointer (some ⟨db, 0, none⟩)) ∧ wr.drew.cell? ⟨ob, 4, none⟩ = some (.string (strB nm)) := ⟨q7.1, q7.2.2.2.2.2.1⟩
        have hpb := append_any hnl hnb (data := dat.map fun x => (x + 1) % 256) (by rw [List.length_map]; omega) (some ⟨g, 0, none⟩) (dat.length + 600) (fun e => by cases e) (by rw [List.length_map]; omega) wr.drew p7d.two.l2 hb7d (fun p hp => by cases hp; exact hSg6.1) p7d.two.p
        rw [hd2e] at hpb
        simp only [List.length_map] at hpb
        have hK8 : Hid (∀ w8 S2, Dv S' wr.drew S2 w8 → (GrS (fun z => S z ∨ T z) W1 w8 ∧ GrS (fun z => S z ∨ T z) W1 w8.drew) ∧ RdAt w8.drew T' rb Rs.2 ∧ Byts w8.drew (some ⟨g, 0, none⟩) (dat.map fun x => (x + 1) % 256)) := ⟨fun w8 S2 hv => by
          have hd8 := (Below.refl w8.heap.size w8).drew
          have g8 : GrS (fun z => S z ∨ T z) W1 w8 := gd7.past hv.gr (fun z e => f6.out z (.inl e))
          exact ⟨⟨g8, g8.trans (.of_below hd8)⟩, (p7d.two.r.grS hv.gr (fun k h3 h4 => p7.two.ap k h4 h3)).later hd8, (hv.gr.byts hb7d (fun p hp => by cases hp; exact hSg6.1)).later hd8⟩⟩
        replace p7 := Hid.mk p7
        replace g7 := Hid.mk g7
        clear hdr7 p7d hb7d gd7 q7 hb7 p6 g6
        go_wp2_with fail
        go_region_held3 (fun Y => Y.cell? ⟨pb, 0, none⟩ = some (.pointer (some ⟨db, 0, none⟩)) ∧ Y.cell? ⟨ob, 4, none⟩ = some (.string (strB nm))) (assumption) ((go_at_call 14; refine hpb.mono ?_; rintro e w8 ⟨rfl, S2, hd8, hv8⟩; obtain ⟨⟨g8, g8d⟩, hrd8, hby8⟩ := hK8.out w8 S2 hv8; have q8 := hC.out w8 g8; have q8d := hC.out w8.drew g8d; have hSB : w8.cell? ⟨pb, 0, none⟩ = some (.pointer (some ⟨db, 0, none⟩)) ∧ w8.cell? ⟨ob, 4, none⟩ = some (.string (strB nm)) := ⟨q8.1, q8.2.2.2.2.2.1⟩; have hSC : w8.drew.cell? ⟨pb, 2, none⟩ = some (.pointer (some ⟨rb, 0, none⟩)) ∧ w8.drew.cell? ⟨ob, 4, none⟩ = some (.string (strB nm)) := ⟨q8d.2.1, q8d.2.2.2.2.2.1⟩; replace hd8 := Hid.mk hd8; replace hv8 := Hid.mk hv8; replace hrd8 := Hid.mk hrd8; replace hby8 := Hid.mk hby8; replace g8d := Hid.mk g8d; clear q8 q8d g8))
        clear hSA hpb hK8
        go_wp2_with fail
        go_region_held_law (fun Y => Y.cell? ⟨pb, 2, none⟩ = some (.pointer (some ⟨rb, 0, none⟩)) ∧ Y.cell? ⟨ob, 4, none⟩ = some (.string (strB nm))) (assumption) (first | (refine step_appN _ (by rfl) _ _ (by rfl) (by kernel_rfl) (some ⟨g, 0, none⟩) (dat.length + 600) dat.length (dat.map fun x => (x + 1) % 256) (by rw [List.length_map]) (by kernel_rfl) (fun e => by cases e) hby8.out (by rw [List.length_map]; omega) ?_; intro p9 q9 w9 ho9 hb9; have g9 := g8d.out.trans (.of_below hb9); have q9c := hC.out w9 g9; have hSD : w9.cell? ⟨pb, 2, none⟩ = some (.pointer (some ⟨rb, 0, none⟩)) ∧ w9.cell? ⟨ob, 4, none⟩ = some (.string (strB nm)) := ⟨q9c.2.1, q9c.2.2.2.2.2.1⟩; have hr9 := hK9.out _ _ p9 q9 w9 hrd8.out ho9 hb9; replace hb9 := Hid.mk hb9; clear q9c g9 ho9) | (go_at_call 16; refine hr9.mono ?_; rintro e w10 ⟨rfl, T2, hr10, hv10⟩; obtain ⟨pA, gA, fA, -, -⟩ := app_both p7.out g7.out f6.out hd8.out hv8.out (below_step ((Below.refl w8.heap.size w8).drew) hb9.out) hr10 hv10; have qA := hC.out w10 gA; have hSE : w10.cell? ⟨pb, 2, none⟩ = some (.pointer (some ⟨rb, 0, none⟩)) ∧ w10.cell? ⟨ob, 4, none⟩ = some (.string (strB nm)) := ⟨qA.2.1, qA.2.2.2.2.2.1⟩; have hfn := Hid.mk (hAp.out w10 _ S2 T2 pA gA fA); clear qA pA gA fA hr10 hv10))
        all_goals
          go_wp2
          go_ret
          simpa using hfn.out
      · have hfn := Hid.mk (hAp.out wr _ S' T' p7 g7 f6.out)
        clear p7 g7 hb7 p6 g6 f6
        by_cases h0 : 0 < dat.length
        · have h01 : (0 : Int) < (dat.length : Int) := by omega
          have h02 : ¬ (dat.length : Int) ≤ 64 := by omega
          replace h0 := Hid.mk h0
          replace h64 := Hid.mk h64
          go_wp2
          go_ret
          simpa using hfn.out
        · have h01 : ¬ (0 : Int) < (dat.length : Int) := by omega
          replace h0 := Hid.mk h0
          replace h64 := Hid.mk h64
          go_wp2
          go_ret
          simpa using hfn.out
end Go.Proofs.YthbojlbgjmecoaaGreat.DJ
