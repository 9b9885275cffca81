import Derived.Test.YthbojlbgjmecoaaGreatTurnRdZb
import Derived.Test.YthbojlbgjmecoaaGreatJoin50
import Derived.Test.YthbojlbgjmecoaaGreatJoin49
/- A room's copy of ints; what is handed in with a step. -/
namespace Go.Proofs.YthbojlbgjmecoaaGreat.DJ
open Go.RowKit
set_option linter.constructorNameAsVariable false

theorem rints_any (R : Nat) (a : Option Addr) (cap : Nat) (ks : List Int) (W : World) (hK : KpAt W a ks) (hl : ks.length ≤ 1048576) (r1 : W.cell? ⟨R, 1, none⟩ = some (.slice none 0 0)) (r2 : W.frozen? ⟨R, 1, none⟩ = false) :
    Calls Tryz.prog 32 #[.pointer (some ⟨R, 0, none⟩), .slice a ks.length cap] W fun e W' => ∃ (g g2 cap2 capN : Nat) (Wm : World), e = .returned (.slice (some ⟨g, 0, none⟩) ks.length (ks.length + 40)) ∧ Below W.heap.size W Wm ∧ W' = Wm.setCell ⟨R, 1, none⟩ (.slice (some ⟨g2, 0, none⟩) 1 cap2) ∧ Wm.ownsRow W.heap.size 3 1 (.slice (some ⟨g, 0, none⟩) (ks.length + 40) capN) (ks.length + 40) (ks.map (Value.int .i64) ++ marks 40) ∧ Wm.cell? ⟨g2, 0, none⟩ = some (.slice (some ⟨g, 0, none⟩) (ks.length + 40) capN) ∧ W.heap.size ≤ g2 := by
  rcases hK with rfl | ⟨b, off, rfl, hlt, hc⟩
  · exact ints_nil R cap a W r1 r2
  · exact ints_some R b off cap ks W (by omega) hlt (fun i hi => by rw [hc i hi, List.getD_eq_getElem?_getD, List.getElem?_eq_getElem hi]; rfl) r1 r2
/-- What was handed in with a step lies where no disk is. -/
structure OpI (w : World) (lo : Nat) (o : OpD) : Prop where
  dat : Byts w o.da o.dat
  dlo : o.dat = [] ∨ ∀ p, o.da = some p → p.block < lo
  kp : KpAt w o.ka o.ks
  klo : o.ks = [] ∨ ∀ p, o.ka = some p → p.block < lo
theorem OpI.grS {U : Nat → Prop} {w w' : World} {lo : Nat} {o : OpD} (h : OpI w lo o) (hg : GrS U w w') (hU : ∀ k, k < lo → ¬ U k) : OpI w' lo o :=
  ⟨h.dlo.elim (fun e => ⟨h.dat.1, .inl e⟩) (fun q => hg.byts h.dat (fun p hp => hU _ (q p hp))), h.dlo, h.klo.elim .inl (fun q => h.kp.grS hg (fun p hp => hU _ (q p hp))), h.klo⟩
/-- The room of ints. -/
theorem hold_i {R g g2 cap2 capN N : Nat} {W : World} (hR : RoomBut W R 1) (c : W.cell? ⟨R, 1, none⟩ = some (.slice (some ⟨g2, 0, none⟩) 1 cap2)) (d : W.cell? ⟨g2, 0, none⟩ = some (.slice (some ⟨g, 0, none⟩) (N + 40) capN)) (hN : N ≤ 20000000000000) (m : ∀ k, k < 40 → W.cell? ⟨g, N + k, none⟩ = some (.int .i64 (markI k))) : Calls Tryz.prog 12 #[.pointer (some ⟨R, 0, none⟩)] W fun e W' => e = .returned (.bool true) ∧ Below W.heap.size W W' :=
  hold_ints R W hR (fun X hX => holdInts_one R g2 g cap2 capN N X ((hX.cell (p := ⟨R, 1, none⟩) (World.block_lt_of_cell? _ _ c)).trans c) ((hX.cell (p := ⟨g2, 0, none⟩) (World.block_lt_of_cell? _ _ d)).trans d) hN (fun k hk => (hX.cell (p := ⟨g, N + k, none⟩) (World.block_lt_of_cell? _ _ (m k hk))).trans (m k hk)))
end Go.Proofs.YthbojlbgjmecoaaGreat.DJ


/- Restart of both disks. -/
namespace Go.Proofs.YthbojlbgjmecoaaGreat.DJ
open Go.RowKit
set_option linter.constructorNameAsVariable false

set_option maxRecDepth 100000 in
set_option maxHeartbeats 4000000 in
theorem disk_restart {lo pb db rb l2 : Nat} {d : Dk} {S T : Nat → Prop} (o : OpD) (hk : o.kind = 9) (hB : OpB o) (w : World) (h : PD w lo pb db rb l2 d S T) (hI : OpI w lo o) : Calls Tryz.prog 5 #[.pointer (some ⟨pb, 0, none⟩), .agg o.v.toArray] w (PdP lo pb db rb l2 S T w) := by
  obtain ⟨W1, hW1⟩ : ∃ W1, w.alloc (.cells o.v.toArray 38) = W1 := ⟨_, rfl⟩
  have hB1 : Below w.heap.size w W1 := by rw [← hW1]; exact (Below.refl _ _).alloc (Nat.le_refl _) _
  have hr1 : W1.heap[w.heap.size]? = some (.cells o.v.toArray 38 (0, 0)) := by rw [← hW1]; exact heap_alloc_new _ _
  have hl1 : w.heap.size < W1.heap.size := by rw [← hW1]; simp
  have h1 := h.later hB1
  obtain ⟨ob, hob⟩ : ∃ ob, w.heap.size = ob := ⟨_, rfl⟩
  have hobS : ¬ S ob := fun e => by have := (h.two.p.low _ e).2; omega
  have hobT : ¬ T ob := fun e => by have := h.two.r.hi _ e; omega
  rw [hob] at hr1 hl1
  have hbd : Below W1.heap.size W1 W1.drew := (Below.refl _ _).drew
  have h2 := h1.later hbd
  have hC : Hid (∀ Y, GrS (fun z => S z ∨ T z) W1 Y → OpC Y pb ob db rb o) := ⟨fun Y hY => opc_of ((hY.block _ h1.lt (fun e => e.elim h.sp h.tp)).trans h1.row) ((hY.block _ hl1 (fun e => e.elim hobS hobT)).trans hr1)⟩
  have hC0 := hC.out W1 (.refl _ _)
  have hCd := hC.out W1.drew (.of_below hbd)
  obtain ⟨kd, nn, mm, sc, nm, da, dat, dc, ka, ks, kc, sm⟩ := o
  simp only at hk
  subst hk
  simp only [OpC, OpD.v] at hC hC0 hCd hW1 ⊢
  have hW1' := hW1.symm
  replace hW1' := Hid.mk hW1'
  obtain ⟨W2, hW2⟩ : ∃ W2, W1.alloc (.cells #[.slice none 0 0, .slice none 0 0, .slice none 0 0, .slice none 0 0, .slice none 0 0, .slice none 0 0, .slice none 0 0, .slice none 0 0, .slice none 0 0, .slice none 0 0, .slice none 0 0, .slice none 0 0, .slice none 0 0, .slice none 0 0, .slice none 0 0, .slice none 0 0, .slice none 0 0, .slice none 0 0, .slice none 0 0, .slice none 0 0, .slice none 0 0] 65) = W2 := ⟨_, rfl⟩
  have hB2 : Below W1.heap.size W1 W2 := by rw [← hW2]; exact (Below.refl _ _).alloc (Nat.le_refl _) _
  have hR2 : RmB W2 W2.heap.size W1.heap.size [] (.slice none 0 0) (.slice none 0 0) := by rw [← hW2]; exact RmB.new W1 _
  obtain ⟨R, hR⟩ : ∃ R, W1.heap.size = R := ⟨_, rfl⟩
  have hR2l : R < W2.heap.size := by rw [← hW2, ← hR]; simp
  rw [hR] at hR2
  have hbd2 : Below W2.heap.size W2 W2.drew := (Below.refl _ _).drew
  have hB12 : Below W1.heap.size W1 W2.drew := below_step hB2 hbd2
  have h22 := h1.later hB12
  have hRd := hR2.later hbd2
  obtain ⟨-, -, mf, mo⟩ := hRd.cell
  have hIw1 : OpI W1 lo _ := hI.grS (U := fun _ => False) (.of_below hB1) (fun _ _ h => h)
  have hIw2 := hIw1.grS (U := fun _ => False) (.of_below hB12) (fun _ _ h => h)
  have hkl : ks.length ≤ 1048576 := hB.kl
  have hints := rints_any R ka kc ks W2.drew hIw2.kp hkl (mo 1 (by decide) (by decide) (by decide)) (mf 1)
  have hSl : ∀ k, S k → k < R := fun k hk => by rw [← hR]; exact (h1.two.p.low k hk).2
  have hTl : ∀ k, T k → k < R := fun k hk => by rw [← hR]; exact h1.two.r.hi k hk
  have hpR : pb < R := by rw [← hR]; exact h1.lt
  have hoR : ob < R := by rw [← hR]; exact hl1
  have hloR : lo ≤ R := by rw [← hR]; exact h1.two.lo
  have hwR : w.heap.size ≤ R := by rw [← hR]; exact hB1.size
  have hGw : GrS (fun z => S z ∨ T z) w W2.drew := .of_below (below_step hB1 hB12)
  have hGw1 : GrS (fun z => S z ∨ T z) W1 W2.drew := .of_below hB12
  have hIn : Hid (∀ g g2 cap2 capN Wm w3, Below W2.drew.heap.size W2.drew Wm → w3 = Wm.setCell ⟨R, 1, none⟩ (.slice (some ⟨g2, 0, none⟩) 1 cap2) → Wm.ownsRow W2.drew.heap.size 3 1 (.slice (some ⟨g, 0, none⟩) (ks.length + 40) capN) (ks.length + 40) (ks.map (Value.int .i64) ++ marks 40) → Wm.cell? ⟨g2, 0, none⟩ = some (.slice (some ⟨g, 0, none⟩) (ks.length + 40) capN) → W2.drew.heap.size ≤ g2 → PD w3 lo pb db rb l2 d S T ∧ GrS (fun z => S z ∨ T z) W1 w3 ∧ GrS (fun z => S z ∨ T z) w w3 ∧ KpAt w3 (some ⟨g, 0, none⟩) ks ∧ (¬ S g ∧ ¬ T g) ∧ ∀ Y, GrS (fun z => S z ∨ T z) w3 Y → RoomBut Y R 1 ∧ Y.cell? ⟨R, 1, none⟩ = some (.slice (some ⟨g2, 0, none⟩) 1 cap2) ∧ Y.cell? ⟨g2, 0, none⟩ = some (.slice (some ⟨g, 0, none⟩) (ks.length + 40) capN) ∧ ∀ k, k < 40 → Y.cell? ⟨g, ks.length + k, none⟩ = some (.int .i64 (markI k))) := ⟨fun g g2 cap2 capN Wm w3 hbm hw3 hog hc2 hg2 => by
    have hsz : W2.drew.heap.size = W2.heap.size := rfl
    have hgs := grS_set Wm R 1 (.slice (some ⟨g2, 0, none⟩) 1 cap2)
    rw [← hw3] at hgs
    have hgl := hog.lt g rfl
    have hg2l := World.block_lt_of_cell? _ _ hc2
    have hRm := hRd.later hbm
    have hrr := hRm.row
    unfold rmRow at hrr
    have hrw := heap_setCell_same Wm R 1 _ _ (.slice (some ⟨g2, 0, none⟩) 1 cap2) hrr
    rw [← hw3] at hrw
    have hPw : ∀ k, S k ∨ T k → ¬ k = R := fun k hk e => by
      rcases hk with hk | hk
      · have := hSl k hk; omega
      · have := hTl k hk; omega
    have hG3 : GrS (fun z => S z ∨ T z) W1 w3 := (hGw1.trans (.of_below hbm)).past hgs (fun z e => .inr (by rw [e, hR]; exact Nat.le_refl _))
    have hG3w : GrS (fun z => S z ∨ T z) w w3 := (hGw.trans (.of_below hbm)).past hgs (fun z e => .inr (by rw [e]; exact hwR))
    have hgR : ¬ g = R := fun e => by omega
    have hg2R : ¬ g2 = R := fun e => by omega
    have hmk : ∀ k, k < ks.length + 40 → w3.cell? ⟨g, k, none⟩ = (ks.map (Value.int .i64) ++ marks 40)[k]? := fun k hk => (hgs.cell hgl.2 hgR).trans (hog.cellAt k (by omega))
    have hout : ∀ k, R ≤ k → ¬ (S k ∨ T k) := fun k hk e => by
      rcases e with e | e
      · have := hSl k e; omega
      · have := hTl k e; omega
    refine ⟨⟨(hgs.block _ (Nat.lt_of_lt_of_le (Nat.lt_of_lt_of_le hpR (Nat.le_of_lt hR2l)) hbm.size) (fun e => by omega)).trans (h22.later hbm).row, (h22.later hbm).two.grS hgs (fun k hk => hPw k (.inl hk)) (fun k hk => hPw k (.inr hk)), h.sp, h.tp⟩, hG3, hG3w, ?_, ⟨fun e => by have := hSl g e; omega, fun e => by have := hTl g e; omega⟩, fun Y hY => ?_⟩
    · by_cases hk0 : ks = []
      · exact .inl hk0
      · refine .inr ⟨g, 0, rfl, Nat.lt_of_lt_of_le hgl.2 hgs.size, fun i hi => ?_⟩
        rw [Nat.zero_add, hmk i (by omega), List.getElem?_append_left (by rw [List.length_map]; exact hi), List.getElem?_map, List.getElem?_eq_getElem hi]
        rfl
    · have hRY := (hY.block R (Nat.lt_of_lt_of_le (Nat.lt_of_lt_of_le hR2l hbm.size) hgs.size) (hout R (Nat.le_refl _))).trans hrw
      refine ⟨fun k hk h1k => ?_, cell_of_row _ _ 1 _ _ _ hRY, ?_, fun k hk => ?_⟩
      · rw [cell_of_row _ _ k _ _ _ hRY]
        rcases (show k = 0 ∨ k = 2 ∨ k = 3 ∨ k = 4 ∨ k = 5 ∨ k = 6 ∨ k = 7 ∨ k = 8 ∨ k = 9 ∨ k = 10 ∨ k = 11 ∨ k = 12 ∨ k = 13 ∨ k = 14 ∨ k = 15 ∨ k = 16 ∨ k = 17 ∨ k = 18 ∨ k = 19 ∨ k = 20 by omega) with rfl | rfl | rfl | rfl | rfl | rfl | rfl | rfl | rfl | rfl | rfl | rfl | rfl | rfl | rfl | rfl | rfl | rfl | rfl | rfl <;> rfl
      · exact (hY.cell (Nat.lt_of_lt_of_le hg2l hgs.size) (hout g2 (by omega))).trans ((hgs.cell hg2l hg2R).trans hc2)
      · rw [hY.cell (Nat.lt_of_lt_of_le hgl.2 hgs.size) (hout g (by omega)), hmk _ (by omega), List.getElem?_append_right (by rw [List.length_map]; omega), List.length_map, show ks.length + k - ks.length = k by omega]
        unfold marks
        rw [List.getElem?_map, List.getElem?_range hk]
        rfl⟩
  have hS0 : W2.drew.cell? ⟨pb, 0, none⟩ = some (.pointer (some ⟨db, 0, none⟩)) ∧ W2.drew.cell? ⟨ob, 6, none⟩ = some (.slice ka ks.length kc) := ⟨(hC.out _ hGw1).1, (hC.out _ hGw1).2.2.2.2.2.2.2⟩
  have hKo : Hid (∀ Y, GrS (fun z => S z ∨ T z) W1 Y → KpAt Y ka ks) := ⟨fun Y hY => (hIw1.grS hY (fun k hk e => e.elim (fun e => by have := h.two.sl k e; omega) (fun e => by have := h.two.tl k e; omega))).kp⟩
  have hap : ks = [] ∨ ∀ p, ka = some p → ¬ T p.block := hI.klo.imp id (fun q p hp e => by have := q p hp; have := h.two.tl _ e; omega)
  have hl2' := h1.two.l2
  replace hints := Hid.mk hints
  replace hap := Hid.mk hap
  obtain ⟨z0, z1, z2, z3, z4, z5, z6, z7⟩ := hC0
  have hfin : Hid (∀ w3 W4 W5 W6 S' T', PD w3 lo pb db rb l2 d S T → GrS (fun z => S z ∨ T z) w w3 → DiskAt W4 l2 S' db (restart d ks) → Dv S w3 S' W4 → RdAt W5 T' rb (restart d ks) → Dv T W4.drew T' W5 → Below W5.heap.size W5 W6 → PdP lo pb db rb l2 S T w (.returned (.bool true)) W6) := ⟨fun w3 W4 W5 W6 S' T' g0 g00 g1 g2 g3 g4 g5 => by
    obtain ⟨x1, x2, x3⟩ := g0.both g1 g2 ((Below.refl W4.heap.size W4).drew) g3 g4
    exact ⟨rfl, _, S', T', x1.later g5, (g00.trans x2).trans (.of_below g5), fun k hk => (x3 k hk).imp id (fun hq => Nat.le_trans g00.size hq)⟩⟩
  have hl2H : Hid (l2 ≤ W1.heap.size) := ⟨hl2'⟩
  clear hCd h h1 h2 h22 hRd hB hobS hobT hr1 mf mo hR2 hIw1 hIw2 hI hSl hTl hpR hoR hloR hGw hGw1 hl2'
  go_enter Tryz.func5, Tryz.ntmps5
  go_wp2_with fail
  go_region_held3 (fun Y => Y.cell? ⟨pb, 0, none⟩ = some (.pointer (some ⟨db, 0, none⟩)) ∧ Y.cell? ⟨ob, 6, none⟩ = some (.slice ka ks.length kc)) (assumption) (first | (go_at_call 32; refine hints.out.mono ?_; rintro e w3 ⟨g, g2, cap2, capN, Wm, rfl, hbm, hw3, hog, hc2, hg2⟩; obtain ⟨p3, gr3, grw, hk3, hng, hroom⟩ := hIn.out g g2 cap2 capN Wm w3 hbm hw3 hog hc2 hg2; have q3 := hC.out w3 gr3; have hS3 : w3.cell? ⟨pb, 0, none⟩ = some (.pointer (some ⟨db, 0, none⟩)) ∧ w3.cell? ⟨ob, 6, none⟩ = some (.slice ka ks.length kc) := ⟨q3.1, q3.2.2.2.2.2.2.2⟩; have hpr := restart_any2 ks (by omega) (some ⟨g, 0, none⟩) (ks.length + 40) w3 p3.two.l2 hk3 (.inr (fun p hp => by cases hp; exact hng.1)) p3.two.p; replace hroom := Hid.mk hroom; replace p3 := Hid.mk p3; replace grw := Hid.mk grw; replace gr3 := Hid.mk gr3; clear q3 hbm hw3 hog hc2 hg2 hk3 hng) | (go_at_call 31; refine hpr.mono ?_; rintro e w4 ⟨rfl, S', hd4, hv4⟩; have hg4 : GrS (fun z => S z ∨ T z) w3 w4 := hv4.gr.mono (fun _ _ h => .inl h); have hg4d := hg4.trans (GrS.of_below ((Below.refl w4.heap.size w4).drew)); have q4 := hC.out w4 (gr3.out.trans hg4); have q4d := hC.out w4.drew (gr3.out.trans hg4d); have hS4 : w4.cell? ⟨pb, 0, none⟩ = some (.pointer (some ⟨db, 0, none⟩)) ∧ w4.cell? ⟨ob, 6, none⟩ = some (.slice ka ks.length kc) := ⟨q4.1, q4.2.2.2.2.2.2.2⟩; have hS5 : w4.drew.cell? ⟨pb, 2, none⟩ = some (.pointer (some ⟨rb, 0, none⟩)) ∧ w4.drew.cell? ⟨ob, 6, none⟩ = some (.slice ka ks.length kc) := ⟨q4d.2.1, q4d.2.2.2.2.2.2.2⟩; have hrr := rrestart_any ks (by omega) ka kc w4.drew (hKo.out _ (gr3.out.trans hg4d)) hap.out (((p3.out.two.r).grS hv4.gr (fun k h3 h4 => p3.out.two.ap k h4 h3)).later ((Below.refl _ _).drew)); replace hd4 := Hid.mk hd4; replace hv4 := Hid.mk hv4; replace hg4d := Hid.mk hg4d; clear q4 q4d hg4))
  clear hS0 z0 z1 z2 z3 z4 z5 z6 z7
  go_wp2_with fail
  go_region_held3 (fun Y => Y.cell? ⟨pb, 2, none⟩ = some (.pointer (some ⟨rb, 0, none⟩)) ∧ Y.cell? ⟨ob, 6, none⟩ = some (.slice ka ks.length kc)) (assumption) ((go_at_call 33; refine hrr.mono ?_; rintro e w5 ⟨rfl, T', hd5, hv5⟩; have hg5 : GrS (fun z => S z ∨ T z) w3 w5 := hg4d.out.trans (hv5.gr.mono (fun _ _ h => .inr h)); have q5 := hC.out w5 (gr3.out.trans hg5); have hS6 : w5.cell? ⟨pb, 2, none⟩ = some (.pointer (some ⟨rb, 0, none⟩)) ∧ w5.cell? ⟨ob, 6, none⟩ = some (.slice ka ks.length kc) := ⟨q5.2.1, q5.2.2.2.2.2.2.2⟩; obtain ⟨ro1, ro2, ro3, ro4⟩ := hroom.out w5 hg5; have hho := hold_i ro1 ro2 ro3 (by omega) ro4; replace hd5 := Hid.mk hd5; replace hv5 := Hid.mk hv5; clear q5 hg5 ro1 ro2 ro3 ro4))
  go_wp2_with (go_at_call 12; refine hho.mono ?_; rintro e w6 ⟨rfl, hb6⟩; have hfn := hfin.out w3 w4 w5 w6 S' T' p3.out grw.out hd4.out hv4.out hd5.out hv5.out hb6; replace hfn := Hid.mk hfn)
  go_ret
  simpa using hfn.out
end Go.Proofs.YthbojlbgjmecoaaGreat.DJ
