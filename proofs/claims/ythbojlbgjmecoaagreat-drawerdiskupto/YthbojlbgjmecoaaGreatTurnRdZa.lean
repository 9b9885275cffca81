import Derived.Test.YthbojlbgjmecoaaGreatJoin48
import Derived.Deep.RegionHeld3
/- Sync, Trim, Remove, Arm, Fail, Crash of both disks. -/
namespace Go.Proofs.YthbojlbgjmecoaaGreat.DJ
open Go.RowKit
set_option linter.constructorNameAsVariable false

theorem dv_p {S : Nat → Prop} {l2 db : Nat} {d : Dk} {W : World} (h : DiskAt W l2 S db d) : S db := by
  obtain ⟨mb, D, fb, vv, hL⟩ := h
  exact hL.Sdb
set_option maxRecDepth 100000 in
set_option maxHeartbeats 4000000 in
theorem disk_sync {lo pb db rb l2 : Nat} {d : Dk} {S T : Nat → Prop} (o : OpD) (hk : o.kind = 2) (hB : OpB o) (w : World) (h : PD w lo pb db rb l2 d S T) : Calls Tryz.prog 5 #[.pointer (some ⟨pb, 0, none⟩), .agg o.v.toArray] w (PdP lo pb db rb l2 S T w) := by
  obtain ⟨W1, hW1⟩ : ∃ W1, w.alloc (.cells o.v.toArray 38) = W1 := ⟨_, rfl⟩
  have hB1 : Below w.heap.size w W1 := by rw [← hW1]; exact (Below.refl _ _).alloc (Nat.le_refl _) _
  have hr1 : W1.heap[w.heap.size]? = some (.cells o.v.toArray 38 (0, 0)) := by rw [← hW1]; exact heap_alloc_new _ _
  have hl1 : w.heap.size < W1.heap.size := by rw [← hW1]; simp
  have h1 := h.later hB1
  obtain ⟨ob, hob⟩ : ∃ ob, w.heap.size = ob := ⟨_, rfl⟩
  have hobS : ¬ S ob := fun e => by have := (h.two.p.low _ e).2; omega
  have hobT : ¬ T ob := fun e => by have := h.two.r.hi _ e; omega
  rw [hob] at hr1 hl1
  have hbd : Below W1.heap.size W1 W1.drew := (Below.refl _ _).drew
  have h2 := h1.later hbd
  have hC : Hid (∀ Y, GrS (fun z => S z ∨ T z) W1 Y → OpC Y pb ob db rb o) := ⟨fun Y hY => opc_of ((hY.block _ h1.lt (fun e => e.elim h.sp h.tp)).trans h1.row) ((hY.block _ hl1 (fun e => e.elim hobS hobT)).trans hr1)⟩
  have hC0 := hC.out W1 (.refl _ _)
  have hCd := hC.out W1.drew (.of_below hbd)
  obtain ⟨kd, nn, mm, sc, nm, da, dat, dc, ka, ks, kc, sm⟩ := o
  simp only at hk
  subst hk
  simp only [OpC, OpD.v] at hC hC0 hCd hW1 ⊢
  have hW1' := hW1.symm
  replace hW1' := Hid.mk hW1'
  have hp := sync_any (nm := nm) (Nat.le_trans hB.nl (by decide)) hB.nb W1.drew h2.two.p
  have hr := fun Y (hY : RdAt Y T rb d) => rsync_any (nm := nm) (Nat.le_trans hB.nl (by decide)) hB.nb Y hY
  have hk3 : (2 : Int) = 2 := rfl
  have hobl : Hid (∀ W2 S', Dv S W1.drew S' W2 → GrS (fun z => S z ∨ T z) W1 W2) := ⟨fun W2 S' hv => (GrS.of_below hbd).trans (hv.gr.mono (fun _ _ h => .inl h))⟩
  have hTT : Hid (∀ W2 S', Dv S W1.drew S' W2 → RdAt W2.drew T rb d) := ⟨fun W2 S' hv => ((h2.two.r).grS hv.gr (fun k h3 h4 => h.two.ap k h4 h3)).later ((Below.refl _ _).drew)⟩
  have hfin : Hid (∀ W2 W4 S' T', DiskAt W2 l2 S' db ((sync d nm).2) → Dv S W1.drew S' W2 → RdAt W4 T' rb ((sync d nm).2) → Dv T W2.drew T' W4 → PdP lo pb db rb l2 S T w (.returned (.bool true)) W4) := ⟨fun W2 W4 S' T' g1 g2 g3 g4 => by
    obtain ⟨x1, x2, x3⟩ := h2.both g1 g2 ((Below.refl W2.heap.size W2).drew) g3 g4
    refine ⟨rfl, _, S', T', x1, ((GrS.of_below hB1).trans (GrS.of_below hbd)).trans x2, fun k hk => (x3 k hk).imp id (fun hq => ?_)⟩
    have := hB1.size
    have := hbd.size
    omega⟩
  have hS0 : W1.drew.cell? ⟨pb, 0, none⟩ = some (.pointer (some ⟨db, 0, none⟩)) ∧ W1.drew.cell? ⟨ob, 4, none⟩ = some (.string (strB nm)) := by obtain ⟨u0, -, -, -, -, u1, -, -⟩ := hCd; exact ⟨u0, u1⟩
  replace hr := Hid.mk hr
  obtain ⟨z0, z1, z2, z3, z4, z5, z6, z7⟩ := hC0
  clear hCd h h1 h2 hB hobS hobT hr1
  go_enter Tryz.func5, Tryz.ntmps5
  go_wp2_with fail
  go_region_held3 (fun Y => Y.cell? ⟨pb, 0, none⟩ = some (.pointer (some ⟨db, 0, none⟩)) ∧ Y.cell? ⟨ob, 4, none⟩ = some (.string (strB nm))) (assumption) ((go_at_call 17; refine hp.mono ?_; rintro e w2 ⟨rfl, S', hd2, hv2⟩; have q2 := hC.out w2 (hobl.out w2 S' hv2); have q2d := hC.out w2.drew ((hobl.out w2 S' hv2).trans (GrS.of_below ((Below.refl _ _).drew))); have hr2 := hr.out w2.drew (hTT.out w2 S' hv2); have hS2 : w2.cell? ⟨pb, 0, none⟩ = some (.pointer (some ⟨db, 0, none⟩)) ∧ w2.cell? ⟨ob, 4, none⟩ = some (.string (strB nm)) := (by obtain ⟨u0, -, -, -, -, u1, -, -⟩ := q2; exact ⟨u0, u1⟩); have hS3 : w2.drew.cell? ⟨pb, 2, none⟩ = some (.pointer (some ⟨rb, 0, none⟩)) ∧ w2.drew.cell? ⟨ob, 4, none⟩ = some (.string (strB nm)) := (by obtain ⟨-, u0, -, -, -, u1, -, -⟩ := q2d; exact ⟨u0, u1⟩); replace hd2 := Hid.mk hd2; replace hv2 := Hid.mk hv2; clear q2d))
  clear hS0 z0 z1 z2 z3 z4 z5 z6 z7
  go_wp2_with fail
  go_region_held3 (fun Y => Y.cell? ⟨pb, 2, none⟩ = some (.pointer (some ⟨rb, 0, none⟩)) ∧ Y.cell? ⟨ob, 4, none⟩ = some (.string (strB nm))) (assumption) ((go_at_call 18; refine hr2.mono ?_; rintro e w4 ⟨rfl, T', hd4, hv4⟩; have q4 := hC.out w4 ((hobl.out w2 S' hv2.out).trans ((GrS.of_below ((Below.refl _ _).drew)).trans (hv4.gr.mono (fun _ _ h => .inr h)))); have hS4 : w4.cell? ⟨pb, 2, none⟩ = some (.pointer (some ⟨rb, 0, none⟩)) ∧ w4.cell? ⟨ob, 4, none⟩ = some (.string (strB nm)) := (by obtain ⟨-, u0, -, -, -, u1, -, -⟩ := q4; exact ⟨u0, u1⟩); have hfn := hfin.out w2 w4 S' T' hd2.out hv2.out hd4 hv4; replace hfn := Hid.mk hfn; replace hd4 := Hid.mk hd4; replace hv4 := Hid.mk hv4))
  go_wp2
  go_ret
  simpa using hfn.out
set_option maxRecDepth 100000 in
set_option maxHeartbeats 4000000 in
theorem disk_trim {lo pb db rb l2 : Nat} {d : Dk} {S T : Nat → Prop} (o : OpD) (hk : o.kind = 3) (hB : OpB o) (w : World) (h : PD w lo pb db rb l2 d S T) : Calls Tryz.prog 5 #[.pointer (some ⟨pb, 0, none⟩), .agg o.v.toArray] w (PdP lo pb db rb l2 S T w) := by
  obtain ⟨W1, hW1⟩ : ∃ W1, w.alloc (.cells o.v.toArray 38) = W1 := ⟨_, rfl⟩
  have hB1 : Below w.heap.size w W1 := by rw [← hW1]; exact (Below.refl _ _).alloc (Nat.le_refl _) _
  have hr1 : W1.heap[w.heap.size]? = some (.cells o.v.toArray 38 (0, 0)) := by rw [← hW1]; exact heap_alloc_new _ _
  have hl1 : w.heap.size < W1.heap.size := by rw [← hW1]; simp
  have h1 := h.later hB1
  obtain ⟨ob, hob⟩ : ∃ ob, w.heap.size = ob := ⟨_, rfl⟩
  have hobS : ¬ S ob := fun e => by have := (h.two.p.low _ e).2; omega
  have hobT : ¬ T ob := fun e => by have := h.two.r.hi _ e; omega
  rw [hob] at hr1 hl1
  have hbd : Below W1.heap.size W1 W1.drew := (Below.refl _ _).drew
  have h2 := h1.later hbd
  have hC : Hid (∀ Y, GrS (fun z => S z ∨ T z) W1 Y → OpC Y pb ob db rb o) := ⟨fun Y hY => opc_of ((hY.block _ h1.lt (fun e => e.elim h.sp h.tp)).trans h1.row) ((hY.block _ hl1 (fun e => e.elim hobS hobT)).trans hr1)⟩
  have hC0 := hC.out W1 (.refl _ _)
  have hCd := hC.out W1.drew (.of_below hbd)
  obtain ⟨kd, nn, mm, sc, nm, da, dat, dc, ka, ks, kc, sm⟩ := o
  simp only at hk
  subst hk
  simp only [OpC, OpD.v] at hC hC0 hCd hW1 ⊢
  have hW1' := hW1.symm
  replace hW1' := Hid.mk hW1'
  have hp := trim_any (nm := nm) (n := nn) hB.n1 hB.n0 (Nat.le_trans hB.nl (by decide)) hB.nb W1.drew h2.two.l2 h2.two.p
  have hr := fun Y (hY : RdAt Y T rb d) => rtrim_any (nm := nm) (size := nn) (Nat.le_trans hB.nl (by decide)) hB.nb Y hY
  have hk3 : (3 : Int) = 3 := rfl
  have hobl : Hid (∀ W2 S', Dv S W1.drew S' W2 → GrS (fun z => S z ∨ T z) W1 W2) := ⟨fun W2 S' hv => (GrS.of_below hbd).trans (hv.gr.mono (fun _ _ h => .inl h))⟩
  have hTT : Hid (∀ W2 S', Dv S W1.drew S' W2 → RdAt W2.drew T rb d) := ⟨fun W2 S' hv => ((h2.two.r).grS hv.gr (fun k h3 h4 => h.two.ap k h4 h3)).later ((Below.refl _ _).drew)⟩
  have hfin : Hid (∀ W2 W4 S' T', DiskAt W2 l2 S' db ((trim d nm nn).2) → Dv S W1.drew S' W2 → RdAt W4 T' rb ((trim d nm nn).2) → Dv T W2.drew T' W4 → PdP lo pb db rb l2 S T w (.returned (.bool true)) W4) := ⟨fun W2 W4 S' T' g1 g2 g3 g4 => by
    obtain ⟨x1, x2, x3⟩ := h2.both g1 g2 ((Below.refl W2.heap.size W2).drew) g3 g4
    refine ⟨rfl, _, S', T', x1, ((GrS.of_below hB1).trans (GrS.of_below hbd)).trans x2, fun k hk => (x3 k hk).imp id (fun hq => ?_)⟩
    have := hB1.size
    have := hbd.size
    omega⟩
  have hS0 : W1.drew.cell? ⟨pb, 0, none⟩ = some (.pointer (some ⟨db, 0, none⟩)) ∧ W1.drew.cell? ⟨ob, 4, none⟩ = some (.string (strB nm)) ∧ W1.drew.cell? ⟨ob, 1, none⟩ = some (.int .i64 nn) := by obtain ⟨u0, -, -, u2, -, u1, -, -⟩ := hCd; exact ⟨u0, u1, u2⟩
  replace hr := Hid.mk hr
  obtain ⟨z0, z1, z2, z3, z4, z5, z6, z7⟩ := hC0
  clear hCd h h1 h2 hB hobS hobT hr1
  go_enter Tryz.func5, Tryz.ntmps5
  go_wp2_with fail
  go_region_held3 (fun Y => Y.cell? ⟨pb, 0, none⟩ = some (.pointer (some ⟨db, 0, none⟩)) ∧ Y.cell? ⟨ob, 4, none⟩ = some (.string (strB nm)) ∧ Y.cell? ⟨ob, 1, none⟩ = some (.int .i64 nn)) (assumption) ((go_at_call 19; refine hp.mono ?_; rintro e w2 ⟨rfl, S', hd2, hv2⟩; have q2 := hC.out w2 (hobl.out w2 S' hv2); have q2d := hC.out w2.drew ((hobl.out w2 S' hv2).trans (GrS.of_below ((Below.refl _ _).drew))); have hr2 := hr.out w2.drew (hTT.out w2 S' hv2); have hS2 : w2.cell? ⟨pb, 0, none⟩ = some (.pointer (some ⟨db, 0, none⟩)) ∧ w2.cell? ⟨ob, 4, none⟩ = some (.string (strB nm)) ∧ w2.cell? ⟨ob, 1, none⟩ = some (.int .i64 nn) := (by obtain ⟨u0, -, -, u2, -, u1, -, -⟩ := q2; exact ⟨u0, u1, u2⟩); have hS3 : w2.drew.cell? ⟨pb, 2, none⟩ = some (.pointer (some ⟨rb, 0, none⟩)) ∧ w2.drew.cell? ⟨ob, 4, none⟩ = some (.string (strB nm)) ∧ w2.drew.cell? ⟨ob, 1, none⟩ = some (.int .i64 nn) := (by obtain ⟨-, u0, -, u2, -, u1, -, -⟩ := q2d; exact ⟨u0, u1, u2⟩); replace hd2 := Hid.mk hd2; replace hv2 := Hid.mk hv2; clear q2d))
  clear hS0 z0 z1 z2 z3 z4 z5 z6 z7
  go_wp2_with fail
  go_region_held3 (fun Y => Y.cell? ⟨pb, 2, none⟩ = some (.pointer (some ⟨rb, 0, none⟩)) ∧ Y.cell? ⟨ob, 4, none⟩ = some (.string (strB nm)) ∧ Y.cell? ⟨ob, 1, none⟩ = some (.int .i64 nn)) (assumption) ((go_at_call 20; refine hr2.mono ?_; rintro e w4 ⟨rfl, T', hd4, hv4⟩; have q4 := hC.out w4 ((hobl.out w2 S' hv2.out).trans ((GrS.of_below ((Below.refl _ _).drew)).trans (hv4.gr.mono (fun _ _ h => .inr h)))); have hS4 : w4.cell? ⟨pb, 2, none⟩ = some (.pointer (some ⟨rb, 0, none⟩)) ∧ w4.cell? ⟨ob, 4, none⟩ = some (.string (strB nm)) ∧ w4.cell? ⟨ob, 1, none⟩ = some (.int .i64 nn) := (by obtain ⟨-, u0, -, u2, -, u1, -, -⟩ := q4; exact ⟨u0, u1, u2⟩); have hfn := hfin.out w2 w4 S' T' hd2.out hv2.out hd4 hv4; replace hfn := Hid.mk hfn; replace hd4 := Hid.mk hd4; replace hv4 := Hid.mk hv4))
  go_wp2
  go_ret
  simpa using hfn.out
set_option maxRecDepth 100000 in
set_option maxHeartbeats 4000000 in
theorem disk_remove {lo pb db rb l2 : Nat} {d : Dk} {S T : Nat → Prop} (o : OpD) (hk : o.kind = 4) (hB : OpB o) (w : World) (h : PD w lo pb db rb l2 d S T) : Calls Tryz.prog 5 #[.pointer (some ⟨pb, 0, none⟩), .agg o.v.toArray] w (PdP lo pb db rb l2 S T w) := by
  obtain ⟨W1, hW1⟩ : ∃ W1, w.alloc (.cells o.v.toArray 38) = W1 := ⟨_, rfl⟩
  have hB1 : Below w.heap.size w W1 := by rw [← hW1]; exact (Below.refl _ _).alloc (Nat.le_refl _) _
  have hr1 : W1.heap[w.heap.size]? = some (.cells o.v.toArray 38 (0, 0)) := by rw [← hW1]; exact heap_alloc_new _ _
  have hl1 : w.heap.size < W1.heap.size := by rw [← hW1]; simp
  have h1 := h.later hB1
  obtain ⟨ob, hob⟩ : ∃ ob, w.heap.size = ob := ⟨_, rfl⟩
  have hobS : ¬ S ob := fun e => by have := (h.two.p.low _ e).2; omega
  have hobT : ¬ T ob := fun e => by have := h.two.r.hi _ e; omega
  rw [hob] at hr1 hl1
  have hbd : Below W1.heap.size W1 W1.drew := (Below.refl _ _).drew
  have h2 := h1.later hbd
  have hC : Hid (∀ Y, GrS (fun z => S z ∨ T z) W1 Y → OpC Y pb ob db rb o) := ⟨fun Y hY => opc_of ((hY.block _ h1.lt (fun e => e.elim h.sp h.tp)).trans h1.row) ((hY.block _ hl1 (fun e => e.elim hobS hobT)).trans hr1)⟩
  have hC0 := hC.out W1 (.refl _ _)
  have hCd := hC.out W1.drew (.of_below hbd)
  obtain ⟨kd, nn, mm, sc, nm, da, dat, dc, ka, ks, kc, sm⟩ := o
  simp only at hk
  subst hk
  simp only [OpC, OpD.v] at hC hC0 hCd hW1 ⊢
  have hW1' := hW1.symm
  replace hW1' := Hid.mk hW1'
  have hp := remove_any (nm := nm) (Nat.le_trans hB.nl (by decide)) hB.nb W1.drew h2.two.p
  have hr := fun Y (hY : RdAt Y T rb d) => rremove_any (nm := nm) (Nat.le_trans hB.nl (by decide)) hB.nb Y hY
  have hk3 : (4 : Int) = 4 := rfl
  have hobl : Hid (∀ W2 S', Dv S W1.drew S' W2 → GrS (fun z => S z ∨ T z) W1 W2) := ⟨fun W2 S' hv => (GrS.of_below hbd).trans (hv.gr.mono (fun _ _ h => .inl h))⟩
  have hTT : Hid (∀ W2 S', Dv S W1.drew S' W2 → RdAt W2.drew T rb d) := ⟨fun W2 S' hv => ((h2.two.r).grS hv.gr (fun k h3 h4 => h.two.ap k h4 h3)).later ((Below.refl _ _).drew)⟩
  have hfin : Hid (∀ W2 W4 S' T', DiskAt W2 l2 S' db ((remove d nm).2) → Dv S W1.drew S' W2 → RdAt W4 T' rb ((remove d nm).2) → Dv T W2.drew T' W4 → PdP lo pb db rb l2 S T w (.returned (.bool true)) W4) := ⟨fun W2 W4 S' T' g1 g2 g3 g4 => by
    obtain ⟨x1, x2, x3⟩ := h2.both g1 g2 ((Below.refl W2.heap.size W2).drew) g3 g4
    refine ⟨rfl, _, S', T', x1, ((GrS.of_below hB1).trans (GrS.of_below hbd)).trans x2, fun k hk => (x3 k hk).imp id (fun hq => ?_)⟩
    have := hB1.size
    have := hbd.size
    omega⟩
  have hS0 : W1.drew.cell? ⟨pb, 0, none⟩ = some (.pointer (some ⟨db, 0, none⟩)) ∧ W1.drew.cell? ⟨ob, 4, none⟩ = some (.string (strB nm)) := by obtain ⟨u0, -, -, -, -, u1, -, -⟩ := hCd; exact ⟨u0, u1⟩
  replace hr := Hid.mk hr
  obtain ⟨z0, z1, z2, z3, z4, z5, z6, z7⟩ := hC0
  clear hCd h h1 h2 hB hobS hobT hr1
  go_enter Tryz.func5, Tryz.ntmps5
  go_wp2_with fail
  go_region_held3 (fun Y => Y.cell? ⟨pb, 0, none⟩ = some (.pointer (some ⟨db, 0, none⟩)) ∧ Y.cell? ⟨ob, 4, none⟩ = some (.string (strB nm))) (assumption) ((go_at_call 21; refine hp.mono ?_; rintro e w2 ⟨rfl, S', hd2, hv2⟩; have q2 := hC.out w2 (hobl.out w2 S' hv2); have q2d := hC.out w2.drew ((hobl.out w2 S' hv2).trans (GrS.of_below ((Below.refl _ _).drew))); have hr2 := hr.out w2.drew (hTT.out w2 S' hv2); have hS2 : w2.cell? ⟨pb, 0, none⟩ = some (.pointer (some ⟨db, 0, none⟩)) ∧ w2.cell? ⟨ob, 4, none⟩ = some (.string (strB nm)) := (by obtain ⟨u0, -, -, -, -, u1, -, -⟩ := q2; exact ⟨u0, u1⟩); have hS3 : w2.drew.cell? ⟨pb, 2, none⟩ = some (.pointer (some ⟨rb, 0, none⟩)) ∧ w2.drew.cell? ⟨ob, 4, none⟩ = some (.string (strB nm)) := (by obtain ⟨-, u0, -, -, -, u1, -, -⟩ := q2d; exact ⟨u0, u1⟩); replace hd2 := Hid.mk hd2; replace hv2 := Hid.mk hv2; clear q2d))
  clear hS0 z0 z1 z2 z3 z4 z5 z6 z7
  go_wp2_with fail
  go_region_held3 (fun Y => Y.cell? ⟨pb, 2, none⟩ = some (.pointer (some ⟨rb, 0, none⟩)) ∧ Y.cell? ⟨ob, 4, none⟩ = some (.string (strB nm))) (assumption) ((go_at_call 22; refine hr2.mono ?_; rintro e w4 ⟨rfl, T', hd4, hv4⟩; have q4 := hC.out w4 ((hobl.out w2 S' hv2.out).trans ((GrS.of_below ((Below.refl _ _).drew)).trans (hv4.gr.mono (fun _ _ h => .inr h)))); have hS4 : w4.cell? ⟨pb, 2, none⟩ = some (.pointer (some ⟨rb, 0, none⟩)) ∧ w4.cell? ⟨ob, 4, none⟩ = some (.string (strB nm)) := (by obtain ⟨-, u0, -, -, -, u1, -, -⟩ := q4; exact ⟨u0, u1⟩); have hfn := hfin.out w2 w4 S' T' hd2.out hv2.out hd4 hv4; replace hfn := Hid.mk hfn; replace hd4 := Hid.mk hd4; replace hv4 := Hid.mk hv4))
  go_wp2
  go_ret
  simpa using hfn.out
set_option maxRecDepth 100000 in
set_option maxHeartbeats 4000000 in
theorem disk_arm {lo pb db rb l2 : Nat} {d : Dk} {S T : Nat → Prop} (o : OpD) (hk : o.kind = 6) (hB : OpB o) (w : World) (h : PD w lo pb db rb l2 d S T) : Calls Tryz.prog 5 #[.pointer (some ⟨pb, 0, none⟩), .agg o.v.toArray] w (PdP lo pb db rb l2 S T w) := by
  obtain ⟨W1, hW1⟩ : ∃ W1, w.alloc (.cells o.v.toArray 38) = W1 := ⟨_, rfl⟩
  have hB1 : Below w.heap.size w W1 := by rw [← hW1]; exact (Below.refl _ _).alloc (Nat.le_refl _) _
  have hr1 : W1.heap[w.heap.size]? = some (.cells o.v.toArray 38 (0, 0)) := by rw [← hW1]; exact heap_alloc_new _ _
  have hl1 : w.heap.size < W1.heap.size := by rw [← hW1]; simp
  have h1 := h.later hB1
  obtain ⟨ob, hob⟩ : ∃ ob, w.heap.size = ob := ⟨_, rfl⟩
  have hobS : ¬ S ob := fun e => by have := (h.two.p.low _ e).2; omega
  have hobT : ¬ T ob := fun e => by have := h.two.r.hi _ e; omega
  rw [hob] at hr1 hl1
  have hbd : Below W1.heap.size W1 W1.drew := (Below.refl _ _).drew
  have h2 := h1.later hbd
  have hC : Hid (∀ Y, GrS (fun z => S z ∨ T z) W1 Y → OpC Y pb ob db rb o) := ⟨fun Y hY => opc_of ((hY.block _ h1.lt (fun e => e.elim h.sp h.tp)).trans h1.row) ((hY.block _ hl1 (fun e => e.elim hobS hobT)).trans hr1)⟩
  have hC0 := hC.out W1 (.refl _ _)
  have hCd := hC.out W1.drew (.of_below hbd)
  obtain ⟨kd, nn, mm, sc, nm, da, dat, dc, ka, ks, kc, sm⟩ := o
  simp only at hk
  subst hk
  simp only [OpC, OpD.v] at hC hC0 hCd hW1 ⊢
  have hW1' := hW1.symm
  replace hW1' := Hid.mk hW1'
  have hp := (arm_any (u := nn) hB.n1 hB.n0 W1.drew h2.two.p).mono (fun e w' hh => (⟨hh.1, S, hh.2.1, Dv.one hh.2.2 (dv_p h2.two.p)⟩ : e = .returned (.tuple #[]) ∧ ∃ S', DiskAt w' l2 S' db (arm d nn) ∧ Dv S W1.drew S' w'))
  have hr := fun Y (hY : RdAt Y T rb d) => (rarm_any (u := nn) hB.n1 hB.n0 Y hY).mono (fun e w' hh => (⟨hh.1, T, hh.2.1, Dv.one hh.2.2 hY.Trb⟩ : e = .returned (.tuple #[]) ∧ ∃ T', RdAt w' T' rb (arm d nn) ∧ Dv T Y T' w'))
  have hk3 : (6 : Int) = 6 := rfl
  have hobl : Hid (∀ W2 S', Dv S W1.drew S' W2 → GrS (fun z => S z ∨ T z) W1 W2) := ⟨fun W2 S' hv => (GrS.of_below hbd).trans (hv.gr.mono (fun _ _ h => .inl h))⟩
  have hTT : Hid (∀ W2 S', Dv S W1.drew S' W2 → RdAt W2.drew T rb d) := ⟨fun W2 S' hv => ((h2.two.r).grS hv.gr (fun k h3 h4 => h.two.ap k h4 h3)).later ((Below.refl _ _).drew)⟩
  have hfin : Hid (∀ W2 W4 S' T', DiskAt W2 l2 S' db (arm d nn) → Dv S W1.drew S' W2 → RdAt W4 T' rb (arm d nn) → Dv T W2.drew T' W4 → PdP lo pb db rb l2 S T w (.returned (.bool true)) W4) := ⟨fun W2 W4 S' T' g1 g2 g3 g4 => by
    obtain ⟨x1, x2, x3⟩ := h2.both g1 g2 ((Below.refl W2.heap.size W2).drew) g3 g4
    refine ⟨rfl, _, S', T', x1, ((GrS.of_below hB1).trans (GrS.of_below hbd)).trans x2, fun k hk => (x3 k hk).imp id (fun hq => ?_)⟩
    have := hB1.size
    have := hbd.size
    omega⟩
  have hS0 : W1.drew.cell? ⟨pb, 0, none⟩ = some (.pointer (some ⟨db, 0, none⟩)) ∧ W1.drew.cell? ⟨ob, 1, none⟩ = some (.int .i64 nn) := by obtain ⟨u0, -, -, u1, -, -, -, -⟩ := hCd; exact ⟨u0, u1⟩
  replace hr := Hid.mk hr
  obtain ⟨z0, z1, z2, z3, z4, z5, z6, z7⟩ := hC0
  clear hCd h h1 h2 hB hobS hobT hr1
  go_enter Tryz.func5, Tryz.ntmps5
  go_wp2_with fail
  go_region_held3 (fun Y => Y.cell? ⟨pb, 0, none⟩ = some (.pointer (some ⟨db, 0, none⟩)) ∧ Y.cell? ⟨ob, 1, none⟩ = some (.int .i64 nn)) (assumption) ((go_at_call 25; refine hp.mono ?_; rintro e w2 ⟨rfl, S', hd2, hv2⟩; have q2 := hC.out w2 (hobl.out w2 S' hv2); have q2d := hC.out w2.drew ((hobl.out w2 S' hv2).trans (GrS.of_below ((Below.refl _ _).drew))); have hr2 := hr.out w2.drew (hTT.out w2 S' hv2); have hS2 : w2.cell? ⟨pb, 0, none⟩ = some (.pointer (some ⟨db, 0, none⟩)) ∧ w2.cell? ⟨ob, 1, none⟩ = some (.int .i64 nn) := (by obtain ⟨u0, -, -, u1, -, -, -, -⟩ := q2; exact ⟨u0, u1⟩); have hS3 : w2.drew.cell? ⟨pb, 2, none⟩ = some (.pointer (some ⟨rb, 0, none⟩)) ∧ w2.drew.cell? ⟨ob, 1, none⟩ = some (.int .i64 nn) := (by obtain ⟨-, u0, -, u1, -, -, -, -⟩ := q2d; exact ⟨u0, u1⟩); replace hd2 := Hid.mk hd2; replace hv2 := Hid.mk hv2; clear q2d))
  clear hS0 z0 z1 z2 z3 z4 z5 z6 z7
  go_wp2_with fail
  go_region_held3 (fun Y => Y.cell? ⟨pb, 2, none⟩ = some (.pointer (some ⟨rb, 0, none⟩)) ∧ Y.cell? ⟨ob, 1, none⟩ = some (.int .i64 nn)) (assumption) ((go_at_call 26; refine hr2.mono ?_; rintro e w4 ⟨rfl, T', hd4, hv4⟩; have q4 := hC.out w4 ((hobl.out w2 S' hv2.out).trans ((GrS.of_below ((Below.refl _ _).drew)).trans (hv4.gr.mono (fun _ _ h => .inr h)))); have hS4 : w4.cell? ⟨pb, 2, none⟩ = some (.pointer (some ⟨rb, 0, none⟩)) ∧ w4.cell? ⟨ob, 1, none⟩ = some (.int .i64 nn) := (by obtain ⟨-, u0, -, u1, -, -, -, -⟩ := q4; exact ⟨u0, u1⟩); have hfn := hfin.out w2 w4 S' T' hd2.out hv2.out hd4 hv4; replace hfn := Hid.mk hfn; replace hd4 := Hid.mk hd4; replace hv4 := Hid.mk hv4))
  go_wp2
  go_ret
  simpa using hfn.out
set_option maxRecDepth 100000 in
set_option maxHeartbeats 4000000 in
theorem disk_fail {lo pb db rb l2 : Nat} {d : Dk} {S T : Nat → Prop} (o : OpD) (hk : o.kind = 7) (hB : OpB o) (w : World) (h : PD w lo pb db rb l2 d S T) : Calls Tryz.prog 5 #[.pointer (some ⟨pb, 0, none⟩), .agg o.v.toArray] w (PdP lo pb db rb l2 S T w) := by
  obtain ⟨W1, hW1⟩ : ∃ W1, w.alloc (.cells o.v.toArray 38) = W1 := ⟨_, rfl⟩
  have hB1 : Below w.heap.size w W1 := by rw [← hW1]; exact (Below.refl _ _).alloc (Nat.le_refl _) _
  have hr1 : W1.heap[w.heap.size]? = some (.cells o.v.toArray 38 (0, 0)) := by rw [← hW1]; exact heap_alloc_new _ _
  have hl1 : w.heap.size < W1.heap.size := by rw [← hW1]; simp
  have h1 := h.later hB1
  obtain ⟨ob, hob⟩ : ∃ ob, w.heap.size = ob := ⟨_, rfl⟩
  have hobS : ¬ S ob := fun e => by have := (h.two.p.low _ e).2; omega
  have hobT : ¬ T ob := fun e => by have := h.two.r.hi _ e; omega
  rw [hob] at hr1 hl1
  have hbd : Below W1.heap.size W1 W1.drew := (Below.refl _ _).drew
  have h2 := h1.later hbd
  have hC : Hid (∀ Y, GrS (fun z => S z ∨ T z) W1 Y → OpC Y pb ob db rb o) := ⟨fun Y hY => opc_of ((hY.block _ h1.lt (fun e => e.elim h.sp h.tp)).trans h1.row) ((hY.block _ hl1 (fun e => e.elim hobS hobT)).trans hr1)⟩
  have hC0 := hC.out W1 (.refl _ _)
  have hCd := hC.out W1.drew (.of_below hbd)
  obtain ⟨kd, nn, mm, sc, nm, da, dat, dc, ka, ks, kc, sm⟩ := o
  simp only at hk
  subst hk
  simp only [OpC, OpD.v] at hC hC0 hCd hW1 ⊢
  have hW1' := hW1.symm
  replace hW1' := Hid.mk hW1'
  have hp := (fail_any (a := nn) (c := mm) hB.n1 hB.n0 hB.m1 hB.m0 W1.drew h2.two.p).mono (fun e w' hh => (⟨hh.1, S, hh.2.1, Dv.one hh.2.2 (dv_p h2.two.p)⟩ : e = .returned (.tuple #[]) ∧ ∃ S', DiskAt w' l2 S' db (fail d nn mm) ∧ Dv S W1.drew S' w'))
  have hr := fun Y (hY : RdAt Y T rb d) => (rfail_any (a := nn) (c := mm) hB.n1 hB.n0 hB.m1 hB.m0 Y hY).mono (fun e w' hh => (⟨hh.1, T, hh.2.1, Dv.one hh.2.2 hY.Trb⟩ : e = .returned (.tuple #[]) ∧ ∃ T', RdAt w' T' rb (fail d nn mm) ∧ Dv T Y T' w'))
  have hk3 : (7 : Int) = 7 := rfl
  have hobl : Hid (∀ W2 S', Dv S W1.drew S' W2 → GrS (fun z => S z ∨ T z) W1 W2) := ⟨fun W2 S' hv => (GrS.of_below hbd).trans (hv.gr.mono (fun _ _ h => .inl h))⟩
  have hTT : Hid (∀ W2 S', Dv S W1.drew S' W2 → RdAt W2.drew T rb d) := ⟨fun W2 S' hv => ((h2.two.r).grS hv.gr (fun k h3 h4 => h.two.ap k h4 h3)).later ((Below.refl _ _).drew)⟩
  have hfin : Hid (∀ W2 W4 S' T', DiskAt W2 l2 S' db (fail d nn mm) → Dv S W1.drew S' W2 → RdAt W4 T' rb (fail d nn mm) → Dv T W2.drew T' W4 → PdP lo pb db rb l2 S T w (.returned (.bool true)) W4) := ⟨fun W2 W4 S' T' g1 g2 g3 g4 => by
    obtain ⟨x1, x2, x3⟩ := h2.both g1 g2 ((Below.refl W2.heap.size W2).drew) g3 g4
    refine ⟨rfl, _, S', T', x1, ((GrS.of_below hB1).trans (GrS.of_below hbd)).trans x2, fun k hk => (x3 k hk).imp id (fun hq => ?_)⟩
    have := hB1.size
    have := hbd.size
    omega⟩
  have hS0 : W1.drew.cell? ⟨pb, 0, none⟩ = some (.pointer (some ⟨db, 0, none⟩)) ∧ W1.drew.cell? ⟨ob, 1, none⟩ = some (.int .i64 nn) ∧ W1.drew.cell? ⟨ob, 2, none⟩ = some (.int .i64 mm) := by obtain ⟨u0, -, -, u1, u2, -, -, -⟩ := hCd; exact ⟨u0, u1, u2⟩
  replace hr := Hid.mk hr
  obtain ⟨z0, z1, z2, z3, z4, z5, z6, z7⟩ := hC0
  clear hCd h h1 h2 hB hobS hobT hr1
  go_enter Tryz.func5, Tryz.ntmps5
  go_wp2_with fail
  go_region_held3 (fun Y => Y.cell? ⟨pb, 0, none⟩ = some (.pointer (some ⟨db, 0, none⟩)) ∧ Y.cell? ⟨ob, 1, none⟩ = some (.int .i64 nn) ∧ Y.cell? ⟨ob, 2, none⟩ = some (.int .i64 mm)) (assumption) ((go_at_call 27; refine hp.mono ?_; rintro e w2 ⟨rfl, S', hd2, hv2⟩; have q2 := hC.out w2 (hobl.out w2 S' hv2); have q2d := hC.out w2.drew ((hobl.out w2 S' hv2).trans (GrS.of_below ((Below.refl _ _).drew))); have hr2 := hr.out w2.drew (hTT.out w2 S' hv2); have hS2 : w2.cell? ⟨pb, 0, none⟩ = some (.pointer (some ⟨db, 0, none⟩)) ∧ w2.cell? ⟨ob, 1, none⟩ = some (.int .i64 nn) ∧ w2.cell? ⟨ob, 2, none⟩ = some (.int .i64 mm) := (by obtain ⟨u0, -, -, u1, u2, -, -, -⟩ := q2; exact ⟨u0, u1, u2⟩); have hS3 : w2.drew.cell? ⟨pb, 2, none⟩ = some (.pointer (some ⟨rb, 0, none⟩)) ∧ w2.drew.cell? ⟨ob, 1, none⟩ = some (.int .i64 nn) ∧ w2.drew.cell? ⟨ob, 2, none⟩ = some (.int .i64 mm) := (by obtain ⟨-, u0, -, u1, u2, -, -, -⟩ := q2d; exact ⟨u0, u1, u2⟩); replace hd2 := Hid.mk hd2; replace hv2 := Hid.mk hv2; clear q2d))
  clear hS0 z0 z1 z2 z3 z4 z5 z6 z7
  go_wp2_with fail
  go_region_held3 (fun Y => Y.cell? ⟨pb, 2, none⟩ = some (.pointer (some ⟨rb, 0, none⟩)) ∧ Y.cell? ⟨ob, 1, none⟩ = some (.int .i64 nn) ∧ Y.cell? ⟨ob, 2, none⟩ = some (.int .i64 mm)) (assumption) ((go_at_call 28; refine hr2.mono ?_; rintro e w4 ⟨rfl, T', hd4, hv4⟩; have q4 := hC.out w4 ((hobl.out w2 S' hv2.out).trans ((GrS.of_below ((Below.refl _ _).drew)).trans (hv4.gr.mono (fun _ _ h => .inr h)))); have hS4 : w4.cell? ⟨pb, 2, none⟩ = some (.pointer (some ⟨rb, 0, none⟩)) ∧ w4.cell? ⟨ob, 1, none⟩ = some (.int .i64 nn) ∧ w4.cell? ⟨ob, 2, none⟩ = some (.int .i64 mm) := (by obtain ⟨-, u0, -, u1, u2, -, -, -⟩ := q4; exact ⟨u0, u1, u2⟩); have hfn := hfin.out w2 w4 S' T' hd2.out hv2.out hd4 hv4; replace hfn := Hid.mk hfn; replace hd4 := Hid.mk hd4; replace hv4 := Hid.mk hv4))
  go_wp2
  go_ret
  simpa using hfn.out
set_option maxRecDepth 100000 in
set_option maxHeartbeats 4000000 in
theorem disk_crash {lo pb db rb l2 : Nat} {d : Dk} {S T : Nat → Prop} (o : OpD) (hk : o.kind = 8) (hB : OpB o) (w : World) (h : PD w lo pb db rb l2 d S T) : Calls Tryz.prog 5 #[.pointer (some ⟨pb, 0, none⟩), .agg o.v.toArray] w (PdP lo pb db rb l2 S T w) := by
  obtain ⟨W1, hW1⟩ : ∃ W1, w.alloc (.cells o.v.toArray 38) = W1 := ⟨_, rfl⟩
  have hB1 : Below w.heap.size w W1 := by rw [← hW1]; exact (Below.refl _ _).alloc (Nat.le_refl _) _
  have hr1 : W1.heap[w.heap.size]? = some (.cells o.v.toArray 38 (0, 0)) := by rw [← hW1]; exact heap_alloc_new _ _
  have hl1 : w.heap.size < W1.heap.size := by rw [← hW1]; simp
  have h1 := h.later hB1
  obtain ⟨ob, hob⟩ : ∃ ob, w.heap.size = ob := ⟨_, rfl⟩
  have hobS : ¬ S ob := fun e => by have := (h.two.p.low _ e).2; omega
  have hobT : ¬ T ob := fun e => by have := h.two.r.hi _ e; omega
  rw [hob] at hr1 hl1
  have hbd : Below W1.heap.size W1 W1 := Below.refl _ _
  have h2 := h1.later hbd
  have hC : Hid (∀ Y, GrS (fun z => S z ∨ T z) W1 Y → OpC Y pb ob db rb o) := ⟨fun Y hY => opc_of ((hY.block _ h1.lt (fun e => e.elim h.sp h.tp)).trans h1.row) ((hY.block _ hl1 (fun e => e.elim hobS hobT)).trans hr1)⟩
  have hC0 := hC.out W1 (.refl _ _)
  have hCd := hC.out W1 (.of_below hbd)
  obtain ⟨kd, nn, mm, sc, nm, da, dat, dc, ka, ks, kc, sm⟩ := o
  simp only at hk
  subst hk
  simp only [OpC, OpD.v] at hC hC0 hCd hW1 ⊢
  have hW1' := hW1.symm
  replace hW1' := Hid.mk hW1'
  have hp := (crash_any W1 h2.two.p).mono (fun e w' hh => (⟨hh.1, S, hh.2.1, Dv.one hh.2.2 (dv_p h2.two.p)⟩ : e = .returned (.tuple #[]) ∧ ∃ S', DiskAt w' l2 S' db (falls d) ∧ Dv S W1 S' w'))
  have hr := fun Y (hY : RdAt Y T rb d) => (rcrash_any Y hY).mono (fun e w' hh => (⟨hh.1, T, hh.2.1, Dv.one hh.2.2 hY.Trb⟩ : e = .returned (.tuple #[]) ∧ ∃ T', RdAt w' T' rb (falls d) ∧ Dv T Y T' w'))
  have hobl : Hid (∀ W2 S', Dv S W1 S' W2 → GrS (fun z => S z ∨ T z) W1 W2) := ⟨fun W2 S' hv => hv.gr.mono (fun _ _ h => .inl h)⟩
  have hTT : Hid (∀ W2 S', Dv S W1 S' W2 → RdAt W2 T rb d) := ⟨fun W2 S' hv => (h2.two.r).grS hv.gr (fun k h3 h4 => h.two.ap k h4 h3)⟩
  have hfin : Hid (∀ W2 W4 S' T', DiskAt W2 l2 S' db (falls d) → Dv S W1 S' W2 → RdAt W4 T' rb (falls d) → Dv T W2 T' W4 → PdP lo pb db rb l2 S T w (.returned (.bool true)) W4) := ⟨fun W2 W4 S' T' g1 g2 g3 g4 => by
    obtain ⟨x1, x2, x3⟩ := h2.both g1 g2 (Below.refl _ _) g3 g4
    refine ⟨rfl, _, S', T', x1, (GrS.of_below hB1).trans x2, fun k hk => (x3 k hk).imp id (fun hq => ?_)⟩
    have := hB1.size
    omega⟩
  replace hr := Hid.mk hr
  obtain ⟨z0, z1, z2, z3, z4, z5, z6, z7⟩ := hC0
  clear hCd h h1 h2 hB hobS hobT hr1
  go_enter Tryz.func5, Tryz.ntmps5
  go_wp2_with (first | (go_at_call 29; refine hp.mono ?_; rintro e w2 ⟨rfl, S', hd2, hv2⟩; have q2 := hC.out w2 (hobl.out w2 S' hv2); have hr2 := hr.out w2 (hTT.out w2 S' hv2); obtain ⟨y0, y1, -, -, -, -, -, -⟩ := q2; replace hd2 := Hid.mk hd2; replace hv2 := Hid.mk hv2) | (go_at_call 30; refine hr2.mono ?_; rintro e w4 ⟨rfl, T', hd4, hv4⟩; have hfn := hfin.out w2 w4 S' T' hd2.out hv2.out hd4 hv4; replace hfn := Hid.mk hfn; replace hd4 := Hid.mk hd4; replace hv4 := Hid.mk hv4))
  go_ret
  simpa using hfn.out
end Go.Proofs.YthbojlbgjmecoaaGreat.DJ
