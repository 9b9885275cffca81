import Derived.Test.YthbojlbgjmecoaaGreatTurnRdZa
/- Read and Files of both disks; any other kind. -/
namespace Go.Proofs.YthbojlbgjmecoaaGreat.DJ
open Go.RowKit
set_option linter.constructorNameAsVariable false

theorem PdP.below {lo pb db rb l2 : Nat} {d : Dk} {S T : Nat → Prop} {w w' : World} (h : PD w lo pb db rb l2 d S T) (hb : Below w.heap.size w w') : PdP lo pb db rb l2 S T w (.returned (.bool true)) w' := ⟨rfl, d, S, T, h.later hb, .of_below hb, fun _ hk => .inl hk⟩
set_option maxRecDepth 100000 in
set_option maxHeartbeats 4000000 in
theorem disk_files {lo pb db rb l2 : Nat} {d : Dk} {S T : Nat → Prop} (o : OpD) (hk : o.kind = 10) (hB : OpB o) (w : World) (h : PD w lo pb db rb l2 d S T) : Calls Tryz.prog 5 #[.pointer (some ⟨pb, 0, none⟩), .agg o.v.toArray] w (PdP lo pb db rb l2 S T w) := by
  obtain ⟨W1, hW1⟩ : ∃ W1, w.alloc (.cells o.v.toArray 38) = W1 := ⟨_, rfl⟩
  have hB1 : Below w.heap.size w W1 := by rw [← hW1]; exact (Below.refl _ _).alloc (Nat.le_refl _) _
  have hr1 : W1.heap[w.heap.size]? = some (.cells o.v.toArray 38 (0, 0)) := by rw [← hW1]; exact heap_alloc_new _ _
  have hl1 : w.heap.size < W1.heap.size := by rw [← hW1]; simp
  have h1 := h.later hB1
  obtain ⟨ob, hob⟩ : ∃ ob, w.heap.size = ob := ⟨_, rfl⟩
  have hobS : ¬ S ob := fun e => by have := (h.two.p.low _ e).2; omega
  have hobT : ¬ T ob := fun e => by have := h.two.r.hi _ e; omega
  rw [hob] at hr1 hl1
  have hbd : Below W1.heap.size W1 W1.drew := (Below.refl _ _).drew
  have h2 := h1.later hbd
  have hC : Hid (∀ Y, GrS (fun z => S z ∨ T z) W1 Y → OpC Y pb ob db rb o) := ⟨fun Y hY => opc_of ((hY.block _ h1.lt (fun e => e.elim h.sp h.tp)).trans h1.row) ((hY.block _ hl1 (fun e => e.elim hobS hobT)).trans hr1)⟩
  have hC0 := hC.out W1 (.refl _ _)
  have hCd := hC.out W1.drew (.of_below hbd)
  obtain ⟨kd, nn, mm, sc, nm, da, dat, dc, ka, ks, kc, sm⟩ := o
  simp only at hk
  subst hk
  simp only [OpC, OpD.v] at hC hC0 hCd hW1 ⊢
  have hW1' := hW1.symm
  replace hW1' := Hid.mk hW1'
  have hfp : Hid (∀ Y, Below W1.heap.size W1 Y → Calls Tryz.prog 7 #[.pointer (some ⟨db, 0, none⟩)] Y fun e w' => ∃ a c, e = .returned (.slice a d.fs.length c) ∧ FfO w' Y.heap.size (.slice a d.fs.length c) d.fs ∧ Below Y.heap.size Y w') := ⟨fun Y hY => files_any Y (h1.two.p.later hY)⟩
  have hfr : Hid (∀ Y, Below W1.heap.size W1 Y → Calls Tryz.prog 8 #[.pointer (some ⟨rb, 0, none⟩)] Y fun e w' => ∃ a c, e = .returned (.slice a d.fs.length c) ∧ FfO w' Y.heap.size (.slice a d.fs.length c) d.fs ∧ Below Y.heap.size Y w') := ⟨fun Y hY => rfiles_any Y (h1.two.r.later hY)⟩
  have hln : d.fs.length ≤ 9223372036854775807 := by have := h.two.r.ok.len; omega
  have hsm : Hid (∀ Y a b ca cb v v' : Nat, True) := ⟨fun _ _ _ _ _ _ _ => trivial⟩
  have hsf : Hid (∀ (Y : World) (a b : Option Addr) (ca cb : Nat), FiAt Y a (d.fs.map Fl.fi) → FiAt Y b (d.fs.map Fl.fi) → Calls Tryz.prog 6 #[.slice a d.fs.length ca, .slice b d.fs.length cb] Y fun e w' => e = .returned (.bool true) ∧ ∃ m, w' = Y.drewN m) := ⟨fun Y a b ca cb q1 q2 => by
    have := sameFiles_same (d.fs.map Fl.fi) (by rw [List.length_map]; exact hln) a b ca cb Y q1 q2
    rw [List.length_map] at this
    exact this⟩
  have hfin : Hid (∀ Y, Below W1.heap.size W1 Y → PdP lo pb db rb l2 S T w (.returned (.bool true)) Y) := ⟨fun Y hY => PdP.below h (below_step hB1 hY)⟩
  have hS0 : W1.drew.cell? ⟨pb, 0, none⟩ = some (.pointer (some ⟨db, 0, none⟩)) ∧ W1.drew.cell? ⟨pb, 2, none⟩ = some (.pointer (some ⟨rb, 0, none⟩)) := ⟨hCd.1, hCd.2.1⟩
  have hSY : Hid (∀ Y, Below W1.heap.size W1 Y → Y.cell? ⟨pb, 0, none⟩ = some (.pointer (some ⟨db, 0, none⟩)) ∧ Y.cell? ⟨pb, 2, none⟩ = some (.pointer (some ⟨rb, 0, none⟩))) := ⟨fun Y hY => ⟨(hC.out Y (.of_below hY)).1, (hC.out Y (.of_below hY)).2.1⟩⟩
  obtain ⟨z0, z1, z2, z3, z4, z5, z6, z7⟩ := hC0
  clear hCd h h1 h2 hB hobS hobT hr1 hC hsm
  go_enter Tryz.func5, Tryz.ntmps5
  go_wp2_with fail
  go_region_held3 (fun Y => Y.cell? ⟨pb, 0, none⟩ = some (.pointer (some ⟨db, 0, none⟩)) ∧ Y.cell? ⟨pb, 2, none⟩ = some (.pointer (some ⟨rb, 0, none⟩))) (assumption) (first | (go_at_call 7; refine (hfp.out _ (by first | exact hq8 | exact hbd)).mono ?_; rintro e wp ⟨a9, c9, rfl, hF9, hb9⟩; have hq7 : Below W1.heap.size W1 wp := below_step (by first | exact hq8 | exact hbd) hb9; have hS7 := hSY.out wp hq7; replace hF9 := Hid.mk hF9; replace hb9 := Hid.mk hb9) | (go_at_call 8; refine (hfr.out _ (by first | exact hq7 | exact hbd)).mono ?_; rintro e wq ⟨a10, c10, rfl, hF10, hb10⟩; have hq8 : Below W1.heap.size W1 wq := below_step (by first | exact hq7 | exact hbd) hb10; have hS8 := hSY.out wq hq8; replace hF10 := Hid.mk hF10; replace hb10 := Hid.mk hb10) | (go_at_call 6; refine (hsf.out _ a9 a10 c9 c10 (by first | exact hF9.out.fi | exact (hF9.out.later hb10.out).fi) (by first | exact hF10.out.fi | exact (hF10.out.later hb9.out).fi)).mono ?_; rintro e w11 ⟨rfl, m11, hm11⟩; have hq11 : Below W1.heap.size W1 w11 := (by first | (rw [hm11]; exact below_step hq8 (below_drewN (Below.refl _ _) _)) | (rw [hm11]; exact below_step hq7 (below_drewN (Below.refl _ _) _))); have hS11 := hSY.out w11 hq11; replace hq11 := Hid.mk hq11; clear hm11))
  all_goals
    go_wp2
    go_ret
    exact hfin.out _ hq11.out
set_option maxRecDepth 100000 in
set_option maxHeartbeats 4000000 in
theorem disk_read {lo pb db rb l2 : Nat} {d : Dk} {S T : Nat → Prop} (o : OpD) (hk : o.kind = 5) (hB : OpB o) (w : World) (h : PD w lo pb db rb l2 d S T) : Calls Tryz.prog 5 #[.pointer (some ⟨pb, 0, none⟩), .agg o.v.toArray] w (PdP lo pb db rb l2 S T w) := by
  obtain ⟨W1, hW1⟩ : ∃ W1, w.alloc (.cells o.v.toArray 38) = W1 := ⟨_, rfl⟩
  have hB1 : Below w.heap.size w W1 := by rw [← hW1]; exact (Below.refl _ _).alloc (Nat.le_refl _) _
  have hr1 : W1.heap[w.heap.size]? = some (.cells o.v.toArray 38 (0, 0)) := by rw [← hW1]; exact heap_alloc_new _ _
  have hl1 : w.heap.size < W1.heap.size := by rw [← hW1]; simp
  have h1 := h.later hB1
  obtain ⟨ob, hob⟩ : ∃ ob, w.heap.size = ob := ⟨_, rfl⟩
  have hobS : ¬ S ob := fun e => by have := (h.two.p.low _ e).2; omega
  have hobT : ¬ T ob := fun e => by have := h.two.r.hi _ e; omega
  rw [hob] at hr1 hl1
  have hbd : Below W1.heap.size W1 W1.drew := (Below.refl _ _).drew
  have h2 := h1.later hbd
  have hC : Hid (∀ Y, GrS (fun z => S z ∨ T z) W1 Y → OpC Y pb ob db rb o) := ⟨fun Y hY => opc_of ((hY.block _ h1.lt (fun e => e.elim h.sp h.tp)).trans h1.row) ((hY.block _ hl1 (fun e => e.elim hobS hobT)).trans hr1)⟩
  have hC0 := hC.out W1 (.refl _ _)
  have hCd := hC.out W1.drew (.of_below hbd)
  obtain ⟨kd, nn, mm, sc, nm, da, dat, dc, ka, ks, kc, sm⟩ := o
  simp only at hk
  subst hk
  simp only [OpC, OpD.v] at hC hC0 hCd hW1 ⊢
  have hW1' := hW1.symm
  replace hW1' := Hid.mk hW1'
  have hp := pread_any (nm := nm) (Nat.le_trans hB.nl (by decide)) hB.nb W1.drew h2.two.p
  have hr := fun Y (hY : Below W1.heap.size W1 Y) => rread_any (nm := nm) (Nat.le_trans hB.nl (by decide)) hB.nb Y (h1.two.r.later hY)
  obtain ⟨⟨bs, er⟩, hR⟩ : ∃ r, readR d nm = r := ⟨_, rfl⟩
  simp only [hR] at hp hr
  have hbv : ∀ x ∈ bs, x < 256 := fun x hx => by
    unfold readR at hR
    split at hR
    · injection hR with h1 _; rw [← h1] at hx; cases hx
    · split at hR
      · injection hR with h1 _; rw [← h1] at hx; cases hx
      · split at hR
        · injection hR with h1 _; rw [← h1] at hx; cases hx
        · rename_i f hf
          injection hR with h1 _
          rw [← h1] at hx
          exact h.two.r.ok.byt f (get_some hf).1 x hx
  have hfin : Hid (∀ Y, Below W1.heap.size W1 Y → PdP lo pb db rb l2 S T w (.returned (.bool true)) Y) := ⟨fun Y hY => PdP.below h (below_step hB1 hY)⟩
  have hS0 : W1.drew.cell? ⟨pb, 0, none⟩ = some (.pointer (some ⟨db, 0, none⟩)) ∧ W1.drew.cell? ⟨ob, 4, none⟩ = some (.string (strB nm)) := ⟨hCd.1, hCd.2.2.2.2.2.1⟩
  replace hr := Hid.mk hr
  replace hbv := Hid.mk hbv
  obtain ⟨z0, z1, z2, z3, z4, z5, z6, z7⟩ := hC0
  clear hCd h h1 h2 hB hobS hobT hr1 hR
  go_enter Tryz.func5, Tryz.ntmps5
  go_wp2_with fail
  go_region_held3 (fun Y => Y.cell? ⟨pb, 0, none⟩ = some (.pointer (some ⟨db, 0, none⟩)) ∧ Y.cell? ⟨ob, 4, none⟩ = some (.string (strB nm))) (assumption) ((go_at_call 23; refine hp.mono ?_; rintro e w2 ⟨v, rfl, ho2, hb2⟩; obtain ⟨a2, c2, rfl⟩ := own_lenB ho2; have hq2 : Below W1.heap.size W1 w2 := below_step hbd hb2; have q2 := hC.out w2 (.of_below hq2); have hq3 : Below W1.heap.size W1 w2.drew := hq2.drew; have q3 := hC.out w2.drew (.of_below hq3); have hr3 := hr.out w2.drew hq3; have hS2 : w2.cell? ⟨pb, 0, none⟩ = some (.pointer (some ⟨db, 0, none⟩)) ∧ w2.cell? ⟨ob, 4, none⟩ = some (.string (strB nm)) := ⟨q2.1, q2.2.2.2.2.2.1⟩; have hS3 : w2.drew.cell? ⟨pb, 2, none⟩ = some (.pointer (some ⟨rb, 0, none⟩)) ∧ w2.drew.cell? ⟨ob, 4, none⟩ = some (.string (strB nm)) := ⟨q3.2.1, q3.2.2.2.2.2.1⟩; have hby2 := Hid.mk (byts_of_own (n := bs.length) hbv.out ho2); clear q3 ho2; replace hb2 := Hid.mk hb2))
  clear hS0 z0 z1 z2 z3 z4 z5 z6 z7
  go_wp2_with fail
  go_region_held3 (fun Y => Y.cell? ⟨pb, 2, none⟩ = some (.pointer (some ⟨rb, 0, none⟩)) ∧ Y.cell? ⟨ob, 4, none⟩ = some (.string (strB nm))) (assumption) ((go_at_call 24; refine hr3.mono ?_; rintro e w4 ⟨v, rfl, ho4, hb4⟩; obtain ⟨a4, c4, rfl⟩ := own_lenB ho4; have hq4 : Below W1.heap.size W1 w4 := below_step hq3 hb4; have q4 := hC.out w4 (.of_below hq4); have hS4 : w4.cell? ⟨pb, 2, none⟩ = some (.pointer (some ⟨rb, 0, none⟩)) ∧ w4.cell? ⟨ob, 4, none⟩ = some (.string (strB nm)) := ⟨q4.2.1, q4.2.2.2.2.2.1⟩; have hby4 := byts_of_own (n := bs.length) hbv.out ho4; have hsb := sameBytes_any ((hby2.out.later ((Below.refl _ _).drew)).later hb4) hby4 c2 c4; simp only [decide_true] at hsb; replace hb4 := Hid.mk hb4; clear ho4))
  go_wp2_with (go_at_call 15; refine hsb.mono ?_; rintro e w5 ⟨rfl, hw5⟩; subst w5)
  go_ret
  simpa using hfin.out _ hq4
set_option maxRecDepth 100000 in
set_option maxHeartbeats 4000000 in
theorem disk_other {lo pb db rb l2 : Nat} {d : Dk} {S T : Nat → Prop} (o : OpD) (hk : o.kind ≠ 1 ∧ o.kind ≠ 2 ∧ o.kind ≠ 3 ∧ o.kind ≠ 4 ∧ o.kind ≠ 5 ∧ o.kind ≠ 6 ∧ o.kind ≠ 7 ∧ o.kind ≠ 8 ∧ o.kind ≠ 9 ∧ o.kind ≠ 10) (hB : OpB o) (w : World) (h : PD w lo pb db rb l2 d S T) : Calls Tryz.prog 5 #[.pointer (some ⟨pb, 0, none⟩), .agg o.v.toArray] w (PdP lo pb db rb l2 S T w) := by
  obtain ⟨W1, hW1⟩ : ∃ W1, w.alloc (.cells o.v.toArray 38) = W1 := ⟨_, rfl⟩
  have hB1 : Below w.heap.size w W1 := by rw [← hW1]; exact (Below.refl _ _).alloc (Nat.le_refl _) _
  have hr1 : W1.heap[w.heap.size]? = some (.cells o.v.toArray 38 (0, 0)) := by rw [← hW1]; exact heap_alloc_new _ _
  have hl1 : w.heap.size < W1.heap.size := by rw [← hW1]; simp
  have h1 := h.later hB1
  obtain ⟨ob, hob⟩ : ∃ ob, w.heap.size = ob := ⟨_, rfl⟩
  have hobS : ¬ S ob := fun e => by have := (h.two.p.low _ e).2; omega
  have hobT : ¬ T ob := fun e => by have := h.two.r.hi _ e; omega
  rw [hob] at hr1 hl1
  have hbd : Below W1.heap.size W1 W1.drew := (Below.refl _ _).drew
  have h2 := h1.later hbd
  have hC : Hid (∀ Y, GrS (fun z => S z ∨ T z) W1 Y → OpC Y pb ob db rb o) := ⟨fun Y hY => opc_of ((hY.block _ h1.lt (fun e => e.elim h.sp h.tp)).trans h1.row) ((hY.block _ hl1 (fun e => e.elim hobS hobT)).trans hr1)⟩
  have hC0 := hC.out W1 (.refl _ _)
  have hCd := hC.out W1.drew (.of_below hbd)
  obtain ⟨kd, nn, mm, sc, nm, da, dat, dc, ka, ks, kc, sm⟩ := o
  simp only at hk
  obtain ⟨e1, e2, e3, e4, e5, e6, e7, e8, e9, e10⟩ := hk
  replace e1 : (kd == (1 : Int)) = false := beq_eq_false_iff_ne.2 e1
  replace e2 : (kd == (2 : Int)) = false := beq_eq_false_iff_ne.2 e2
  replace e3 : (kd == (3 : Int)) = false := beq_eq_false_iff_ne.2 e3
  replace e4 : (kd == (4 : Int)) = false := beq_eq_false_iff_ne.2 e4
  replace e5 : (kd == (5 : Int)) = false := beq_eq_false_iff_ne.2 e5
  replace e6 : (kd == (6 : Int)) = false := beq_eq_false_iff_ne.2 e6
  replace e7 : (kd == (7 : Int)) = false := beq_eq_false_iff_ne.2 e7
  replace e8 : (kd == (8 : Int)) = false := beq_eq_false_iff_ne.2 e8
  replace e9 : (kd == (9 : Int)) = false := beq_eq_false_iff_ne.2 e9
  replace e10 : (kd == (10 : Int)) = false := beq_eq_false_iff_ne.2 e10
  simp only [OpC, OpD.v] at hC hC0 hCd hW1 ⊢
  have hW1' := hW1.symm
  replace hW1' := Hid.mk hW1'
  have hfin : Hid (PdP lo pb db rb l2 S T w (.returned (.bool true)) W1) := ⟨PdP.below h hB1⟩
  obtain ⟨z0, z1, z2, z3, z4, z5, z6, z7⟩ := hC0
  clear hCd h h1 h2 hB hobS hobT hr1 hC
  go_enter Tryz.func5, Tryz.ntmps5
  go_wp2
  go_ret
  exact hfin.out
end Go.Proofs.YthbojlbgjmecoaaGreat.DJ
