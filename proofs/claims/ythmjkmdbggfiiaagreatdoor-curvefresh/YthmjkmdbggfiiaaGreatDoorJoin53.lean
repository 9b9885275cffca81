import Derived.Test.YthmjkmdbggfiiaaGreatDoorTurnKcCfD
import Derived.Test.YthmjkmdbggfiiaaGreatDoorJoin43
/- CurveFresh: into. -/
namespace Go.Proofs.YthmjkmdbggfiiaaGreatDoor.CF
open Go.RowKit KB
set_option linter.constructorNameAsVariable false

set_option maxRecDepth 8000 in
set_option maxHeartbeats 4000000 in
theorem into_any {c : Tol} (hc : TolOk c) {lo bb : Nat} {W0 : World} {F : List (Value × Nat × List Value)} {R0 : Nat → Row → Prop} {m : Nat} {is : List Nat} (hlo : lo ≤ W0.heap.size) (hm : m ≤ 150) (a b d e j t : Value) (mark : Int) (w : World) (hTab : ∀ X, Below lo W0 X → Go.Lib.TabIs Tryz.prog X "internal/strconv.uint64pow10" .u64 Go.Lib.pow10Tab)
    (hl : is.length = 6) (hnd : is.Nodup) (hno : ∀ i ∈ is, ∀ x, ¬ R0 i x) (h : BkC lo bb W0 F (fun q x => R0 q x ∨ ∃ k : Nat, is[k]? = some q ∧ (tolRows c a b d e j t)[k]? = some x) m w) :
    Calls Tryz.prog 10 #[.agg #[a, b, d, e, j, t], .pointer (some ⟨bb, 0, none⟩), .int .i64 mark] w fun e Y => e = .returned (.tuple #[]) ∧ BkC lo bb W0 F R0 (m + 6) Y := by
  obtain ⟨i1, i2, i3, i4, i5, i6, rfl⟩ : ∃ i1 i2 i3 i4 i5 i6, is = [i1, i2, i3, i4, i5, i6] := by
    match is, hl with
    | [i1, i2, i3, i4, i5, i6], _ => exact ⟨i1, i2, i3, i4, i5, i6, rfl⟩
  simp only [List.nodup_cons, List.mem_cons, List.not_mem_nil, not_or, or_false, not_false_iff, List.nodup_nil, and_true] at hnd
  obtain ⟨⟨n12, n13, n14, n15, n16⟩, ⟨n23, n24, n25, n26⟩, ⟨n34, n35, n36⟩, ⟨n45, n46⟩, n56⟩ := hnd
  have n56' : i5 ≠ i6 := n56
  obtain ⟨W1, hW1⟩ : ∃ W1, w.alloc (.cells #[a, b, d, e, j, t] 57) = W1 := ⟨_, rfl⟩
  have hB1 : Below w.heap.size w W1 := by rw [← hW1]; exact (Below.refl _ _).alloc (Nat.le_refl _) _
  have hbx : W1.ownsRow w.heap.size 57 6 (.slice (some ⟨w.heap.size, 0, none⟩) 1 1) 1 [a, b, d, e, j, t] := by rw [← hW1]; exact box_row w _ _
  have H1 := h.keep hlo hB1 hbx
  have hr : ∀ q x, (R0 q x ∨ ∃ k : Nat, [i1, i2, i3, i4, i5, i6][k]? = some q ∧ (tolRows c a b d e j t)[k]? = some x) ↔ (R0 q x ∨ (q = i1 ∧ x = ⟨64, 2, a, c.na, c.La⟩) ∨ (q = i2 ∧ x = ⟨64, 2, b, c.nb, c.Lb⟩) ∨ (q = i3 ∧ x = ⟨64, 2, d, c.nc, c.Lc⟩) ∨ (q = i4 ∧ x = ⟨64, 2, e, c.ne, c.Le⟩) ∨ (q = i5 ∧ x = ⟨3, 1, j, c.nj, c.Lj⟩) ∨ (q = i6 ∧ x = ⟨9, 1, t, c.nd, c.Ld⟩)) := fun q x => by
    refine or_congr Iff.rfl ⟨fun ⟨k, h1, h2⟩ => ?_, fun h => ?_⟩
    · match k with
      | 0 => simp [tolRows] at h1 h2; exact .inl ⟨h1.symm, h2.symm⟩
      | 1 => simp [tolRows] at h1 h2; exact .inr (.inl ⟨h1.symm, h2.symm⟩)
      | 2 => simp [tolRows] at h1 h2; exact .inr (.inr (.inl ⟨h1.symm, h2.symm⟩))
      | 3 => simp [tolRows] at h1 h2; exact .inr (.inr (.inr (.inl ⟨h1.symm, h2.symm⟩)))
      | 4 => simp [tolRows] at h1 h2; exact .inr (.inr (.inr (.inr (.inl ⟨h1.symm, h2.symm⟩))))
      | 5 => simp [tolRows] at h1 h2; exact .inr (.inr (.inr (.inr (.inr ⟨h1.symm, h2.symm⟩))))
      | k + 6 => simp at h1
    · rcases h with ⟨rfl, rfl⟩ | ⟨rfl, rfl⟩ | ⟨rfl, rfl⟩ | ⟨rfl, rfl⟩ | ⟨rfl, rfl⟩ | ⟨rfl, rfl⟩
      · exact ⟨0, rfl, rfl⟩
      · exact ⟨1, rfl, rfl⟩
      · exact ⟨2, rfl, rfl⟩
      · exact ⟨3, rfl, rfl⟩
      · exact ⟨4, rfl, rfl⟩
      · exact ⟨5, rfl, rfl⟩
  have H2 := H1.less (F' := (.slice (some ⟨w.heap.size, 0, none⟩) 1 1, 1, [a, b, d, e, j, t]) :: F) (fun y hy => hy) (fun q x hq => (hr q x).2 hq)
  have hcell := Hid.mk (fun (X : World) F' R' m' (hX : BkC lo bb W0 ((.slice (some ⟨w.heap.size, 0, none⟩) 1 1, 1, [a, b, d, e, j, t]) :: F') R' m' X) => (show X.cell? ⟨w.heap.size, 0, none⟩ = some a ∧ X.cell? ⟨w.heap.size, 1, none⟩ = some b ∧ X.cell? ⟨w.heap.size, 2, none⟩ = some d ∧ X.cell? ⟨w.heap.size, 3, none⟩ = some e ∧ X.cell? ⟨w.heap.size, 4, none⟩ = some j ∧ X.cell? ⟨w.heap.size, 5, none⟩ = some t from by
    obtain ⟨p, q, he, hz⟩ := hX.fz (List.mem_cons_self ..)
    obtain ⟨g, hg, -, -, hcs⟩ := hz.resolve_left (by decide)
    simp only [Value.slice.injEq] at he
    obtain ⟨rfl, -, -⟩ := he
    simp only [Option.some.injEq, Addr.mk.injEq] at hg
    obtain ⟨rfl, -⟩ := hg
    exact ⟨hcs 0 _ rfl, hcs 1 _ rfl, hcs 2 _ rfl, hcs 3 _ rfl, hcs 4 _ rfl, hcs 5 _ rfl⟩))
  have hg0 : ∀ i ∈ [i1, i2, i3, i4, i5, i6], ∀ x, ¬ R0 i x := hno
  have p1 := hg0 i1 (by simp)
  have p2 := hg0 i2 (by simp)
  have p3 := hg0 i3 (by simp)
  have p4 := hg0 i4 (by simp)
  have p5 := hg0 i5 (by simp)
  have p6 := hg0 i6 (by simp)
  -- the calls, one behind the other
  have P1 := Hid.mk (fun mk => H2.putPoints hlo (by omega) (i := i1) (n := c.na) (l := a) (L := c.La) (.inr (.inl ⟨rfl, rfl⟩)) hc.ga.1 (by have := hc.sa; omega) mk hTab)
  have P2 := Hid.mk (fun X (hX : BkC lo bb W0 ((.slice (some ⟨w.heap.size, 0, none⟩) 1 1, 1, [a, b, d, e, j, t]) :: F) (fun q x => R0 q x ∨ (q = i2 ∧ x = ⟨64, 2, b, c.nb, c.Lb⟩) ∨ (q = i3 ∧ x = ⟨64, 2, d, c.nc, c.Lc⟩) ∨ (q = i4 ∧ x = ⟨64, 2, e, c.ne, c.Le⟩) ∨ (q = i5 ∧ x = ⟨3, 1, j, c.nj, c.Lj⟩) ∨ (q = i6 ∧ x = ⟨9, 1, t, c.nd, c.Ld⟩)) (m + 1) X) mk => hX.putPoints hlo (by omega) (i := i2) (n := c.nb) (l := b) (L := c.Lb) (.inr (.inl ⟨rfl, rfl⟩)) hc.gb.1 (by have := hc.sb; omega) mk hTab)
  have P3 := Hid.mk (fun X (hX : BkC lo bb W0 ((.slice (some ⟨w.heap.size, 0, none⟩) 1 1, 1, [a, b, d, e, j, t]) :: F) (fun q x => R0 q x ∨ (q = i3 ∧ x = ⟨64, 2, d, c.nc, c.Lc⟩) ∨ (q = i4 ∧ x = ⟨64, 2, e, c.ne, c.Le⟩) ∨ (q = i5 ∧ x = ⟨3, 1, j, c.nj, c.Lj⟩) ∨ (q = i6 ∧ x = ⟨9, 1, t, c.nd, c.Ld⟩)) (m + 1 + 1) X) mk => hX.putPoints hlo (by omega) (i := i3) (n := c.nc) (l := d) (L := c.Lc) (.inr (.inl ⟨rfl, rfl⟩)) hc.gc.1 (by have := hc.sc; omega) mk hTab)
  have P4 := Hid.mk (fun X (hX : BkC lo bb W0 ((.slice (some ⟨w.heap.size, 0, none⟩) 1 1, 1, [a, b, d, e, j, t]) :: F) (fun q x => R0 q x ∨ (q = i4 ∧ x = ⟨64, 2, e, c.ne, c.Le⟩) ∨ (q = i5 ∧ x = ⟨3, 1, j, c.nj, c.Lj⟩) ∨ (q = i6 ∧ x = ⟨9, 1, t, c.nd, c.Ld⟩)) (m + 1 + 1 + 1) X) mk => hX.putPoints hlo (by omega) (i := i4) (n := c.ne) (l := e) (L := c.Le) (.inr (.inl ⟨rfl, rfl⟩)) hc.ge.1 (by have := hc.se; omega) mk hTab)
  have P5 := Hid.mk (fun X (hX : BkC lo bb W0 ((.slice (some ⟨w.heap.size, 0, none⟩) 1 1, 1, [a, b, d, e, j, t]) :: F) (fun q x => R0 q x ∨ (q = i5 ∧ x = ⟨3, 1, j, c.nj, c.Lj⟩) ∨ (q = i6 ∧ x = ⟨9, 1, t, c.nd, c.Ld⟩)) (m + 1 + 1 + 1 + 1) X) mk => hX.putInts hlo (by omega) (i := i5) (n := c.nj) (l := j) (L := c.Lj) (.inr (.inl ⟨rfl, rfl⟩)) hc.gj (by have := hc.sj; omega) mk hTab)
  have P6 := Hid.mk (fun X (hX : BkC lo bb W0 ((.slice (some ⟨w.heap.size, 0, none⟩) 1 1, 1, [a, b, d, e, j, t]) :: F) (fun q x => R0 q x ∨ (q = i6 ∧ x = ⟨9, 1, t, c.nd, c.Ld⟩)) (m + 1 + 1 + 1 + 1 + 1) X) mk => hX.putTexts hlo (by omega) (i := i6) (n := c.nd) (l := t) (L := c.Ld) (.inr ⟨rfl, rfl⟩) hc.gd (by have := hc.sd; omega) mk hTab)
  have hk := hcell.out _ _ _ _ H2
  replace hW1 := Hid.mk hW1
  clear h H1 H2 hr hno hg0 hB1 hbx hTab hc hl
  obtain ⟨k0, k1, k2, k3, k4, k5⟩ := hk
  go_enter Tryz.func10, Tryz.ntmps10
  go_upto_region 1 with fail
  rw [hW1.out]
  go_wp2_with (go_at_call 21; fail)
  refine (P1.out _).mono ?_
  clear P1 k0 k1 k2 k3 k4 k5
  rintro _ X1 ⟨rfl, H1⟩
  have H1' := H1.less (F' := (.slice (some ⟨w.heap.size, 0, none⟩) 1 1, 1, [a, b, d, e, j, t]) :: F) (R' := fun q x => R0 q x ∨ (q = i2 ∧ x = ⟨64, 2, b, c.nb, c.Lb⟩) ∨ (q = i3 ∧ x = ⟨64, 2, d, c.nc, c.Lc⟩) ∨ (q = i4 ∧ x = ⟨64, 2, e, c.ne, c.Le⟩) ∨ (q = i5 ∧ x = ⟨3, 1, j, c.nj, c.Lj⟩) ∨ (q = i6 ∧ x = ⟨9, 1, t, c.nd, c.Ld⟩)) (fun y hy => hy) (fun q x hq => by
    rcases hq with hq | hq | hq | hq | hq | hq
    · exact ⟨.inl hq, fun e => p1 x (e ▸ hq)⟩
    · exact ⟨.inr (.inr (.inl hq)), fun e => n12 (e.symm.trans hq.1)⟩
    · exact ⟨.inr (.inr (.inr (.inl hq))), fun e => n13 (e.symm.trans hq.1)⟩
    · exact ⟨.inr (.inr (.inr (.inr (.inl hq)))), fun e => n14 (e.symm.trans hq.1)⟩
    · exact ⟨.inr (.inr (.inr (.inr (.inr (.inl hq))))), fun e => n15 (e.symm.trans hq.1)⟩
    · exact ⟨.inr (.inr (.inr (.inr (.inr (.inr hq))))), fun e => n16 (e.symm.trans hq.1)⟩)
  obtain ⟨k0, k1, k2, k3, k4, k5⟩ := hcell.out _ _ _ _ H1'
  replace P2 := Hid.mk (P2.out _ H1')
  clear H1 H1'
  go_wp2_with (go_at_call 21; fail)
  refine (P2.out _).mono ?_
  clear P2 k0 k1 k2 k3 k4 k5
  rintro _ X2 ⟨rfl, H1⟩
  have H1' := H1.less (F' := (.slice (some ⟨w.heap.size, 0, none⟩) 1 1, 1, [a, b, d, e, j, t]) :: F) (R' := fun q x => R0 q x ∨ (q = i3 ∧ x = ⟨64, 2, d, c.nc, c.Lc⟩) ∨ (q = i4 ∧ x = ⟨64, 2, e, c.ne, c.Le⟩) ∨ (q = i5 ∧ x = ⟨3, 1, j, c.nj, c.Lj⟩) ∨ (q = i6 ∧ x = ⟨9, 1, t, c.nd, c.Ld⟩)) (fun y hy => hy) (fun q x hq => by
    rcases hq with hq | hq | hq | hq | hq
    · exact ⟨.inl hq, fun e => p2 x (e ▸ hq)⟩
    · exact ⟨.inr (.inr (.inl hq)), fun e => n23 (e.symm.trans hq.1)⟩
    · exact ⟨.inr (.inr (.inr (.inl hq))), fun e => n24 (e.symm.trans hq.1)⟩
    · exact ⟨.inr (.inr (.inr (.inr (.inl hq)))), fun e => n25 (e.symm.trans hq.1)⟩
    · exact ⟨.inr (.inr (.inr (.inr (.inr hq)))), fun e => n26 (e.symm.trans hq.1)⟩)
  obtain ⟨k0, k1, k2, k3, k4, k5⟩ := hcell.out _ _ _ _ H1'
  replace P3 := Hid.mk (P3.out _ H1')
  clear H1 H1'
  go_wp2_with (go_at_call 21; fail)
  refine (P3.out _).mono ?_
  clear P3 k0 k1 k2 k3 k4 k5
  rintro _ X3 ⟨rfl, H1⟩
  have H1' := H1.less (F' := (.slice (some ⟨w.heap.size, 0, none⟩) 1 1, 1, [a, b, d, e, j, t]) :: F) (R' := fun q x => R0 q x ∨ (q = i4 ∧ x = ⟨64, 2, e, c.ne, c.Le⟩) ∨ (q = i5 ∧ x = ⟨3, 1, j, c.nj, c.Lj⟩) ∨ (q = i6 ∧ x = ⟨9, 1, t, c.nd, c.Ld⟩)) (fun y hy => hy) (fun q x hq => by
    rcases hq with hq | hq | hq | hq
    · exact ⟨.inl hq, fun e => p3 x (e ▸ hq)⟩
    · exact ⟨.inr (.inr (.inl hq)), fun e => n34 (e.symm.trans hq.1)⟩
    · exact ⟨.inr (.inr (.inr (.inl hq))), fun e => n35 (e.symm.trans hq.1)⟩
    · exact ⟨.inr (.inr (.inr (.inr hq))), fun e => n36 (e.symm.trans hq.1)⟩)
  obtain ⟨k0, k1, k2, k3, k4, k5⟩ := hcell.out _ _ _ _ H1'
  replace P4 := Hid.mk (P4.out _ H1')
  clear H1 H1'
  go_wp2_with (go_at_call 21; fail)
  refine (P4.out _).mono ?_
  clear P4 k0 k1 k2 k3 k4 k5
  rintro _ X4 ⟨rfl, H1⟩
  have H1' := H1.less (F' := (.slice (some ⟨w.heap.size, 0, none⟩) 1 1, 1, [a, b, d, e, j, t]) :: F) (R' := fun q x => R0 q x ∨ (q = i5 ∧ x = ⟨3, 1, j, c.nj, c.Lj⟩) ∨ (q = i6 ∧ x = ⟨9, 1, t, c.nd, c.Ld⟩)) (fun y hy => hy) (fun q x hq => by
    rcases hq with hq | hq | hq
    · exact ⟨.inl hq, fun e => p4 x (e ▸ hq)⟩
    · exact ⟨.inr (.inr (.inl hq)), fun e => n45 (e.symm.trans hq.1)⟩
    · exact ⟨.inr (.inr (.inr hq)), fun e => n46 (e.symm.trans hq.1)⟩)
  obtain ⟨k0, k1, k2, k3, k4, k5⟩ := hcell.out _ _ _ _ H1'
  replace P5 := Hid.mk (P5.out _ H1')
  clear H1 H1'
  go_wp2_with (go_at_call 22; fail)
  refine (P5.out _).mono ?_
  clear P5 k0 k1 k2 k3 k4 k5
  rintro _ X5 ⟨rfl, H1⟩
  have H1' := H1.less (F' := (.slice (some ⟨w.heap.size, 0, none⟩) 1 1, 1, [a, b, d, e, j, t]) :: F) (R' := fun q x => R0 q x ∨ (q = i6 ∧ x = ⟨9, 1, t, c.nd, c.Ld⟩)) (fun y hy => hy) (fun q x hq => by
    rcases hq with hq | hq
    · exact ⟨.inl hq, fun e => p5 x (e ▸ hq)⟩
    · exact ⟨.inr (.inr hq), fun e => n56' (e.symm.trans hq.1)⟩)
  obtain ⟨k0, k1, k2, k3, k4, k5⟩ := hcell.out _ _ _ _ H1'
  replace P6 := Hid.mk (P6.out _ H1')
  clear H1 H1'
  go_wp2_with (go_at_call 23; fail)
  refine (P6.out _).mono ?_
  clear P6 k0 k1 k2 k3 k4 k5
  rintro _ X6 ⟨rfl, H1⟩
  have hfin := Hid.mk (H1.less (F' := F) (R' := R0) (fun y hy => List.mem_cons_of_mem _ hy) (fun q x hq => ⟨.inl hq, fun e => p6 x (e ▸ hq)⟩))
  clear H1
  go_wp2
  go_end0
  exact ⟨rfl, hfin.out⟩
end Go.Proofs.YthmjkmdbggfiiaaGreatDoor.CF


/- CurveFresh: helpers of the law. -/
namespace Go.Proofs.YthmjkmdbggfiiaaGreatDoor.CF
open Go.RowKit KB
set_option linter.constructorNameAsVariable false

theorem infoTold : (Tryz.prog.info? 57).map (fun i => (i.zero, i.size, i.bytes)) = some (some (.agg #[.slice none 0 0, .slice none 0 0, .slice none 0 0, .slice none 0 0, .slice none 0 0, .slice none 0 0]), 6, 144) := by kernel_rfl
theorem TolP.sl {c : Tol} {w w' : World} {e : Ending} (h : TolP c w e w') : ∃ pa qa pb qb pd qd pe qe pj qj pt qt, e = .returned (.agg #[.slice pa c.na qa, .slice pb c.nb qb, .slice pd c.nc qd, .slice pe c.ne qe, .slice pj c.nj qj, .slice pt c.nd qt]) ∧ KB.Rows w.heap.size w' (tolRows c (.slice pa c.na qa) (.slice pb c.nb qb) (.slice pd c.nc qd) (.slice pe c.ne qe) (.slice pj c.nj qj) (.slice pt c.nd qt)) ∧ Below w.heap.size w w' := by
  obtain ⟨a, b, d, f, j, t, rfl, hr, hb⟩ := h
  obtain ⟨pa, qa, rfl⟩ : ∃ p q, a = .slice p c.na q := own_sl (hr.own _ (.head _)).2
  obtain ⟨pb, qb, rfl⟩ : ∃ p q, b = .slice p c.nb q := own_sl (hr.own _ (.tail _ (.head _))).2
  obtain ⟨pd, qd, rfl⟩ : ∃ p q, d = .slice p c.nc q := own_sl (hr.own _ (.tail _ (.tail _ (.head _)))).2
  obtain ⟨pe, qe, rfl⟩ : ∃ p q, f = .slice p c.ne q := own_sl (hr.own _ (.tail _ (.tail _ (.tail _ (.head _))))).2
  obtain ⟨pj, qj, rfl⟩ : ∃ p q, j = .slice p c.nj q := own_sl (hr.own _ (.tail _ (.tail _ (.tail _ (.tail _ (.head _)))))).2
  obtain ⟨pt, qt, rfl⟩ : ∃ p q, t = .slice p c.nd q := own_sl (hr.own _ (.tail _ (.tail _ (.tail _ (.tail _ (.tail _ (.head _))))))).2
  exact ⟨pa, qa, pb, qb, pd, qd, pe, qe, pj, qj, pt, qt, rfl, hr, hb⟩
theorem BkC_freezes {lo bb : Nat} {W0 X : World} {m : Nat} {R0 : Nat → Row → Prop} : ∀ (l : List Row) (is : List Nat) (F : List (Value × Nat × List Value)), is.length = l.length → is.Nodup → (∀ i ∈ is, ∀ x, ¬ R0 i x) → BkC lo bb W0 F (fun q x => R0 q x ∨ ∃ k : Nat, is[k]? = some q ∧ l[k]? = some x) m X → ∃ F', BkC lo bb W0 F' R0 m X ∧ (∀ y ∈ F, y ∈ F') ∧ ∀ x ∈ l, (x.v, x.n, x.xs) ∈ F'
  | [], is, F, hl, _, _, h => ⟨F, h.less (fun y hy => hy) (fun q x hq => .inl hq), fun y hy => hy, fun x hx => (by cases hx)⟩
  | x :: l, [], F, hl, _, _, _ => by simp at hl
  | x :: l, i :: is, F, hl, hnd, hno, h => by
    obtain ⟨h1, h2⟩ := List.nodup_cons.1 hnd
    have hf := h.freeze (i := i) (x := x) (.inr ⟨0, rfl, rfl⟩)
    obtain ⟨F', q1, q2, q3⟩ := BkC_freezes l is ((x.v, x.n, x.xs) :: F) (by simpa using hl) h2 (fun j hj => hno j (List.mem_cons_of_mem _ hj)) (hf.less (fun y hy => hy) (fun q y hq => by
      rcases hq with hq | ⟨k, e1, e2⟩
      · exact ⟨.inl hq, fun e => hno i (List.mem_cons_self ..) y (e ▸ hq)⟩
      · exact ⟨.inr ⟨k + 1, e1, e2⟩, fun e => h1 (e ▸ List.mem_of_getElem? e1)⟩))
    refine ⟨F', q1, fun y hy => q2 y (List.mem_cons_of_mem _ hy), fun y hy => ?_⟩
    rcases List.mem_cons.1 hy with rfl | hy
    · exact q2 _ (List.mem_cons_self ..)
    · exact q3 y hy
theorem BkC_adds {lo bb : Nat} {W0 X Y : World} {m : Nat} {R0 : Nat → Row → Prop} {F : List (Value × Nat × List Value)} (h : BkC lo bb W0 F R0 m X) (hlo : lo ≤ W0.heap.size) (hX : Below X.heap.size X Y) {l : List Row} (hl : KB.Rows X.heap.size Y l) : ∃ F', BkC lo bb W0 F' R0 m Y ∧ (∀ y ∈ F, y ∈ F') ∧ ∀ x ∈ l, (x.v, x.n, x.xs) ∈ F' := by
  obtain ⟨is, h1, h2, h3, h4⟩ := h.reserves hlo hX hl
  exact BkC_freezes l is F h1 h2 h3 h4
theorem BkC_write6 {lo bb : Nat} {W0 X : World} {m : Nat} {R : Nat → Row → Prop} {F : List (Value × Nat × List Value)} (h : BkC lo bb W0 F R m X) (hlo : lo ≤ W0.heap.size) {i g cap : Nat} {e : TypeId} {c0 c1 c2 c3 c4 c5 : Value} (hR : R i ⟨e, 6, .slice (some ⟨g, 0, none⟩) 1 cap, 1, [c0, c1, c2, c3, c4, c5]⟩) (v0 v1 v2 v3 v4 v5 : Value) : BkC lo bb W0 F (fun q y => (R q y ∧ q ≠ i) ∨ (q = i ∧ y = ⟨e, 6, .slice (some ⟨g, 0, none⟩) 1 cap, 1, [v0, v1, v2, v3, v4, v5]⟩)) m (put6 X g v0 v1 v2 v3 v4 v5) := by
  have h0 := h.write hlo hR 0 v0
  have h1 := h0.write hlo (i := i) (.inr ⟨rfl, rfl⟩) 1 v1
  have h2 := h1.write hlo (i := i) (.inr ⟨rfl, rfl⟩) 2 v2
  have h3 := h2.write hlo (i := i) (.inr ⟨rfl, rfl⟩) 3 v3
  have h4 := h3.write hlo (i := i) (.inr ⟨rfl, rfl⟩) 4 v4
  have h5 := h4.write hlo (i := i) (.inr ⟨rfl, rfl⟩) 5 v5
  refine h5.less (fun y hy => hy) (fun q y hq => ?_)
  rcases hq with ⟨hq, hne⟩ | ⟨rfl, rfl⟩
  · exact .inl ⟨.inl ⟨.inl ⟨.inl ⟨.inl ⟨.inl ⟨hq, hne⟩, hne⟩, hne⟩, hne⟩, hne⟩, hne⟩
  · exact .inr ⟨rfl, rfl⟩
theorem lit6 (w : World) (a b c d e f : Value) {t : TypeId} : ∀ j u, [a, b, c, d, e, f][j]? = some u → (w.alloc (.cells #[a, b, c, d, e, f] t)).cell? ((⟨w.heap.size, 0, none⟩ : Addr).add j) = some u := by
  intro j u hj
  match j, hj with
  | 0, hj => simp at hj; subst hj; simp [Addr.add]
  | 1, hj => simp at hj; subst hj; simp [Addr.add]
  | 2, hj => simp at hj; subst hj; simp [Addr.add]
  | 3, hj => simp at hj; subst hj; simp [Addr.add]
  | 4, hj => simp at hj; subst hj; simp [Addr.add]
  | 5, hj => simp at hj; subst hj; simp [Addr.add]
/-- Six lists, as values. -/
abbrev V6 := Value × Value × Value × Value × Value × Value
def v6L (t : V6) : List Value := [t.1, t.2.1, t.2.2.1, t.2.2.2.1, t.2.2.2.2.1, t.2.2.2.2.2]
def v6Ls (l : List V6) : List Value := l.flatMap v6L
theorem v6Ls_get (l : List V6) (j i : Nat) (hj : j < l.length) (hi : i < 6) : (v6Ls l)[j * 6 + i]? = (v6L l[j])[i]? := by
  induction l generalizing j with
  | nil => simp at hj
  | cons x l ih =>
    have hl : (v6L x).length = 6 := rfl
    show (v6L x ++ v6Ls l)[j * 6 + i]? = _
    cases j with
    | zero =>
      rw [List.getElem?_append_left (by omega)]
      simp
    | succ j =>
      rw [List.getElem?_append_right (by omega), hl, show (j + 1) * 6 + i - 6 = j * 6 + i by omega, ih j (by simpa using hj)]
      simp
/-- The six lists stand. -/
def InF (F : List (Value × Nat × List Value)) (c : Tol) (t : V6) : Prop := (t.1, c.na, c.La) ∈ F ∧ (t.2.1, c.nb, c.Lb) ∈ F ∧ (t.2.2.1, c.nc, c.Lc) ∈ F ∧ (t.2.2.2.1, c.ne, c.Le) ∈ F ∧ (t.2.2.2.2.1, c.nj, c.Lj) ∈ F ∧ (t.2.2.2.2.2, c.nd, c.Ld) ∈ F
theorem InF.at {lo bb : Nat} {W0 X : World} {m : Nat} {R : Nat → Row → Prop} {F : List (Value × Nat × List Value)} {c : Tol} {t : V6} (h : InF F c t) (hB : BkC lo bb W0 F R m X) : TolAt X c t.1 t.2.1 t.2.2.1 t.2.2.2.1 t.2.2.2.2.1 t.2.2.2.2.2 := ⟨hB.fz h.1, hB.fz h.2.1, hB.fz h.2.2.1, hB.fz h.2.2.2.1, hB.fz h.2.2.2.2.1, hB.fz h.2.2.2.2.2⟩
theorem InF.mono {F F' : List (Value × Nat × List Value)} {c : Tol} {t : V6} (h : InF F c t) (hF : ∀ y ∈ F, y ∈ F') : InF F' c t := ⟨hF _ h.1, hF _ h.2.1, hF _ h.2.2.1, hF _ h.2.2.2.1, hF _ h.2.2.2.2.1, hF _ h.2.2.2.2.2⟩
theorem InF.of {F : List (Value × Nat × List Value)} {c : Tol} {a b d e j t : Value} (h : ∀ x ∈ tolRows c a b d e j t, (x.v, x.n, x.xs) ∈ F) : InF F c (a, b, d, e, j, t) := ⟨h _ (.head _), h _ (.tail _ (.head _)), h _ (.tail _ (.tail _ (.head _))), h _ (.tail _ (.tail _ (.tail _ (.head _)))), h _ (.tail _ (.tail _ (.tail _ (.tail _ (.head _))))), h _ (.tail _ (.tail _ (.tail _ (.tail _ (.tail _ (.head _))))))⟩
def Zip (is : List Nat) (l : List Row) (q : Nat) (x : Row) : Prop := ∃ k : Nat, is[k]? = some q ∧ l[k]? = some x
theorem Zip.row {is : List Nat} {l : List Row} (hl : is.length = l.length) {x : Row} (hx : x ∈ l) : ∃ q, Zip is l q x := by
  obtain ⟨k, hk, rfl⟩ := List.mem_iff_getElem.1 hx
  exact ⟨is[k]'(by omega), k, by rw [List.getElem?_eq_getElem (by omega)], by rw [List.getElem?_eq_getElem hk]⟩
theorem Zip.mem {is : List Nat} {l : List Row} {q : Nat} {x : Row} (h : Zip is l q x) : q ∈ is := by
  obtain ⟨k, h1, -⟩ := h
  exact List.mem_of_getElem? h1
theorem Zip.of_mem {is : List Nat} {l : List Row} (hl : is.length = l.length) {q : Nat} (h : q ∈ is) : ∃ x, Zip is l q x := by
  obtain ⟨k, hk, rfl⟩ := List.mem_iff_getElem.1 h
  exact ⟨l[k]'(by omega), k, by rw [List.getElem?_eq_getElem hk], by rw [List.getElem?_eq_getElem (by omega)]⟩
/-- The six cells of a box that is set by. -/
theorem box_cells {X : World} {lo g c : Nat} {e : TypeId} {v0 v1 v2 v3 v4 v5 : Value} (h : X.ownsRow lo e 6 (.slice (some ⟨g, 0, none⟩) 1 c) 1 [v0, v1, v2, v3, v4, v5]) : (X.cell? ⟨g, 0, none⟩ = some v0 ∧ X.cell? ⟨g, 1, none⟩ = some v1 ∧ X.cell? ⟨g, 2, none⟩ = some v2 ∧ X.cell? ⟨g, 3, none⟩ = some v3 ∧ X.cell? ⟨g, 4, none⟩ = some v4 ∧ X.cell? ⟨g, 5, none⟩ = some v5) ∧ ∀ o, X.frozen? ⟨g, o, none⟩ = false :=
  ⟨⟨h.cellAt 0 (by decide), h.cellAt 1 (by decide), h.cellAt 2 (by decide), h.cellAt 3 (by decide), h.cellAt 4 (by decide), h.cellAt 5 (by decide)⟩, fun o => h.frozenAt o⟩
end Go.Proofs.YthmjkmdbggfiiaaGreatDoor.CF


/- CurveFresh. -/
namespace Go.Proofs.YthmjkmdbggfiiaaGreatDoor.CF
open Go.RowKit KB
set_option linter.constructorNameAsVariable false
attribute [local go_sem] run_store_float

/-- Behind k rounds: what is kept, what stands. -/
def FrS (lo : Nat) (W0 : World) (c : Tol) (ik k : Nat) (kv : Value) (X : World) : Prop := ∃ (KV : List V6) (F : List (Value × Nat × List Value)), KV.length = k ∧ BkC lo lo W0 F (fun q x => q = ik ∧ x = ⟨57, 6, kv, k, v6Ls KV⟩) (12 * k) X ∧ ∀ t ∈ KV, InF F c t
theorem FrS.base {lo : Nat} {W0 : World} {c : Tol} {ik k : Nat} {kv : Value} {X : World} (h : FrS lo W0 c ik k kv X) : Below lo W0 X := by
  obtain ⟨KV, F, -, hB, -⟩ := h
  exact hB.base
/-- What a round does with the lists that are told: t's first, then u's. -/
structure RdS (lo : Nat) (W0 : World) (c : Tol) (ik it iu : Nat) (k : Nat) (X : World) (F : List (Value × Nat × List Value)) (KV : List V6) (kv : Value) (is js : List Nat) (t u : V6) (gt gu m : Nat) : Prop where
  b : BkC lo lo W0 F (fun q x => (q = ik ∧ x = ⟨57, 6, kv, k, v6Ls KV⟩) ∨ Zip is (tolRows c t.1 t.2.1 t.2.2.1 t.2.2.2.1 t.2.2.2.2.1 t.2.2.2.2.2) q x ∨ Zip js (tolRows c u.1 u.2.1 u.2.2.1 u.2.2.2.1 u.2.2.2.2.1 u.2.2.2.2.2) q x ∨ (q = it ∧ x = ⟨57, 6, .slice (some ⟨gt, 0, none⟩) 1 1, 1, v6L t⟩) ∨ (q = iu ∧ x = ⟨57, 6, .slice (some ⟨gu, 0, none⟩) 1 1, 1, v6L u⟩)) m X
  f : ∀ x ∈ KV, InF F c x
  l : KV.length = k
theorem RdS.later {lo : Nat} {W0 : World} {c : Tol} {ik it iu k : Nat} {X Y : World} {F : List (Value × Nat × List Value)} {KV : List V6} {kv : Value} {is js : List Nat} {t u : V6} {gt gu m : Nat} (h : RdS lo W0 c ik it iu k X F KV kv is js t u gt gu m) (hlo : lo ≤ W0.heap.size) (hX : Below X.heap.size X Y) : RdS lo W0 c ik it iu k Y F KV kv is js t u gt gu m := ⟨h.b.later hlo hX, h.f, h.l⟩
/-- The numbers of the rows are apart. -/
structure IxS (ik it iu : Nat) (is js : List Nat) : Prop where
  li : is.length = 6
  lj : js.length = 6
  ni : is.Nodup
  nj : js.Nodup
  ki : ik ∉ is
  kj : ik ∉ js
  ij : ∀ q ∈ js, q ∉ is
  ti : it ∉ is
  tj : it ∉ js
  tk : it ≠ ik
  ui : iu ∉ is
  uj : iu ∉ js
  uk : iu ≠ ik
  ut : iu ≠ it
/-- Both answers are set by, each in a box. -/
theorem RdS.start {lo : Nat} {W0 : World} {c : Tol} {ik k : Nat} {X X1 X2 : World} {F : List (Value × Nat × List Value)} {KV : List V6} {kv : Value} {m : Nat} (h : BkC lo lo W0 F (fun q x => q = ik ∧ x = ⟨57, 6, kv, k, v6Ls KV⟩) m X) (hf : ∀ x ∈ KV, InF F c x) (hl : KV.length = k) (hlo : lo ≤ W0.heap.size) (t u : V6) (hb1 : Below X.heap.size X X1) (hr1 : KB.Rows X.heap.size X1 (tolRows c t.1 t.2.1 t.2.2.1 t.2.2.2.1 t.2.2.2.2.1 t.2.2.2.2.2)) (hb2 : Below X1.heap.size X1 X2) (hr2 : KB.Rows X1.heap.size X2 (tolRows c u.1 u.2.1 u.2.2.1 u.2.2.2.1 u.2.2.2.2.1 u.2.2.2.2.2)) :
    ∃ is js it iu, IxS ik it iu is js ∧ RdS lo W0 c ik it iu k ((X2.alloc (.cells (v6L t).toArray 57)).alloc (.cells (v6L u).toArray 57)) F KV kv is js t u X2.heap.size (X2.heap.size + 1) m := by
  obtain ⟨is, a1, a2, a3, h1⟩ := h.reserves hlo hb1 hr1
  obtain ⟨js, c1, c2, c3, h2⟩ := h1.reserves hlo hb2 hr2
  have hA : Below X2.heap.size X2 (X2.alloc (.cells (v6L t).toArray 57)) := (Below.refl _ _).alloc (Nat.le_refl _) _
  have hB : Below (X2.alloc (.cells (v6L t).toArray 57)).heap.size (X2.alloc (.cells (v6L t).toArray 57)) ((X2.alloc (.cells (v6L t).toArray 57)).alloc (.cells (v6L u).toArray 57)) := (Below.refl _ _).alloc (Nat.le_refl _) _
  obtain ⟨it, d1, h3⟩ := h2.reserve hlo hA (z := 6) (L := v6L t) (by decide) (box_row X2 (v6L t).toArray 57)
  obtain ⟨iu, e1, h4⟩ := h3.reserve hlo hB (z := 6) (L := v6L u) (by decide) (box_row _ (v6L u).toArray 57)
  have hs : (X2.alloc (.cells (v6L t).toArray 57)).heap.size = X2.heap.size + 1 := by simp
  rw [hs] at h4
  have hti : is.length = (tolRows c t.1 t.2.1 t.2.2.1 t.2.2.2.1 t.2.2.2.2.1 t.2.2.2.2.2).length := a1
  have htj : js.length = (tolRows c u.1 u.2.1 u.2.2.1 u.2.2.2.1 u.2.2.2.2.1 u.2.2.2.2.2).length := c1
  refine ⟨is, js, it, iu, ⟨a1, c1, a2, c2, fun hq => a3 ik hq _ ⟨rfl, rfl⟩, fun hq => c3 ik hq _ (.inl ⟨rfl, rfl⟩), fun q hq hi => ?_, fun hq => ?_, fun hq => ?_, fun e => ?_, fun hq => ?_, fun hq => ?_, fun e => ?_, fun e => ?_⟩, ⟨h4.less (fun y hy => hy) (fun q x hq => ?_), hf, hl⟩⟩
  · obtain ⟨x, hx⟩ := Zip.of_mem hti hi
    exact c3 q hq x (.inr hx)
  · obtain ⟨x, hx⟩ := Zip.of_mem hti hq
    exact d1 x (.inl (.inr hx))
  · obtain ⟨x, hx⟩ := Zip.of_mem htj hq
    exact d1 x (.inr hx)
  · subst e
    exact d1 _ (.inl (.inl ⟨rfl, rfl⟩))
  · obtain ⟨x, hx⟩ := Zip.of_mem hti hq
    exact e1 x (.inl (.inl (.inr hx)))
  · obtain ⟨x, hx⟩ := Zip.of_mem htj hq
    exact e1 x (.inl (.inr hx))
  · subst e
    exact e1 _ (.inl (.inl (.inl ⟨rfl, rfl⟩)))
  · subst e
    exact e1 _ (.inr ⟨rfl, rfl⟩)
  · rcases hq with hq | hq | hq | hq | hq
    · exact .inl (.inl (.inl (.inl hq)))
    · exact .inl (.inl (.inl (.inr hq)))
    · exact .inl (.inl (.inr hq))
    · exact .inl (.inr hq)
    · exact .inr hq
end Go.Proofs.YthmjkmdbggfiiaaGreatDoor.CF
