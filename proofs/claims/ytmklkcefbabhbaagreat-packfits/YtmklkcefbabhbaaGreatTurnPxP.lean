import Derived.Test.YtmklkcefbabhbaaGreatJoin3
namespace Go.Proofs.YtmklkcefbabhbaaGreat
open Go.RowKit

def Rg (z : Int) : Prop := -9223372036854775808 ≤ z ∧ z ≤ 9223372036854775807
theorem row_gr {α : Type} {D : Elt α} {w w' : World} {lo k : Nat} {xs : List α} {a : Option Addr} (h : RowR D w (fun b => lo ≤ b) xs a) (hg : w.grownBy w' (some k)) (hk : k < lo) : RowR D w' (fun b => lo ≤ b) xs a := h.fr hg.size (fun b hb hlt => hg.block b hlt (fun e => by injection e with e; omega))
def eBd : Elt (Int × Int) where
  k := 2
  E := fun _ _ b cs => cs = [.int .i64 b.1, .int .i64 b.2] ∧ Rg b.1 ∧ Rg b.2
  len := fun h => by rw [h.1]; rfl
  fr := fun h _ _ => h
  mo := fun h _ => h
def eG : Elt (List UInt8 × Int) where
  k := 2
  E := fun _ _ g cs => cs = [.string ⟨g.1.toArray⟩, .int .i64 g.2] ∧ Rg g.2
  len := fun h => by rw [h.1]; rfl
  fr := fun h _ _ => h
  mo := fun h _ => h
def eO : Elt (List UInt8 × List (List UInt8)) where
  k := 2
  E := fun W S o cs => ∃ a cap, cs = [.string ⟨o.1.toArray⟩, .slice a o.2.length cap] ∧ RowR eS W S o.2 a
  len := fun ⟨_, _, h, _⟩ => by rw [h]; rfl
  fr := fun ⟨a, cap, h, hR⟩ hs hb => ⟨a, cap, h, hR.fr hs hb⟩
  mo := fun ⟨a, cap, h, hR⟩ hb => ⟨a, cap, h, hR.mo hb⟩
def eT : Elt (List UInt8 × List (Int × Int)) where
  k := 2
  E := fun W S t cs => ∃ a cap, cs = [.string ⟨t.1.toArray⟩, .slice a t.2.length cap] ∧ RowR eBd W S t.2 a
  len := fun ⟨_, _, h, _⟩ => by rw [h]; rfl
  fr := fun ⟨a, cap, h, hR⟩ hs hb => ⟨a, cap, h, hR.fr hs hb⟩
  mo := fun ⟨a, cap, h, hR⟩ hb => ⟨a, cap, h, hR.mo hb⟩
/-- What a piece that is a struct answers. -/
def VE {α : Type} (D : Elt α) (W : World) (lo : Nat) (x : α) (v : Value) : Prop := ∃ cs : List Value, v = .agg cs.toArray ∧ D.E W (fun b => lo ≤ b) x cs

set_option maxRecDepth 8000 in
set_option maxHeartbeats 4000000 in
theorem band_any (c : Rc) (W : World) {at_ ft er : Nat} (h : RS c W at_ ft er) : Calls Tryz.prog 84 #[.pointer (some ⟨c.r, 0, none⟩)] W (Xc rBand (VE eBd) c at_ ft er W) := by
  have hr := h.lt
  have hbW := h.below
  have hg0 := World.grownBy_alloc W (.cells #[.int .i64 0, .int .i64 0] 118) (some c.r)
  have hb0 := bx_new W #[.int .i64 0, .int .i64 0] 118
  have hc1 := integer_any c _ (h.alloc (.cells #[.int .i64 0, .int .i64 0] 118))
  have hrb : some W.heap.size ≠ some c.r := fun e => by injection e with e; omega
  clear h
  go_enter Tryz.func84, Tryz.ntmps84
  go_wp2_with (first | (go_at_call 50; go_loud (refine hc1.mono ?_; clear hc1; rintro e w1 hP; obtain ⟨x1, v1, at1, ft1, er1, he, hV1, h1, hg1, hp1⟩ := hP; obtain ⟨rfl, hr1_1, hr2_1⟩ := hV1; subst he; have hbk1 := hb0.kept hg1 hrb; have k1_0 : w1.cell? ⟨W.heap.size, 0, none⟩ = some (.int .i64 0) := hbk1.2.1 0 (by simp); have f1_0 := hbk1.2.2 0; have h1x := (h1.setO (b := W.heap.size) (i := 0) (v := .int .i64 x1) (lo := W.heap.size) (Nat.le_refl _) hr hbW); have hg1x := (gr_setO (b := W.heap.size) (i := 0) (v := .int .i64 x1) (hg0.trans hg1) (Nat.le_refl _)); have hb1x : Bx (w1.setCell ⟨W.heap.size, 0, none⟩ (.int .i64 x1)) W.heap.size [.int .i64 x1, .int .i64 0] := (hbk1.set 0 (.int .i64 x1)); have hc2 := integer_any c _ h1x)) | (go_at_call 50; go_loud (refine hc2.mono ?_; clear hc2; rintro e w2 hP; obtain ⟨x2, v2, at2, ft2, er2, he, hV2, h2, hg2, hp2⟩ := hP; obtain ⟨rfl, hr1_2, hr2_2⟩ := hV2; subst he; have hbk2 := hb1x.kept hg2 hrb; have k2_0 : w2.cell? ⟨W.heap.size, 1, none⟩ = some (.int .i64 0) := hbk2.2.1 1 (by simp); have f2_0 := hbk2.2.2 1; have h2x := (h2.setO (b := W.heap.size) (i := 1) (v := .int .i64 x2) (lo := W.heap.size) (Nat.le_refl _) hr hbW); have hg2x := (gr_setO (b := W.heap.size) (i := 1) (v := .int .i64 x2) (hg1x.trans hg2) (Nat.le_refl _)); have hb2x : Bx (w2.setCell ⟨W.heap.size, 1, none⟩ (.int .i64 x2)) W.heap.size [.int .i64 x1, .int .i64 x2] := (hbk2.set 1 (.int .i64 x2)); have q0 : ((w2.setCell ⟨W.heap.size, 1, none⟩ (.int .i64 x2))).cell? ⟨W.heap.size, 0, none⟩ = some (.int .i64 x1) := hb2x.2.1 0 (by simp); have id0 := set_id q0; have fz0 := hb2x.2.2 0; have q1 : ((w2.setCell ⟨W.heap.size, 1, none⟩ (.int .i64 x2))).cell? ⟨W.heap.size, 1, none⟩ = some (.int .i64 x2) := hb2x.2.1 1 (by simp); have id1 := set_id q1; have fz1 := hb2x.2.2 1)))
  have hfin : Xc rBand (VE eBd) c at_ ft er W (.returned (.agg #[.int .i64 x1, .int .i64 x2])) (w2.setCell ⟨W.heap.size, 1, none⟩ (.int .i64 x2)) := ⟨(x1, x2), _, _, _, _, rfl, ⟨[.int .i64 x1, .int .i64 x2], rfl, rfl, ⟨hr1_1, hr2_1⟩, hr1_2, hr2_2⟩, h2x, hg2x, hp1.bd (hp2.bd (Xp.pure))⟩
  exact bodyPost_ret (v := .agg #[.int .i64 x1, .int .i64 x2]) (by simp [results, Tryz.results84, go_sem, q0, q1]) rfl hfin

theorem info_band : (Tryz.prog.info? 118).map (fun i => (i.zero, i.size, i.bytes)) = some (some (.agg #[.int .i64 0, .int .i64 0]), 2, 16) := by kernel_rfl
set_option maxRecDepth 8000 in
set_option maxHeartbeats 4000000 in
theorem getList_band (c : Rc) (W : World) {at_ ft er : Nat} (h : RS c W at_ ft er)  : Calls Tryz.prog 83 #[.pointer (some ⟨c.r, 0, none⟩), .func (Fn.func 84) #[.pointer (some ⟨c.r, 0, none⟩)] #[]] W (Xc (rLst rBand) (VL eBd) c at_ ft er W) := by
  obtain ⟨i0, hi, hz0, hz1, hz2⟩ := info_parts info_band
  have hn := length_any c W h
  have hln := h.ln
  have hr := h.lt
  have hbW := h.below
  clear h
  go_enter Tryz.func83, Tryz.ntmps83
  go_wp2_with (go_at_call 80; refine hn.mono ?_; clear hn; rintro e w1 ⟨n, at1, ft1, er1, rfl, hn1, h1, hg1, hp1⟩)
  have hn2 : n ≤ 262144 := by omega
  have hst : ∃ (i : Nat) (xs : List _) (at2 ft2 er2 : Nat), i ≤ n ∧ (Value.int .i64 0) = .int .i64 (i : Int) ∧ Hid (xs.length = i) ∧ GS eBd 118 W.heap.size w1 (.slice none 0 0) xs ∧ RS c w1 at2 ft2 er2 ∧ W.grownBy w1 (some c.r) ∧ Lp (rBand c.l) (rLst rBand c.l at_) n i ft er at2 ft2 er2 xs := ⟨0, [], at1, ft1, er1, Nat.zero_le _, rfl, ⟨rfl⟩, gs_nil _ _ _ _, h1, hg1, Lp.start hp1 (fun he => by have := h1.en he; omega)⟩
  clear h1 hg1 hp1 hn1
  go_loopw [5, 8] (fun lv iv wr => ∃ (i : Nat) (xs : List _) (at2 ft2 er2 : Nat), i ≤ n ∧ iv = .int .i64 (i : Int) ∧ Hid (xs.length = i) ∧ GS eBd 118 W.heap.size wr lv xs ∧ RS c wr at2 ft2 er2 ∧ W.grownBy wr (some c.r) ∧ Lp (rBand c.l) (rLst rBand c.l at_) n i ft er at2 ft2 er2 xs) (fun _ iv _ => n - (intOf iv).toNat)
  case atStart => exact hst
  case round =>
    clear hst
    obtain ⟨i, xs, at2, ft2, er2, hin, rfl, hxl, hGS, hR, hG, hp⟩ := hrel
    have hown := fun g (e : u5.ownBlock = some g) => (hGS.choose_spec.1.lt g e)
    have hsW := hG.size
    by_cases hlt : i < n
    · have hlt' : (i : Int) < (n : Int) := by omega
      have hcall := band_any c wr hR
      have hrn : some c.r ≠ u5.ownBlock := fun e => by have := (hown _ e.symm).1; omega
      have hbn : c.l ≠ [] → ∀ b off, c.a = some ⟨b, off, none⟩ → some b ≠ u5.ownBlock := fun h0 b off ha e => by
        have := (hown _ e.symm).1
        have := hbW h0 b off ha
        omega
      go_wp2_with (first | (go_at_call 84; refine hcall.mono ?_; clear hcall; rintro e w2 hP; obtain ⟨x, v, at3, ft3, er3, he, hV, h3, hg3, hp3⟩ := hP; obtain ⟨cv, hcv, hEv⟩ := hV; have hcv2 := hEv.1; subst hcv2; subst hcv; subst he; have hE3 := hEv; have hGS2 := gs_alloc (gs_kept hGS hr hg3) (.cells #[.int .i64 x.1, .int .i64 x.2] 118); obtain ⟨cs, ho2, hEl2⟩ := hGS2; have hc3 := (h3.alloc (.cells #[.int .i64 x.1, .int .i64 x.2] 118)); have hs3 := hg3.size) | (at_builtin; refine wpList_append_own_at _ rfl _ _ 50 rfl W.heap.size 118 i0 _ 2 16 Tryz.underlying50 hi hz0 hz1 hz2 rfl (by decide) _ _ _ rfl ho2 ⟨w2.heap.size, 0, none⟩ 1 1 [.int .i64 x.1, .int .i64 x.2] rfl rfl (lit_at w2 #[.int .i64 x.1, .int .i64 x.2] 118) (by simp [Value.oneCell']) (by have := hxl.out; unfold maxLen; omega) (by have := hxl.out; omega) (by simp; omega) ?_; intro lv2 w4 hown4 hgrow4 _ hat4; have hR4 := hc3.other hgrow4 hrn hbn; have hG4 : W.grownBy w4 (some c.r) := ((hG.trans hg3).trans (World.grownBy_alloc w2 (.cells #[.int .i64 x.1, .int .i64 x.2] 118) (some c.r))).andThen hgrow4 (fun j hj => .inl (hown j hj).1); have c43 := hR4.c3; by_cases he3 : er3 = 0))
      · have he3' : ((er3 : Int) != 0) = false := by rw [he3]; rfl
        have hGS4 := gs_step (b0 := wr.heap.size) hEl2 (eBd.fr hE3 (World.grownBy_alloc w2 (.cells #[.int .i64 x.1, .int .i64 x.2] 118) none).size (fun b _ hlt => (World.grownBy_alloc w2 (.cells #[.int .i64 x.1, .int .i64 x.2] 118) none).block b hlt (by simp))) hsW (fun g e => (hown g e).2) hgrow4 hat4 hown4
        have hp4 : Lp (rBand c.l) (rLst rBand c.l at_) n (i + 1) ft er at3 ft3 er3 (xs ++ [x]) := by
          rw [he3] at hp3 ⊢
          exact hp.step hlt hp3
        clear he3
        go_wp2
        go_roundw
        case rel => exact ⟨i + 1, xs ++ [x], _, _, _, by omega, by go_num, ⟨by rw [List.length_append, hxl.out]; rfl⟩, hGS4, hR4, hG4, hp4⟩
        case measure => simp [intOf]; omega
      · have he3' : ((er3 : Int) != 0) = true := by simp; omega
        have hfin : Xc (rLst rBand) (VL eBd) c at_ ft er W (.returned (.slice none 0 0)) w4 := ⟨[], _, _, _, _, rfl, ⟨none, 0, rfl, .inl rfl⟩, hR4, hG4, hp.bad hlt hp3 he3⟩
        clear he3
        go_wp2
        exact bodyPost_ret (v := .slice none 0 0) (by simp [results, Tryz.results83, go_sem]) rfl hfin
    · have hlt' : ¬ (i : Int) < (n : Int) := by omega
      have hfin : Xc (rLst rBand) (VL eBd) c at_ ft er W (.returned u5) wr := ⟨xs, _, _, _, _, rfl, gs_done hGS, hR, hG, hp.done (by omega) hxl.out hin⟩
      clear hown hp hGS
      go_wp2
      exact bodyPost_ret (v := u5) (by simp [results, Tryz.results83, go_sem]) rfl hfin

set_option maxRecDepth 8000 in
set_option maxHeartbeats 4000000 in
theorem group_any (c : Rc) (W : World) {at_ ft er : Nat} (h : RS c W at_ ft er) : Calls Tryz.prog 56 #[.pointer (some ⟨c.r, 0, none⟩)] W (Xc rGroup (VE eG) c at_ ft er W) := by
  have hr := h.lt
  have hbW := h.below
  have hg0 := World.grownBy_alloc W (.cells #[.string ⟨#[]⟩, .int .i64 0] 81) (some c.r)
  have hb0 := bx_new W #[.string ⟨#[]⟩, .int .i64 0] 81
  have hc1 := text_any c _ (h.alloc (.cells #[.string ⟨#[]⟩, .int .i64 0] 81))
  have hrb : some W.heap.size ≠ some c.r := fun e => by injection e with e; omega
  clear h
  go_enter Tryz.func56, Tryz.ntmps56
  go_wp2_with (first | (go_at_call 49; go_loud (refine hc1.mono ?_; clear hc1; rintro e w1 hP; obtain ⟨x1, v1, at1, ft1, er1, he, hV1, h1, hg1, hp1⟩ := hP; have hv1 : v1 = .string ⟨x1.toArray⟩ := hV1; subst hv1; subst he; have hbk1 := hb0.kept hg1 hrb; have k1_0 : w1.cell? ⟨W.heap.size, 0, none⟩ = some (.string ⟨#[]⟩) := hbk1.2.1 0 (by simp); have f1_0 := hbk1.2.2 0; have h1x := (h1.setO (b := W.heap.size) (i := 0) (v := .string ⟨x1.toArray⟩) (lo := W.heap.size) (Nat.le_refl _) hr hbW); have hg1x := (gr_setO (b := W.heap.size) (i := 0) (v := .string ⟨x1.toArray⟩) (hg0.trans hg1) (Nat.le_refl _)); have hb1x : Bx (w1.setCell ⟨W.heap.size, 0, none⟩ (.string ⟨x1.toArray⟩)) W.heap.size [.string ⟨x1.toArray⟩, .int .i64 0] := (hbk1.set 0 (.string ⟨x1.toArray⟩)); have hc2 := integer_any c _ h1x)) | (go_at_call 50; go_loud (refine hc2.mono ?_; clear hc2; rintro e w2 hP; obtain ⟨x2, v2, at2, ft2, er2, he, hV2, h2, hg2, hp2⟩ := hP; obtain ⟨rfl, hr1_2, hr2_2⟩ := hV2; subst he; have hbk2 := hb1x.kept hg2 hrb; have k2_0 : w2.cell? ⟨W.heap.size, 1, none⟩ = some (.int .i64 0) := hbk2.2.1 1 (by simp); have f2_0 := hbk2.2.2 1; have h2x := (h2.setO (b := W.heap.size) (i := 1) (v := .int .i64 x2) (lo := W.heap.size) (Nat.le_refl _) hr hbW); have hg2x := (gr_setO (b := W.heap.size) (i := 1) (v := .int .i64 x2) (hg1x.trans hg2) (Nat.le_refl _)); have hb2x : Bx (w2.setCell ⟨W.heap.size, 1, none⟩ (.int .i64 x2)) W.heap.size [.string ⟨x1.toArray⟩, .int .i64 x2] := (hbk2.set 1 (.int .i64 x2)); have q0 : ((w2.setCell ⟨W.heap.size, 1, none⟩ (.int .i64 x2))).cell? ⟨W.heap.size, 0, none⟩ = some (.string ⟨x1.toArray⟩) := hb2x.2.1 0 (by simp); have id0 := set_id q0; have fz0 := hb2x.2.2 0; have q1 : ((w2.setCell ⟨W.heap.size, 1, none⟩ (.int .i64 x2))).cell? ⟨W.heap.size, 1, none⟩ = some (.int .i64 x2) := hb2x.2.1 1 (by simp); have id1 := set_id q1; have fz1 := hb2x.2.2 1)))
  have hfin : Xc rGroup (VE eG) c at_ ft er W (.returned (.agg #[.string ⟨x1.toArray⟩, .int .i64 x2])) (w2.setCell ⟨W.heap.size, 1, none⟩ (.int .i64 x2)) := ⟨(x1, x2), _, _, _, _, rfl, ⟨[.string ⟨x1.toArray⟩, .int .i64 x2], rfl, rfl, hr1_2, hr2_2⟩, h2x, hg2x, hp1.bd (hp2.bd (Xp.pure))⟩
  exact bodyPost_ret (v := .agg #[.string ⟨x1.toArray⟩, .int .i64 x2]) (by simp [results, Tryz.results56, go_sem, q0, q1]) rfl hfin

theorem info_group : (Tryz.prog.info? 81).map (fun i => (i.zero, i.size, i.bytes)) = some (some (.agg #[.string ⟨#[]⟩, .int .i64 0]), 2, 24) := by kernel_rfl
set_option maxRecDepth 8000 in
set_option maxHeartbeats 4000000 in
theorem getList_group (c : Rc) (W : World) {at_ ft er : Nat} (h : RS c W at_ ft er)  : Calls Tryz.prog 55 #[.pointer (some ⟨c.r, 0, none⟩), .func (Fn.func 56) #[.pointer (some ⟨c.r, 0, none⟩)] #[]] W (Xc (rLst rGroup) (VL eG) c at_ ft er W) := by
  obtain ⟨i0, hi, hz0, hz1, hz2⟩ := info_parts info_group
  have hn := length_any c W h
  have hln := h.ln
  have hr := h.lt
  have hbW := h.below
  clear h
  go_enter Tryz.func55, Tryz.ntmps55
  go_wp2_with (go_at_call 80; refine hn.mono ?_; clear hn; rintro e w1 ⟨n, at1, ft1, er1, rfl, hn1, h1, hg1, hp1⟩)
  have hn2 : n ≤ 262144 := by omega
  have hst : ∃ (i : Nat) (xs : List _) (at2 ft2 er2 : Nat), i ≤ n ∧ (Value.int .i64 0) = .int .i64 (i : Int) ∧ Hid (xs.length = i) ∧ GS eG 81 W.heap.size w1 (.slice none 0 0) xs ∧ RS c w1 at2 ft2 er2 ∧ W.grownBy w1 (some c.r) ∧ Lp (rGroup c.l) (rLst rGroup c.l at_) n i ft er at2 ft2 er2 xs := ⟨0, [], at1, ft1, er1, Nat.zero_le _, rfl, ⟨rfl⟩, gs_nil _ _ _ _, h1, hg1, Lp.start hp1 (fun he => by have := h1.en he; omega)⟩
  clear h1 hg1 hp1 hn1
  go_loopw [5, 8] (fun lv iv wr => ∃ (i : Nat) (xs : List _) (at2 ft2 er2 : Nat), i ≤ n ∧ iv = .int .i64 (i : Int) ∧ Hid (xs.length = i) ∧ GS eG 81 W.heap.size wr lv xs ∧ RS c wr at2 ft2 er2 ∧ W.grownBy wr (some c.r) ∧ Lp (rGroup c.l) (rLst rGroup c.l at_) n i ft er at2 ft2 er2 xs) (fun _ iv _ => n - (intOf iv).toNat)
  case atStart => exact hst
  case round =>
    clear hst
    obtain ⟨i, xs, at2, ft2, er2, hin, rfl, hxl, hGS, hR, hG, hp⟩ := hrel
    have hown := fun g (e : u5.ownBlock = some g) => (hGS.choose_spec.1.lt g e)
    have hsW := hG.size
    by_cases hlt : i < n
    · have hlt' : (i : Int) < (n : Int) := by omega
      have hcall := group_any c wr hR
      have hrn : some c.r ≠ u5.ownBlock := fun e => by have := (hown _ e.symm).1; omega
      have hbn : c.l ≠ [] → ∀ b off, c.a = some ⟨b, off, none⟩ → some b ≠ u5.ownBlock := fun h0 b off ha e => by
        have := (hown _ e.symm).1
        have := hbW h0 b off ha
        omega
      go_wp2_with (first | (go_at_call 56; refine hcall.mono ?_; clear hcall; rintro e w2 hP; obtain ⟨x, v, at3, ft3, er3, he, hV, h3, hg3, hp3⟩ := hP; obtain ⟨cv, hcv, hEv⟩ := hV; have hcv2 := hEv.1; subst hcv2; subst hcv; subst he; have hE3 := hEv; have hGS2 := gs_alloc (gs_kept hGS hr hg3) (.cells #[.string ⟨x.1.toArray⟩, .int .i64 x.2] 81); obtain ⟨cs, ho2, hEl2⟩ := hGS2; have hc3 := (h3.alloc (.cells #[.string ⟨x.1.toArray⟩, .int .i64 x.2] 81)); have hs3 := hg3.size) | (at_builtin; refine wpList_append_own_at _ rfl _ _ 24 rfl W.heap.size 81 i0 _ 2 24 Tryz.underlying24 hi hz0 hz1 hz2 rfl (by decide) _ _ _ rfl ho2 ⟨w2.heap.size, 0, none⟩ 1 1 [.string ⟨x.1.toArray⟩, .int .i64 x.2] rfl rfl (lit_at w2 #[.string ⟨x.1.toArray⟩, .int .i64 x.2] 81) (by simp [Value.oneCell']) (by have := hxl.out; unfold maxLen; omega) (by have := hxl.out; omega) (by simp; omega) ?_; intro lv2 w4 hown4 hgrow4 _ hat4; have hR4 := hc3.other hgrow4 hrn hbn; have hG4 : W.grownBy w4 (some c.r) := ((hG.trans hg3).trans (World.grownBy_alloc w2 (.cells #[.string ⟨x.1.toArray⟩, .int .i64 x.2] 81) (some c.r))).andThen hgrow4 (fun j hj => .inl (hown j hj).1); have c43 := hR4.c3; by_cases he3 : er3 = 0))
      · have he3' : ((er3 : Int) != 0) = false := by rw [he3]; rfl
        have hGS4 := gs_step (b0 := wr.heap.size) hEl2 (eG.fr hE3 (World.grownBy_alloc w2 (.cells #[.string ⟨x.1.toArray⟩, .int .i64 x.2] 81) none).size (fun b _ hlt => (World.grownBy_alloc w2 (.cells #[.string ⟨x.1.toArray⟩, .int .i64 x.2] 81) none).block b hlt (by simp))) hsW (fun g e => (hown g e).2) hgrow4 hat4 hown4
        have hp4 : Lp (rGroup c.l) (rLst rGroup c.l at_) n (i + 1) ft er at3 ft3 er3 (xs ++ [x]) := by
          rw [he3] at hp3 ⊢
          exact hp.step hlt hp3
        clear he3
        go_wp2
        go_roundw
        case rel => exact ⟨i + 1, xs ++ [x], _, _, _, by omega, by go_num, ⟨by rw [List.length_append, hxl.out]; rfl⟩, hGS4, hR4, hG4, hp4⟩
        case measure => simp [intOf]; omega
      · have he3' : ((er3 : Int) != 0) = true := by simp; omega
        have hfin : Xc (rLst rGroup) (VL eG) c at_ ft er W (.returned (.slice none 0 0)) w4 := ⟨[], _, _, _, _, rfl, ⟨none, 0, rfl, .inl rfl⟩, hR4, hG4, hp.bad hlt hp3 he3⟩
        clear he3
        go_wp2
        exact bodyPost_ret (v := .slice none 0 0) (by simp [results, Tryz.results55, go_sem]) rfl hfin
    · have hlt' : ¬ (i : Int) < (n : Int) := by omega
      have hfin : Xc (rLst rGroup) (VL eG) c at_ ft er W (.returned u5) wr := ⟨xs, _, _, _, _, rfl, gs_done hGS, hR, hG, hp.done (by omega) hxl.out hin⟩
      clear hown hp hGS
      go_wp2
      exact bodyPost_ret (v := u5) (by simp [results, Tryz.results55, go_sem]) rfl hfin

set_option maxRecDepth 8000 in
set_option maxHeartbeats 4000000 in
theorem options_any (c : Rc) (W : World) {at_ ft er : Nat} (h : RS c W at_ ft er) : Calls Tryz.prog 52 #[.pointer (some ⟨c.r, 0, none⟩)] W (Xc rOptions (VE eO) c at_ ft er W) := by
  have hr := h.lt
  have hbW := h.below
  have hg0 := World.grownBy_alloc W (.cells #[.string ⟨#[]⟩, .slice none 0 0] 49) (some c.r)
  have hb0 := bx_new W #[.string ⟨#[]⟩, .slice none 0 0] 49
  have hc1 := text_any c _ (h.alloc (.cells #[.string ⟨#[]⟩, .slice none 0 0] 49))
  have hrb : some W.heap.size ≠ some c.r := fun e => by injection e with e; omega
  clear h
  go_enter Tryz.func52, Tryz.ntmps52
  go_wp2_with (first | (go_at_call 49; go_loud (refine hc1.mono ?_; clear hc1; rintro e w1 hP; obtain ⟨x1, v1, at1, ft1, er1, he, hV1, h1, hg1, hp1⟩ := hP; have hv1 : v1 = .string ⟨x1.toArray⟩ := hV1; subst hv1; subst he; have hbk1 := hb0.kept hg1 hrb; have k1_0 : w1.cell? ⟨W.heap.size, 0, none⟩ = some (.string ⟨#[]⟩) := hbk1.2.1 0 (by simp); have f1_0 := hbk1.2.2 0; have h1x := (h1.setO (b := W.heap.size) (i := 0) (v := .string ⟨x1.toArray⟩) (lo := W.heap.size) (Nat.le_refl _) hr hbW); have hg1x := (gr_setO (b := W.heap.size) (i := 0) (v := .string ⟨x1.toArray⟩) (hg0.trans hg1) (Nat.le_refl _)); have hb1x : Bx (w1.setCell ⟨W.heap.size, 0, none⟩ (.string ⟨x1.toArray⟩)) W.heap.size [.string ⟨x1.toArray⟩, .slice none 0 0] := (hbk1.set 0 (.string ⟨x1.toArray⟩)); have hc2 := getList_str c _ h1x)) | (go_at_call 82; go_loud (refine hc2.mono ?_; clear hc2; rintro e w2 hP; obtain ⟨x2, v2, at2, ft2, er2, he, hV2, h2, hg2, hp2⟩ := hP; obtain ⟨a2, cap2, hv2, hrow2⟩ := hV2; subst hv2; subst he; have hbk2 := hb1x.kept hg2 hrb; have k2_0 : w2.cell? ⟨W.heap.size, 1, none⟩ = some (.slice none 0 0) := hbk2.2.1 1 (by simp); have f2_0 := hbk2.2.2 1; have h2x := (h2.setO (b := W.heap.size) (i := 1) (v := .slice a2 x2.length cap2) (lo := W.heap.size) (Nat.le_refl _) hr hbW); have hg2x := (gr_setO (b := W.heap.size) (i := 1) (v := .slice a2 x2.length cap2) (hg1x.trans hg2) (Nat.le_refl _)); have hb2x : Bx (w2.setCell ⟨W.heap.size, 1, none⟩ (.slice a2 x2.length cap2)) W.heap.size [.string ⟨x1.toArray⟩, .slice a2 x2.length cap2] := (hbk2.set 1 (.slice a2 x2.length cap2)); have hlo2 := hb1x.1; have hrow2 := row_gr hrow2 (gr_set _ W.heap.size 1 (.slice a2 x2.length cap2)) (by omega); have q0 : ((w2.setCell ⟨W.heap.size, 1, none⟩ (.slice a2 x2.length cap2))).cell? ⟨W.heap.size, 0, none⟩ = some (.string ⟨x1.toArray⟩) := hb2x.2.1 0 (by simp); have id0 := set_id q0; have fz0 := hb2x.2.2 0; have q1 : ((w2.setCell ⟨W.heap.size, 1, none⟩ (.slice a2 x2.length cap2))).cell? ⟨W.heap.size, 1, none⟩ = some (.slice a2 x2.length cap2) := hb2x.2.1 1 (by simp); have id1 := set_id q1; have fz1 := hb2x.2.2 1)))
  have hfin : Xc rOptions (VE eO) c at_ ft er W (.returned (.agg #[.string ⟨x1.toArray⟩, .slice a2 x2.length cap2])) (w2.setCell ⟨W.heap.size, 1, none⟩ (.slice a2 x2.length cap2)) := ⟨(x1, x2), _, _, _, _, rfl, ⟨[.string ⟨x1.toArray⟩, .slice a2 x2.length cap2], rfl, a2, cap2, rfl, hrow2.mo (fun b _ hb => by omega)⟩, h2x, hg2x, hp1.bd (hp2.bd (Xp.pure))⟩
  exact bodyPost_ret (v := .agg #[.string ⟨x1.toArray⟩, .slice a2 x2.length cap2]) (by simp [results, Tryz.results52, go_sem, q0, q1]) rfl hfin

theorem info_options : (Tryz.prog.info? 49).map (fun i => (i.zero, i.size, i.bytes)) = some (some (.agg #[.string ⟨#[]⟩, .slice none 0 0]), 2, 40) := by kernel_rfl
set_option maxRecDepth 8000 in
set_option maxHeartbeats 4000000 in
theorem getList_options (c : Rc) (W : World) {at_ ft er : Nat} (h : RS c W at_ ft er)  : Calls Tryz.prog 51 #[.pointer (some ⟨c.r, 0, none⟩), .func (Fn.func 52) #[.pointer (some ⟨c.r, 0, none⟩)] #[]] W (Xc (rLst rOptions) (VL eO) c at_ ft er W) := by
  obtain ⟨i0, hi, hz0, hz1, hz2⟩ := info_parts info_options
  have hn := length_any c W h
  have hln := h.ln
  have hr := h.lt
  have hbW := h.below
  clear h
  go_enter Tryz.func51, Tryz.ntmps51
  go_wp2_with (go_at_call 80; refine hn.mono ?_; clear hn; rintro e w1 ⟨n, at1, ft1, er1, rfl, hn1, h1, hg1, hp1⟩)
  have hn2 : n ≤ 262144 := by omega
  have hst : ∃ (i : Nat) (xs : List _) (at2 ft2 er2 : Nat), i ≤ n ∧ (Value.int .i64 0) = .int .i64 (i : Int) ∧ Hid (xs.length = i) ∧ GS eO 49 W.heap.size w1 (.slice none 0 0) xs ∧ RS c w1 at2 ft2 er2 ∧ W.grownBy w1 (some c.r) ∧ Lp (rOptions c.l) (rLst rOptions c.l at_) n i ft er at2 ft2 er2 xs := ⟨0, [], at1, ft1, er1, Nat.zero_le _, rfl, ⟨rfl⟩, gs_nil _ _ _ _, h1, hg1, Lp.start hp1 (fun he => by have := h1.en he; omega)⟩
  clear h1 hg1 hp1 hn1
  go_loopw [5, 8] (fun lv iv wr => ∃ (i : Nat) (xs : List _) (at2 ft2 er2 : Nat), i ≤ n ∧ iv = .int .i64 (i : Int) ∧ Hid (xs.length = i) ∧ GS eO 49 W.heap.size wr lv xs ∧ RS c wr at2 ft2 er2 ∧ W.grownBy wr (some c.r) ∧ Lp (rOptions c.l) (rLst rOptions c.l at_) n i ft er at2 ft2 er2 xs) (fun _ iv _ => n - (intOf iv).toNat)
  case atStart => exact hst
  case round =>
    clear hst
    obtain ⟨i, xs, at2, ft2, er2, hin, rfl, hxl, hGS, hR, hG, hp⟩ := hrel
    have hown := fun g (e : u5.ownBlock = some g) => (hGS.choose_spec.1.lt g e)
    have hsW := hG.size
    by_cases hlt : i < n
    · have hlt' : (i : Int) < (n : Int) := by omega
      have hcall := options_any c wr hR
      have hrn : some c.r ≠ u5.ownBlock := fun e => by have := (hown _ e.symm).1; omega
      have hbn : c.l ≠ [] → ∀ b off, c.a = some ⟨b, off, none⟩ → some b ≠ u5.ownBlock := fun h0 b off ha e => by
        have := (hown _ e.symm).1
        have := hbW h0 b off ha
        omega
      go_wp2_with (first | (go_at_call 52; refine hcall.mono ?_; clear hcall; rintro e w2 hP; obtain ⟨x, v, at3, ft3, er3, he, hV, h3, hg3, hp3⟩ := hP; obtain ⟨cv, hcv, hEv⟩ := hV; have hEv0 := hEv; obtain ⟨a9, cap9, hcv2, -⟩ := hEv0; subst hcv2; subst hcv; subst he; have hE3 := hEv; have hGS2 := gs_alloc (gs_kept hGS hr hg3) (.cells #[.string ⟨x.1.toArray⟩, .slice a9 x.2.length cap9] 49); obtain ⟨cs, ho2, hEl2⟩ := hGS2; have hc3 := (h3.alloc (.cells #[.string ⟨x.1.toArray⟩, .slice a9 x.2.length cap9] 49)); have hs3 := hg3.size) | (at_builtin; refine wpList_append_own_at _ rfl _ _ 22 rfl W.heap.size 49 i0 _ 2 40 Tryz.underlying22 hi hz0 hz1 hz2 rfl (by decide) _ _ _ rfl ho2 ⟨w2.heap.size, 0, none⟩ 1 1 [.string ⟨x.1.toArray⟩, .slice a9 x.2.length cap9] rfl rfl (lit_at w2 #[.string ⟨x.1.toArray⟩, .slice a9 x.2.length cap9] 49) (by simp [Value.oneCell']) (by have := hxl.out; unfold maxLen; omega) (by have := hxl.out; omega) (by simp; omega) ?_; intro lv2 w4 hown4 hgrow4 _ hat4; have hR4 := hc3.other hgrow4 hrn hbn; have hG4 : W.grownBy w4 (some c.r) := ((hG.trans hg3).trans (World.grownBy_alloc w2 (.cells #[.string ⟨x.1.toArray⟩, .slice a9 x.2.length cap9] 49) (some c.r))).andThen hgrow4 (fun j hj => .inl (hown j hj).1); have c43 := hR4.c3; by_cases he3 : er3 = 0))
      · have he3' : ((er3 : Int) != 0) = false := by rw [he3]; rfl
        have hGS4 := gs_step (b0 := wr.heap.size) hEl2 (eO.fr hE3 (World.grownBy_alloc w2 (.cells #[.string ⟨x.1.toArray⟩, .slice a9 x.2.length cap9] 49) none).size (fun b _ hlt => (World.grownBy_alloc w2 (.cells #[.string ⟨x.1.toArray⟩, .slice a9 x.2.length cap9] 49) none).block b hlt (by simp))) hsW (fun g e => (hown g e).2) hgrow4 hat4 hown4
        have hp4 : Lp (rOptions c.l) (rLst rOptions c.l at_) n (i + 1) ft er at3 ft3 er3 (xs ++ [x]) := by
          rw [he3] at hp3 ⊢
          exact hp.step hlt hp3
        clear he3
        go_wp2
        go_roundw
        case rel => exact ⟨i + 1, xs ++ [x], _, _, _, by omega, by go_num, ⟨by rw [List.length_append, hxl.out]; rfl⟩, hGS4, hR4, hG4, hp4⟩
        case measure => simp [intOf]; omega
      · have he3' : ((er3 : Int) != 0) = true := by simp; omega
        have hfin : Xc (rLst rOptions) (VL eO) c at_ ft er W (.returned (.slice none 0 0)) w4 := ⟨[], _, _, _, _, rfl, ⟨none, 0, rfl, .inl rfl⟩, hR4, hG4, hp.bad hlt hp3 he3⟩
        clear he3
        go_wp2
        exact bodyPost_ret (v := .slice none 0 0) (by simp [results, Tryz.results51, go_sem]) rfl hfin
    · have hlt' : ¬ (i : Int) < (n : Int) := by omega
      have hfin : Xc (rLst rOptions) (VL eO) c at_ ft er W (.returned u5) wr := ⟨xs, _, _, _, _, rfl, gs_done hGS, hR, hG, hp.done (by omega) hxl.out hin⟩
      clear hown hp hGS
      go_wp2
      exact bodyPost_ret (v := u5) (by simp [results, Tryz.results51, go_sem]) rfl hfin

set_option maxRecDepth 8000 in
set_option maxHeartbeats 4000000 in
theorem table_any (c : Rc) (W : World) {at_ ft er : Nat} (h : RS c W at_ ft er) : Calls Tryz.prog 54 #[.pointer (some ⟨c.r, 0, none⟩)] W (Xc rTable (VE eT) c at_ ft er W) := by
  have hr := h.lt
  have hbW := h.below
  have hg0 := World.grownBy_alloc W (.cells #[.string ⟨#[]⟩, .slice none 0 0] 52) (some c.r)
  have hb0 := bx_new W #[.string ⟨#[]⟩, .slice none 0 0] 52
  have hc1 := text_any c _ (h.alloc (.cells #[.string ⟨#[]⟩, .slice none 0 0] 52))
  have hrb : some W.heap.size ≠ some c.r := fun e => by injection e with e; omega
  clear h
  go_enter Tryz.func54, Tryz.ntmps54
  go_wp2_with (first | (go_at_call 49; go_loud (refine hc1.mono ?_; clear hc1; rintro e w1 hP; obtain ⟨x1, v1, at1, ft1, er1, he, hV1, h1, hg1, hp1⟩ := hP; have hv1 : v1 = .string ⟨x1.toArray⟩ := hV1; subst hv1; subst he; have hbk1 := hb0.kept hg1 hrb; have k1_0 : w1.cell? ⟨W.heap.size, 0, none⟩ = some (.string ⟨#[]⟩) := hbk1.2.1 0 (by simp); have f1_0 := hbk1.2.2 0; have h1x := (h1.setO (b := W.heap.size) (i := 0) (v := .string ⟨x1.toArray⟩) (lo := W.heap.size) (Nat.le_refl _) hr hbW); have hg1x := (gr_setO (b := W.heap.size) (i := 0) (v := .string ⟨x1.toArray⟩) (hg0.trans hg1) (Nat.le_refl _)); have hb1x : Bx (w1.setCell ⟨W.heap.size, 0, none⟩ (.string ⟨x1.toArray⟩)) W.heap.size [.string ⟨x1.toArray⟩, .slice none 0 0] := (hbk1.set 0 (.string ⟨x1.toArray⟩)); have hc2 := getList_band c _ h1x)) | (go_at_call 83; go_loud (refine hc2.mono ?_; clear hc2; rintro e w2 hP; obtain ⟨x2, v2, at2, ft2, er2, he, hV2, h2, hg2, hp2⟩ := hP; obtain ⟨a2, cap2, hv2, hrow2⟩ := hV2; subst hv2; subst he; have hbk2 := hb1x.kept hg2 hrb; have k2_0 : w2.cell? ⟨W.heap.size, 1, none⟩ = some (.slice none 0 0) := hbk2.2.1 1 (by simp); have f2_0 := hbk2.2.2 1; have h2x := (h2.setO (b := W.heap.size) (i := 1) (v := .slice a2 x2.length cap2) (lo := W.heap.size) (Nat.le_refl _) hr hbW); have hg2x := (gr_setO (b := W.heap.size) (i := 1) (v := .slice a2 x2.length cap2) (hg1x.trans hg2) (Nat.le_refl _)); have hb2x : Bx (w2.setCell ⟨W.heap.size, 1, none⟩ (.slice a2 x2.length cap2)) W.heap.size [.string ⟨x1.toArray⟩, .slice a2 x2.length cap2] := (hbk2.set 1 (.slice a2 x2.length cap2)); have hlo2 := hb1x.1; have hrow2 := row_gr hrow2 (gr_set _ W.heap.size 1 (.slice a2 x2.length cap2)) (by omega); have q0 : ((w2.setCell ⟨W.heap.size, 1, none⟩ (.slice a2 x2.length cap2))).cell? ⟨W.heap.size, 0, none⟩ = some (.string ⟨x1.toArray⟩) := hb2x.2.1 0 (by simp); have id0 := set_id q0; have fz0 := hb2x.2.2 0; have q1 : ((w2.setCell ⟨W.heap.size, 1, none⟩ (.slice a2 x2.length cap2))).cell? ⟨W.heap.size, 1, none⟩ = some (.slice a2 x2.length cap2) := hb2x.2.1 1 (by simp); have id1 := set_id q1; have fz1 := hb2x.2.2 1)))
  have hfin : Xc rTable (VE eT) c at_ ft er W (.returned (.agg #[.string ⟨x1.toArray⟩, .slice a2 x2.length cap2])) (w2.setCell ⟨W.heap.size, 1, none⟩ (.slice a2 x2.length cap2)) := ⟨(x1, x2), _, _, _, _, rfl, ⟨[.string ⟨x1.toArray⟩, .slice a2 x2.length cap2], rfl, a2, cap2, rfl, hrow2.mo (fun b _ hb => by omega)⟩, h2x, hg2x, hp1.bd (hp2.bd (Xp.pure))⟩
  exact bodyPost_ret (v := .agg #[.string ⟨x1.toArray⟩, .slice a2 x2.length cap2]) (by simp [results, Tryz.results54, go_sem, q0, q1]) rfl hfin

theorem info_table : (Tryz.prog.info? 52).map (fun i => (i.zero, i.size, i.bytes)) = some (some (.agg #[.string ⟨#[]⟩, .slice none 0 0]), 2, 40) := by kernel_rfl
set_option maxRecDepth 8000 in
set_option maxHeartbeats 4000000 in
theorem getList_table (c : Rc) (W : World) {at_ ft er : Nat} (h : RS c W at_ ft er)  : Calls Tryz.prog 53 #[.pointer (some ⟨c.r, 0, none⟩), .func (Fn.func 54) #[.pointer (some ⟨c.r, 0, none⟩)] #[]] W (Xc (rLst rTable) (VL eT) c at_ ft er W) := by
  obtain ⟨i0, hi, hz0, hz1, hz2⟩ := info_parts info_table
  have hn := length_any c W h
  have hln := h.ln
  have hr := h.lt
  have hbW := h.below
  clear h
  go_enter Tryz.func53, Tryz.ntmps53
  go_wp2_with (go_at_call 80; refine hn.mono ?_; clear hn; rintro e w1 ⟨n, at1, ft1, er1, rfl, hn1, h1, hg1, hp1⟩)
  have hn2 : n ≤ 262144 := by omega
  have hst : ∃ (i : Nat) (xs : List _) (at2 ft2 er2 : Nat), i ≤ n ∧ (Value.int .i64 0) = .int .i64 (i : Int) ∧ Hid (xs.length = i) ∧ GS eT 52 W.heap.size w1 (.slice none 0 0) xs ∧ RS c w1 at2 ft2 er2 ∧ W.grownBy w1 (some c.r) ∧ Lp (rTable c.l) (rLst rTable c.l at_) n i ft er at2 ft2 er2 xs := ⟨0, [], at1, ft1, er1, Nat.zero_le _, rfl, ⟨rfl⟩, gs_nil _ _ _ _, h1, hg1, Lp.start hp1 (fun he => by have := h1.en he; omega)⟩
  clear h1 hg1 hp1 hn1
  go_loopw [5, 8] (fun lv iv wr => ∃ (i : Nat) (xs : List _) (at2 ft2 er2 : Nat), i ≤ n ∧ iv = .int .i64 (i : Int) ∧ Hid (xs.length = i) ∧ GS eT 52 W.heap.size wr lv xs ∧ RS c wr at2 ft2 er2 ∧ W.grownBy wr (some c.r) ∧ Lp (rTable c.l) (rLst rTable c.l at_) n i ft er at2 ft2 er2 xs) (fun _ iv _ => n - (intOf iv).toNat)
  case atStart => exact hst
  case round =>
    clear hst
    obtain ⟨i, xs, at2, ft2, er2, hin, rfl, hxl, hGS, hR, hG, hp⟩ := hrel
    have hown := fun g (e : u5.ownBlock = some g) => (hGS.choose_spec.1.lt g e)
    have hsW := hG.size
    by_cases hlt : i < n
    · have hlt' : (i : Int) < (n : Int) := by omega
      have hcall := table_any c wr hR
      have hrn : some c.r ≠ u5.ownBlock := fun e => by have := (hown _ e.symm).1; omega
      have hbn : c.l ≠ [] → ∀ b off, c.a = some ⟨b, off, none⟩ → some b ≠ u5.ownBlock := fun h0 b off ha e => by
        have := (hown _ e.symm).1
        have := hbW h0 b off ha
        omega
      go_wp2_with (first | (go_at_call 54; refine hcall.mono ?_; clear hcall; rintro e w2 hP; obtain ⟨x, v, at3, ft3, er3, he, hV, h3, hg3, hp3⟩ := hP; obtain ⟨cv, hcv, hEv⟩ := hV; have hEv0 := hEv; obtain ⟨a9, cap9, hcv2, -⟩ := hEv0; subst hcv2; subst hcv; subst he; have hE3 := hEv; have hGS2 := gs_alloc (gs_kept hGS hr hg3) (.cells #[.string ⟨x.1.toArray⟩, .slice a9 x.2.length cap9] 52); obtain ⟨cs, ho2, hEl2⟩ := hGS2; have hc3 := (h3.alloc (.cells #[.string ⟨x.1.toArray⟩, .slice a9 x.2.length cap9] 52)); have hs3 := hg3.size) | (at_builtin; refine wpList_append_own_at _ rfl _ _ 23 rfl W.heap.size 52 i0 _ 2 40 Tryz.underlying23 hi hz0 hz1 hz2 rfl (by decide) _ _ _ rfl ho2 ⟨w2.heap.size, 0, none⟩ 1 1 [.string ⟨x.1.toArray⟩, .slice a9 x.2.length cap9] rfl rfl (lit_at w2 #[.string ⟨x.1.toArray⟩, .slice a9 x.2.length cap9] 52) (by simp [Value.oneCell']) (by have := hxl.out; unfold maxLen; omega) (by have := hxl.out; omega) (by simp; omega) ?_; intro lv2 w4 hown4 hgrow4 _ hat4; have hR4 := hc3.other hgrow4 hrn hbn; have hG4 : W.grownBy w4 (some c.r) := ((hG.trans hg3).trans (World.grownBy_alloc w2 (.cells #[.string ⟨x.1.toArray⟩, .slice a9 x.2.length cap9] 52) (some c.r))).andThen hgrow4 (fun j hj => .inl (hown j hj).1); have c43 := hR4.c3; by_cases he3 : er3 = 0))
      · have he3' : ((er3 : Int) != 0) = false := by rw [he3]; rfl
        have hGS4 := gs_step (b0 := wr.heap.size) hEl2 (eT.fr hE3 (World.grownBy_alloc w2 (.cells #[.string ⟨x.1.toArray⟩, .slice a9 x.2.length cap9] 52) none).size (fun b _ hlt => (World.grownBy_alloc w2 (.cells #[.string ⟨x.1.toArray⟩, .slice a9 x.2.length cap9] 52) none).block b hlt (by simp))) hsW (fun g e => (hown g e).2) hgrow4 hat4 hown4
        have hp4 : Lp (rTable c.l) (rLst rTable c.l at_) n (i + 1) ft er at3 ft3 er3 (xs ++ [x]) := by
          rw [he3] at hp3 ⊢
          exact hp.step hlt hp3
        clear he3
        go_wp2
        go_roundw
        case rel => exact ⟨i + 1, xs ++ [x], _, _, _, by omega, by go_num, ⟨by rw [List.length_append, hxl.out]; rfl⟩, hGS4, hR4, hG4, hp4⟩
        case measure => simp [intOf]; omega
      · have he3' : ((er3 : Int) != 0) = true := by simp; omega
        have hfin : Xc (rLst rTable) (VL eT) c at_ ft er W (.returned (.slice none 0 0)) w4 := ⟨[], _, _, _, _, rfl, ⟨none, 0, rfl, .inl rfl⟩, hR4, hG4, hp.bad hlt hp3 he3⟩
        clear he3
        go_wp2
        exact bodyPost_ret (v := .slice none 0 0) (by simp [results, Tryz.results53, go_sem]) rfl hfin
    · have hlt' : ¬ (i : Int) < (n : Int) := by omega
      have hfin : Xc (rLst rTable) (VL eT) c at_ ft er W (.returned u5) wr := ⟨xs, _, _, _, _, rfl, gs_done hGS, hR, hG, hp.done (by omega) hxl.out hin⟩
      clear hown hp hGS
      go_wp2
      exact bodyPost_ret (v := u5) (by simp [results, Tryz.results53, go_sem]) rfl hfin

end Go.Proofs.YtmklkcefbabhbaaGreat
