import Derived.Test.YtjgngmmepheioaaPxE
namespace Go.Proofs.Ytjgngmmepheioaa
open Go.RowKit

theorem ee_gr {w w' : World} {lo k : Nat} {x : Ex} {cs : List Value} (h : eE.E w (fun b => lo ≤ b) x cs) (hg : w.grownBy w' (some k)) (hk : k < lo) : eE.E w' (fun b => lo ≤ b) x cs := eE.fr h hg.size (fun b hb hlt => hg.block b hlt (fun e => by injection e with e; omega))
/-- What is asked of expr, so deep. -/
def ExprIs (d : Nat) : Prop := ∀ (c : Rc) (W : World) (at_ ft er : Nat), RS c W at_ ft er → Calls Try.prog 74 #[.pointer (some ⟨c.r, 0, none⟩), .int .i64 (d : Int)] W (Xc (rExpr (65 - d)) (VE eE) c at_ ft er W)
set_option maxRecDepth 8000 in
set_option maxHeartbeats 4000000 in
theorem args1_any (d : Nat) (ih : ExprIs d) (b1 b2 : Nat) (c : Rc) (W : World) {at_ ft er : Nat} (h : RS c W at_ ft er) (hc1 : W.cell? ⟨b1, 0, none⟩ = some (.pointer (some ⟨c.r, 0, none⟩))) (hc2 : W.cell? ⟨b2, 0, none⟩ = some (.int .i64 (d : Int))) : Calls Try.prog 80 #[.pointer (some ⟨b1, 0, none⟩), .pointer (some ⟨b2, 0, none⟩)] W (Xc (rExpr (65 - d)) (VE eE) c at_ ft er W) := by
  have hr := h.lt
  have hbW := h.below
  have hg0 := World.grownBy_alloc W (.cells #[.int .i64 0, .int .i64 0, .int .i64 0, .int .i64 0, .slice none 0 0] 77) (some c.r)
  have hgn := World.grownBy_alloc W (.cells #[.int .i64 0, .int .i64 0, .int .i64 0, .int .i64 0, .slice none 0 0] 77) none
  have hb0 := bx_new W #[.int .i64 0, .int .i64 0, .int .i64 0, .int .i64 0, .slice none 0 0] 77
  have hrb : some W.heap.size ≠ some c.r := fun e => by injection e with e; omega
  have d1 := (gr_cell hgn (World.block_lt_of_cell? _ _ hc1) (by simp) 0).trans hc1
  have d2 := (gr_cell hgn (World.block_lt_of_cell? _ _ hc2) (by simp) 0).trans hc2
  have hx := ih c _ _ _ _ (h.alloc (.cells #[.int .i64 0, .int .i64 0, .int .i64 0, .int .i64 0, .slice none 0 0] 77))
  have hlo := hb0.1
  clear h hc1 hc2 hgn
  go_enter Try.func80, Try.ntmps80
  go_wp2_with (go_at_call 74; go_loud (refine hx.mono ?_; clear hx; rintro e w2 hP; obtain ⟨x, v, at3, ft3, er3, he, hV, h3, hg3, hp3⟩ := hP; obtain ⟨cv, hcv, hEv⟩ := hV; have hEv0 := hEv; obtain ⟨a9, cap9, hcv2, -, -⟩ := hEv0; subst hcv2; subst hcv; subst he; have hbk := hb0.kept hg3 hrb; have k0 : w2.cell? ⟨W.heap.size, 0, none⟩ = some (.int .i64 0) := hbk.2.1 0 (by simp); have f0 := hbk.2.2 0; have k1 : w2.cell? ⟨W.heap.size, 1, none⟩ = some (.int .i64 0) := hbk.2.1 1 (by simp); have f1 := hbk.2.2 1; have k2 : w2.cell? ⟨W.heap.size, 2, none⟩ = some (.int .i64 0) := hbk.2.1 2 (by simp); have f2 := hbk.2.2 2; have k3 : w2.cell? ⟨W.heap.size, 3, none⟩ = some (.int .i64 0) := hbk.2.1 3 (by simp); have f3 := hbk.2.2 3; have k4 : w2.cell? ⟨W.heap.size, 4, none⟩ = some (.slice none 0 0) := hbk.2.1 4 (by simp); have f4 := hbk.2.2 4; have hbx : Bx (((((w2.setCell ⟨W.heap.size, 0, none⟩ (.int .i64 x.op)).setCell ⟨W.heap.size, 1, none⟩ (.int .i64 x.num)).setCell ⟨W.heap.size, 2, none⟩ (.int .i64 x.den)).setCell ⟨W.heap.size, 3, none⟩ (.int .i64 x.mode)).setCell ⟨W.heap.size, 4, none⟩ (.slice a9 x.args.len cap9)) W.heap.size [.int .i64 x.op, .int .i64 x.num, .int .i64 x.den, .int .i64 x.mode, .slice a9 x.args.len cap9] := (((((hbk.set 0 (.int .i64 x.op)).set 1 (.int .i64 x.num)).set 2 (.int .i64 x.den)).set 3 (.int .i64 x.mode)).set 4 (.slice a9 x.args.len cap9)); have q0 : (((((w2.setCell ⟨W.heap.size, 0, none⟩ (.int .i64 x.op)).setCell ⟨W.heap.size, 1, none⟩ (.int .i64 x.num)).setCell ⟨W.heap.size, 2, none⟩ (.int .i64 x.den)).setCell ⟨W.heap.size, 3, none⟩ (.int .i64 x.mode)).setCell ⟨W.heap.size, 4, none⟩ (.slice a9 x.args.len cap9)).cell? ⟨W.heap.size, 0, none⟩ = some (.int .i64 x.op) := hbx.2.1 0 (by simp); have q1 : (((((w2.setCell ⟨W.heap.size, 0, none⟩ (.int .i64 x.op)).setCell ⟨W.heap.size, 1, none⟩ (.int .i64 x.num)).setCell ⟨W.heap.size, 2, none⟩ (.int .i64 x.den)).setCell ⟨W.heap.size, 3, none⟩ (.int .i64 x.mode)).setCell ⟨W.heap.size, 4, none⟩ (.slice a9 x.args.len cap9)).cell? ⟨W.heap.size, 1, none⟩ = some (.int .i64 x.num) := hbx.2.1 1 (by simp); have q2 : (((((w2.setCell ⟨W.heap.size, 0, none⟩ (.int .i64 x.op)).setCell ⟨W.heap.size, 1, none⟩ (.int .i64 x.num)).setCell ⟨W.heap.size, 2, none⟩ (.int .i64 x.den)).setCell ⟨W.heap.size, 3, none⟩ (.int .i64 x.mode)).setCell ⟨W.heap.size, 4, none⟩ (.slice a9 x.args.len cap9)).cell? ⟨W.heap.size, 2, none⟩ = some (.int .i64 x.den) := hbx.2.1 2 (by simp); have q3 : (((((w2.setCell ⟨W.heap.size, 0, none⟩ (.int .i64 x.op)).setCell ⟨W.heap.size, 1, none⟩ (.int .i64 x.num)).setCell ⟨W.heap.size, 2, none⟩ (.int .i64 x.den)).setCell ⟨W.heap.size, 3, none⟩ (.int .i64 x.mode)).setCell ⟨W.heap.size, 4, none⟩ (.slice a9 x.args.len cap9)).cell? ⟨W.heap.size, 3, none⟩ = some (.int .i64 x.mode) := hbx.2.1 3 (by simp); have q4 : (((((w2.setCell ⟨W.heap.size, 0, none⟩ (.int .i64 x.op)).setCell ⟨W.heap.size, 1, none⟩ (.int .i64 x.num)).setCell ⟨W.heap.size, 2, none⟩ (.int .i64 x.den)).setCell ⟨W.heap.size, 3, none⟩ (.int .i64 x.mode)).setCell ⟨W.heap.size, 4, none⟩ (.slice a9 x.args.len cap9)).cell? ⟨W.heap.size, 4, none⟩ = some (.slice a9 x.args.len cap9) := hbx.2.1 4 (by simp)))
  have hfin : Xc (rExpr (65 - d)) (VE eE) c at_ ft er W (.returned (.agg #[.int .i64 x.op, .int .i64 x.num, .int .i64 x.den, .int .i64 x.mode, .slice a9 x.args.len cap9])) (((((w2.setCell ⟨W.heap.size, 0, none⟩ (.int .i64 x.op)).setCell ⟨W.heap.size, 1, none⟩ (.int .i64 x.num)).setCell ⟨W.heap.size, 2, none⟩ (.int .i64 x.den)).setCell ⟨W.heap.size, 3, none⟩ (.int .i64 x.mode)).setCell ⟨W.heap.size, 4, none⟩ (.slice a9 x.args.len cap9)) := ⟨x, _, _, _, _, rfl, ⟨[.int .i64 x.op, .int .i64 x.num, .int .i64 x.den, .int .i64 x.mode, .slice a9 x.args.len cap9], rfl, eE.mo (ee_gr (ee_gr (ee_gr (ee_gr (ee_gr hEv (gr_set _ W.heap.size 0 (.int .i64 x.op)) hlo) (gr_set _ W.heap.size 1 (.int .i64 x.num)) hlo) (gr_set _ W.heap.size 2 (.int .i64 x.den)) hlo) (gr_set _ W.heap.size 3 (.int .i64 x.mode)) hlo) (gr_set _ W.heap.size 4 (.slice a9 x.args.len cap9)) hlo) (fun b _ hb => by omega)⟩, (((((h3.setO (b := W.heap.size) (i := 0) (v := .int .i64 x.op) (lo := W.heap.size) (Nat.le_refl _) hr hbW).setO (b := W.heap.size) (i := 1) (v := .int .i64 x.num) (lo := W.heap.size) (Nat.le_refl _) hr hbW).setO (b := W.heap.size) (i := 2) (v := .int .i64 x.den) (lo := W.heap.size) (Nat.le_refl _) hr hbW).setO (b := W.heap.size) (i := 3) (v := .int .i64 x.mode) (lo := W.heap.size) (Nat.le_refl _) hr hbW).setO (b := W.heap.size) (i := 4) (v := .slice a9 x.args.len cap9) (lo := W.heap.size) (Nat.le_refl _) hr hbW), (gr_setO (b := W.heap.size) (i := 4) (v := .slice a9 x.args.len cap9) (gr_setO (b := W.heap.size) (i := 3) (v := .int .i64 x.mode) (gr_setO (b := W.heap.size) (i := 2) (v := .int .i64 x.den) (gr_setO (b := W.heap.size) (i := 1) (v := .int .i64 x.num) (gr_setO (b := W.heap.size) (i := 0) (v := .int .i64 x.op) (hg0.trans hg3) (Nat.le_refl _)) (Nat.le_refl _)) (Nat.le_refl _)) (Nat.le_refl _)) (Nat.le_refl _)), hp3⟩
  clear hp3 hEv
  first
    | exact bodyPost_ret (v := .agg #[.int .i64 x.op, .int .i64 x.num, .int .i64 x.den, .int .i64 x.mode, .slice a9 x.args.len cap9]) (by simp [results, Try.results80, go_sem, q0, q1, q2, q3, q4]) rfl hfin
    | exact bodyPost_end (v := .agg #[.int .i64 x.op, .int .i64 x.num, .int .i64 x.den, .int .i64 x.mode, .slice a9 x.args.len cap9]) (by simp [results, Try.results80, go_sem, q0, q1, q2, q3, q4]) rfl hfin

theorem info_expr : (Try.prog.info? 77).map (fun i => (i.zero, i.size, i.bytes)) = some (some (.agg #[.int .i64 0, .int .i64 0, .int .i64 0, .int .i64 0, .slice none 0 0]), 5, 56) := by kernel_rfl
set_option maxRecDepth 8000 in
set_option maxHeartbeats 4000000 in
theorem getList_expr (c : Rc) (W : World) {at_ ft er : Nat} (h : RS c W at_ ft er) (d b1 b2 : Nat) (hit : ∀ (W1 : World) (at1 ft1 er1 : Nat), RS c W1 at1 ft1 er1 → W.grownBy W1 (some c.r) → Calls Try.prog 80 #[.pointer (some ⟨b1, 0, none⟩), .pointer (some ⟨b2, 0, none⟩)] W1 (Xc (rExpr (65 - d)) (VE eE) c at1 ft1 er1 W1)) : Calls Try.prog 79 #[.pointer (some ⟨c.r, 0, none⟩), .func (Fn.func 80) #[] #[.pointer (some ⟨b1, 0, none⟩), .pointer (some ⟨b2, 0, none⟩)]] W (Xc (rLst (rExpr (65 - d))) (VL eE) c at_ ft er W) := by
  obtain ⟨i0, hi, hz0, hz1, hz2⟩ := info_parts info_expr
  have hn := length_any c W h
  have hln := h.ln
  have hr := h.lt
  have hbW := h.below
  clear h
  go_enter Try.func79, Try.ntmps79
  go_wp2_with (go_at_call 66; refine hn.mono ?_; clear hn; rintro e w1 ⟨n, at1, ft1, er1, rfl, hn1, h1, hg1, hp1⟩)
  have hn2 : n ≤ 262144 := by omega
  have hst : ∃ (i : Nat) (xs : List _) (at2 ft2 er2 : Nat), i ≤ n ∧ (Value.int .i64 0) = .int .i64 (i : Int) ∧ Hid (xs.length = i) ∧ GS eE 77 W.heap.size w1 (.slice none 0 0) xs ∧ RS c w1 at2 ft2 er2 ∧ W.grownBy w1 (some c.r) ∧ Lp ((rExpr (65 - d)) c.l) (rLst (rExpr (65 - d)) c.l at_) n i ft er at2 ft2 er2 xs := ⟨0, [], at1, ft1, er1, Nat.zero_le _, rfl, ⟨rfl⟩, gs_nil _ _ _ _, h1, hg1, Lp.start hp1 (fun he => by have := h1.en he; omega)⟩
  clear h1 hg1 hp1 hn1
  go_loopw [5, 8] (fun lv iv wr => ∃ (i : Nat) (xs : List _) (at2 ft2 er2 : Nat), i ≤ n ∧ iv = .int .i64 (i : Int) ∧ Hid (xs.length = i) ∧ GS eE 77 W.heap.size wr lv xs ∧ RS c wr at2 ft2 er2 ∧ W.grownBy wr (some c.r) ∧ Lp ((rExpr (65 - d)) c.l) (rLst (rExpr (65 - d)) c.l at_) n i ft er at2 ft2 er2 xs) (fun _ iv _ => n - (intOf iv).toNat)
  case atStart => exact hst
  case round =>
    clear hst
    obtain ⟨i, xs, at2, ft2, er2, hin, rfl, hxl, hGS, hR, hG, hp⟩ := hrel
    have hown := fun g (e : u5.ownBlock = some g) => (hGS.choose_spec.1.lt g e)
    have hsW := hG.size
    by_cases hlt : i < n
    · have hlt' : (i : Int) < (n : Int) := by omega
      have hcall := hit wr _ _ _ hR hG
      have hrn : some c.r ≠ u5.ownBlock := fun e => by have := (hown _ e.symm).1; omega
      have hbn : c.l ≠ [] → ∀ b off, c.a = some ⟨b, off, none⟩ → some b ≠ u5.ownBlock := fun h0 b off ha e => by
        have := (hown _ e.symm).1
        have := hbW h0 b off ha
        omega
      go_wp2_with (first | (go_at_call 80; refine hcall.mono ?_; clear hcall; rintro e w2 hP; obtain ⟨x, v, at3, ft3, er3, he, hV, h3, hg3, hp3⟩ := hP; obtain ⟨cv, hcv, hEv⟩ := hV; have hEv0 := hEv; obtain ⟨a9, cap9, hcv2, -, -⟩ := hEv0; subst hcv2; subst hcv; subst he; have hE3 := hEv; have hGS2 := gs_alloc (gs_kept hGS hr hg3) (.cells #[.int .i64 x.op, .int .i64 x.num, .int .i64 x.den, .int .i64 x.mode, .slice a9 x.args.len cap9] 77); obtain ⟨cs, ho2, hEl2⟩ := hGS2; have hc3 := (h3.alloc (.cells #[.int .i64 x.op, .int .i64 x.num, .int .i64 x.den, .int .i64 x.mode, .slice a9 x.args.len cap9] 77)); have hs3 := hg3.size) | (at_builtin; refine wpList_append_own_at _ rfl _ _ 75 rfl W.heap.size 77 i0 _ 5 56 Try.underlying75 hi hz0 hz1 hz2 rfl (by decide) _ _ _ rfl ho2 ⟨w2.heap.size, 0, none⟩ 1 1 [.int .i64 x.op, .int .i64 x.num, .int .i64 x.den, .int .i64 x.mode, .slice a9 x.args.len cap9] rfl rfl (lit_at w2 #[.int .i64 x.op, .int .i64 x.num, .int .i64 x.den, .int .i64 x.mode, .slice a9 x.args.len cap9] 77) (by simp [Value.oneCell']) (by have := hxl.out; unfold maxLen; omega) (by have := hxl.out; omega) (by simp; omega) ?_; intro lv2 w4 hown4 hgrow4 _ hat4; have hR4 := hc3.other hgrow4 hrn hbn; have hG4 : W.grownBy w4 (some c.r) := ((hG.trans hg3).trans (World.grownBy_alloc w2 (.cells #[.int .i64 x.op, .int .i64 x.num, .int .i64 x.den, .int .i64 x.mode, .slice a9 x.args.len cap9] 77) (some c.r))).andThen hgrow4 (fun j hj => .inl (hown j hj).1); have c43 := hR4.c3; by_cases he3 : er3 = 0))
      · have he3' : ((er3 : Int) != 0) = false := by rw [he3]; rfl
        have hGS4 := gs_step (b0 := wr.heap.size) hEl2 (eE.fr hE3 (World.grownBy_alloc w2 (.cells #[.int .i64 x.op, .int .i64 x.num, .int .i64 x.den, .int .i64 x.mode, .slice a9 x.args.len cap9] 77) none).size (fun b _ hlt => (World.grownBy_alloc w2 (.cells #[.int .i64 x.op, .int .i64 x.num, .int .i64 x.den, .int .i64 x.mode, .slice a9 x.args.len cap9] 77) none).block b hlt (by simp))) hsW (fun g e => (hown g e).2) hgrow4 hat4 hown4
        have hp4 : Lp ((rExpr (65 - d)) c.l) (rLst (rExpr (65 - d)) c.l at_) n (i + 1) ft er at3 ft3 er3 (xs ++ [x]) := by
          rw [he3] at hp3 ⊢
          exact hp.step hlt hp3
        clear he3
        go_wp2
        go_roundw
        case rel => exact ⟨i + 1, xs ++ [x], _, _, _, by omega, by go_num, ⟨by rw [List.length_append, hxl.out]; rfl⟩, hGS4, hR4, hG4, hp4⟩
        case measure => simp [intOf]; omega
      · have he3' : ((er3 : Int) != 0) = true := by simp; omega
        have hfin : Xc (rLst (rExpr (65 - d))) (VL eE) c at_ ft er W (.returned (.slice none 0 0)) w4 := ⟨[], _, _, _, _, rfl, ⟨none, 0, rfl, .inl rfl⟩, hR4, hG4, hp.bad hlt hp3 he3⟩
        clear he3
        go_wp2
        exact bodyPost_ret (v := .slice none 0 0) (by simp [results, Try.results79, go_sem]) rfl hfin
    · have hlt' : ¬ (i : Int) < (n : Int) := by omega
      have hfin : Xc (rLst (rExpr (65 - d))) (VL eE) c at_ ft er W (.returned u5) wr := ⟨xs, _, _, _, _, rfl, gs_done hGS, hR, hG, hp.done (by omega) hxl.out hin⟩
      clear hown hp hGS
      go_wp2
      exact bodyPost_ret (v := u5) (by simp [results, Try.results79, go_sem]) rfl hfin

end Go.Proofs.Ytjgngmmepheioaa
