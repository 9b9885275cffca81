import Derived.Test.YtmklkcefbabhbaaGreatTurnPxP
namespace Go.Proofs.YtmklkcefbabhbaaGreat
open Go.RowKit

/-- Expressions in a row of memory. -/
def FoAt (W : World) (S : Nat → Prop) : Fo → Option Addr → Prop
  | .nil, _ => True
  | .cons op num den mode args rest, a => ∃ (g o : Nat) (a2 : Option Addr) (cap2 : Nat), a = some ⟨g, o, none⟩ ∧ S g ∧ g < W.heap.size ∧ (W.cell? ⟨g, o, none⟩ = some (.int .i64 op) ∧ W.cell? ⟨g, o + 1, none⟩ = some (.int .i64 num) ∧ W.cell? ⟨g, o + 2, none⟩ = some (.int .i64 den) ∧ W.cell? ⟨g, o + 3, none⟩ = some (.int .i64 mode) ∧ W.cell? ⟨g, o + 4, none⟩ = some (.slice a2 args.len cap2)) ∧ (Rg op ∧ Rg num ∧ Rg den ∧ Rg mode) ∧ FoAt W S args a2 ∧ FoAt W S rest (some ⟨g, o + 5, none⟩)
theorem FoAt.fr {W W' : World} {S : Nat → Prop} (hs : W.heap.size ≤ W'.heap.size) (hb : ∀ b, S b → b < W.heap.size → W'.heap[b]? = W.heap[b]?) : ∀ (f : Fo) (a : Option Addr), FoAt W S f a → FoAt W' S f a
  | .nil, _, _ => trivial
  | .cons op num den mode args rest, a, ⟨g, o, a2, cap2, ha, hS, hg, ⟨h0, h1, h2, h3, h4⟩, hr, hA, hR⟩ => by
    have k : ∀ i, W'.cell? ⟨g, i, none⟩ = W.cell? ⟨g, i, none⟩ := fun i => World.cell?_of_block (a := ⟨g, i, none⟩) (hb g hS hg)
    exact ⟨g, o, a2, cap2, ha, hS, Nat.lt_of_lt_of_le hg hs, ⟨(k _).trans h0, (k _).trans h1, (k _).trans h2, (k _).trans h3, (k _).trans h4⟩, hr, FoAt.fr hs hb args a2 hA, FoAt.fr hs hb rest _ hR⟩
theorem FoAt.mo {W : World} {S S' : Nat → Prop} (hb : ∀ b, b < W.heap.size → S b → S' b) : ∀ (f : Fo) (a : Option Addr), FoAt W S f a → FoAt W S' f a
  | .nil, _, _ => trivial
  | .cons _ _ _ _ args rest, _, ⟨g, o, a2, cap2, ha, hS, hg, hc, hr, hA, hR⟩ => ⟨g, o, a2, cap2, ha, hb g hg hS, hg, hc, hr, FoAt.mo hb args a2 hA, FoAt.mo hb rest _ hR⟩
def eE : Elt Ex where
  k := 5
  E := fun W S e cs => ∃ a cap, cs = [.int .i64 e.op, .int .i64 e.num, .int .i64 e.den, .int .i64 e.mode, .slice a e.args.len cap] ∧ (Rg e.op ∧ Rg e.num ∧ Rg e.den ∧ Rg e.mode) ∧ FoAt W S e.args a
  len := fun ⟨_, _, h, _⟩ => by rw [h]; rfl
  fr := fun ⟨a, cap, h, hr, hF⟩ hs hb => ⟨a, cap, h, hr, FoAt.fr hs hb _ _ hF⟩
  mo := fun ⟨a, cap, h, hr, hF⟩ hb => ⟨a, cap, h, hr, FoAt.mo hb _ _ hF⟩
theorem ofL_len : ∀ l, (ofL l).len = l.length
  | [] => rfl
  | e :: l => by show (ofL l).len + 1 = _; rw [ofL_len l]; rfl
theorem deepF_ofL {n : Nat} : ∀ l, (∀ e ∈ l, deepE e ≤ n) → deepF (ofL l) ≤ n
  | [], _ => Nat.zero_le _
  | e :: l, h => by
    have h1 := h e (by simp)
    have h2 := deepF_ofL l (fun x hx => h x (List.mem_cons_of_mem _ hx))
    show max (1 + deepF e.args) (deepF (ofL l)) ≤ n
    unfold deepE at h1
    omega
theorem Elems.cons {α : Type} {D : Elt α} {W : World} {S : Nat → Prop} {x : α} {xs : List α} {cs : List Value} (h : Elems D W S (x :: xs) cs) : D.E W S x (cs.take D.k) ∧ Elems D W S xs (cs.drop D.k) := by
  refine ⟨?_, ?_, fun i hi => ?_⟩
  · have := h.2 0 (by simp)
    simpa using this
  · rw [List.length_drop, h.1, List.length_cons, Nat.add_mul, Nat.one_mul]
    omega
  · have := h.2 (i + 1) (by simpa using hi)
    rw [Nat.add_mul, Nat.one_mul] at this
    rw [List.drop_drop, Nat.add_comm D.k]
    simpa using this
theorem fo_of_elems {W : World} {S : Nat → Prop} {g : Nat} (hS : S g) (hg : g < W.heap.size) : ∀ (l : List Ex) (o : Nat) (cs : List Value), (∀ j, j < cs.length → W.cell? ⟨g, o + j, none⟩ = cs[j]?) → Elems eE W S l cs → FoAt W S (ofL l) (some ⟨g, o, none⟩)
  | [], _, _, _, _ => trivial
  | e :: l, o, cs, hc, hE => by
    obtain ⟨h1, h2⟩ := hE.cons
    have hl := hE.1
    have hl5 : 5 ≤ cs.length := by
      rw [hl, List.length_cons]
      show 5 ≤ (l.length + 1) * 5
      omega
    obtain ⟨a, cap, hcs, hr, hF⟩ := h1
    have k : ∀ j (h : j < 5), W.cell? ⟨g, o + j, none⟩ = (cs.take 5)[j]? := fun j h => by
      rw [hc j (by omega), List.getElem?_take, if_pos h]
    rw [show cs.take eE.k = cs.take 5 from rfl] at hcs
    rw [hcs] at k
    refine ⟨g, o, a, cap, rfl, hS, hg, ⟨k 0 (by omega), k 1 (by omega), k 2 (by omega), k 3 (by omega), k 4 (by omega)⟩, hr, hF, ?_⟩
    refine fo_of_elems hS hg l (o + 5) (cs.drop 5) (fun j hj => ?_) h2
    rw [List.length_drop] at hj
    rw [List.getElem?_drop, Nat.add_assoc]
    exact hc (5 + j) (by omega)
theorem fo_of_row {W : World} {S : Nat → Prop} {l : List Ex} {a : Option Addr} (h : RowR eE W S l a) : FoAt W S (ofL l) a := by
  rcases h with rfl | ⟨g, o, cs, rfl, hS, hg, hc, hE⟩
  · trivial
  · exact fo_of_elems hS hg l o cs hc hE
theorem fo_gr {w w' : World} {lo k : Nat} {f : Fo} {a : Option Addr} (h : FoAt w (fun b => lo ≤ b) f a) (hg : w.grownBy w' (some k)) (hk : k < lo) : FoAt w' (fun b => lo ≤ b) f a := FoAt.fr hg.size (fun b hb hlt => hg.block b hlt (fun e => by injection e with e; omega)) f a h

end Go.Proofs.YtmklkcefbabhbaaGreat


namespace Go.Proofs.YtmklkcefbabhbaaGreat
open Go.RowKit

theorem ee_gr {w w' : World} {lo k : Nat} {x : Ex} {cs : List Value} (h : eE.E w (fun b => lo ≤ b) x cs) (hg : w.grownBy w' (some k)) (hk : k < lo) : eE.E w' (fun b => lo ≤ b) x cs := eE.fr h hg.size (fun b hb hlt => hg.block b hlt (fun e => by injection e with e; omega))
/-- What is asked of expr, so deep. -/
def ExprIs (d : Nat) : Prop := ∀ (c : Rc) (W : World) (at_ ft er : Nat), RS c W at_ ft er → Calls Tryz.prog 88 #[.pointer (some ⟨c.r, 0, none⟩), .int .i64 (d : Int)] W (Xc (rExpr (65 - d)) (VE eE) c at_ ft er W)
set_option maxRecDepth 8000 in
set_option maxHeartbeats 4000000 in
theorem args1_any (d : Nat) (ih : ExprIs d) (b1 b2 : Nat) (c : Rc) (W : World) {at_ ft er : Nat} (h : RS c W at_ ft er) (hc1 : W.cell? ⟨b1, 0, none⟩ = some (.pointer (some ⟨c.r, 0, none⟩))) (hc2 : W.cell? ⟨b2, 0, none⟩ = some (.int .i64 (d : Int))) : Calls Tryz.prog 102 #[.pointer (some ⟨b1, 0, none⟩), .pointer (some ⟨b2, 0, none⟩)] W (Xc (rExpr (65 - d)) (VE eE) c at_ ft er W) := by
  have hr := h.lt
  have hbW := h.below
  have hg0 := World.grownBy_alloc W (.cells #[.int .i64 0, .int .i64 0, .int .i64 0, .int .i64 0, .slice none 0 0] 59) (some c.r)
  have hgn := World.grownBy_alloc W (.cells #[.int .i64 0, .int .i64 0, .int .i64 0, .int .i64 0, .slice none 0 0] 59) none
  have hb0 := bx_new W #[.int .i64 0, .int .i64 0, .int .i64 0, .int .i64 0, .slice none 0 0] 59
  have hrb : some W.heap.size ≠ some c.r := fun e => by injection e with e; omega
  have d1 := (gr_cell hgn (World.block_lt_of_cell? _ _ hc1) (by simp) 0).trans hc1
  have d2 := (gr_cell hgn (World.block_lt_of_cell? _ _ hc2) (by simp) 0).trans hc2
  have hx := ih c _ _ _ _ (h.alloc (.cells #[.int .i64 0, .int .i64 0, .int .i64 0, .int .i64 0, .slice none 0 0] 59))
  have hlo := hb0.1
  clear h hc1 hc2 hgn
  go_enter Tryz.func102, Tryz.ntmps102
  go_wp2_with (go_at_call 88; go_loud (refine hx.mono ?_; clear hx; rintro e w2 hP; obtain ⟨x, v, at3, ft3, er3, he, hV, h3, hg3, hp3⟩ := hP; obtain ⟨cv, hcv, hEv⟩ := hV; have hEv0 := hEv; obtain ⟨a9, cap9, hcv2, -, -⟩ := hEv0; subst hcv2; subst hcv; subst he; have hbk := hb0.kept hg3 hrb; have k0 : w2.cell? ⟨W.heap.size, 0, none⟩ = some (.int .i64 0) := hbk.2.1 0 (by simp); have f0 := hbk.2.2 0; have k1 : w2.cell? ⟨W.heap.size, 1, none⟩ = some (.int .i64 0) := hbk.2.1 1 (by simp); have f1 := hbk.2.2 1; have k2 : w2.cell? ⟨W.heap.size, 2, none⟩ = some (.int .i64 0) := hbk.2.1 2 (by simp); have f2 := hbk.2.2 2; have k3 : w2.cell? ⟨W.heap.size, 3, none⟩ = some (.int .i64 0) := hbk.2.1 3 (by simp); have f3 := hbk.2.2 3; have k4 : w2.cell? ⟨W.heap.size, 4, none⟩ = some (.slice none 0 0) := hbk.2.1 4 (by simp); have f4 := hbk.2.2 4; have hbx : Bx (((((w2.setCell ⟨W.heap.size, 0, none⟩ (.int .i64 x.op)).setCell ⟨W.heap.size, 1, none⟩ (.int .i64 x.num)).setCell ⟨W.heap.size, 2, none⟩ (.int .i64 x.den)).setCell ⟨W.heap.size, 3, none⟩ (.int .i64 x.mode)).setCell ⟨W.heap.size, 4, none⟩ (.slice a9 x.args.len cap9)) W.heap.size [.int .i64 x.op, .int .i64 x.num, .int .i64 x.den, .int .i64 x.mode, .slice a9 x.args.len cap9] := (((((hbk.set 0 (.int .i64 x.op)).set 1 (.int .i64 x.num)).set 2 (.int .i64 x.den)).set 3 (.int .i64 x.mode)).set 4 (.slice a9 x.args.len cap9)); have q0 : (((((w2.setCell ⟨W.heap.size, 0, none⟩ (.int .i64 x.op)).setCell ⟨W.heap.size, 1, none⟩ (.int .i64 x.num)).setCell ⟨W.heap.size, 2, none⟩ (.int .i64 x.den)).setCell ⟨W.heap.size, 3, none⟩ (.int .i64 x.mode)).setCell ⟨W.heap.size, 4, none⟩ (.slice a9 x.args.len cap9)).cell? ⟨W.heap.size, 0, none⟩ = some (.int .i64 x.op) := hbx.2.1 0 (by simp); have q1 : (((((w2.setCell ⟨W.heap.size, 0, none⟩ (.int .i64 x.op)).setCell ⟨W.heap.size, 1, none⟩ (.int .i64 x.num)).setCell ⟨W.heap.size, 2, none⟩ (.int .i64 x.den)).setCell ⟨W.heap.size, 3, none⟩ (.int .i64 x.mode)).setCell ⟨W.heap.size, 4, none⟩ (.slice a9 x.args.len cap9)).cell? ⟨W.heap.size, 1, none⟩ = some (.int .i64 x.num) := hbx.2.1 1 (by simp); have q2 : (((((w2.setCell ⟨W.heap.size, 0, none⟩ (.int .i64 x.op)).setCell ⟨W.heap.size, 1, none⟩ (.int .i64 x.num)).setCell ⟨W.heap.size, 2, none⟩ (.int .i64 x.den)).setCell ⟨W.heap.size, 3, none⟩ (.int .i64 x.mode)).setCell ⟨W.heap.size, 4, none⟩ (.slice a9 x.args.len cap9)).cell? ⟨W.heap.size, 2, none⟩ = some (.int .i64 x.den) := hbx.2.1 2 (by simp); have q3 : (((((w2.setCell ⟨W.heap.size, 0, none⟩ (.int .i64 x.op)).setCell ⟨W.heap.size, 1, none⟩ (.int .i64 x.num)).setCell ⟨W.heap.size, 2, none⟩ (.int .i64 x.den)).setCell ⟨W.heap.size, 3, none⟩ (.int .i64 x.mode)).setCell ⟨W.heap.size, 4, none⟩ (.slice a9 x.args.len cap9)).cell? ⟨W.heap.size, 3, none⟩ = some (.int .i64 x.mode) := hbx.2.1 3 (by simp); have q4 : (((((w2.setCell ⟨W.heap.size, 0, none⟩ (.int .i64 x.op)).setCell ⟨W.heap.size, 1, none⟩ (.int .i64 x.num)).setCell ⟨W.heap.size, 2, none⟩ (.int .i64 x.den)).setCell ⟨W.heap.size, 3, none⟩ (.int .i64 x.mode)).setCell ⟨W.heap.size, 4, none⟩ (.slice a9 x.args.len cap9)).cell? ⟨W.heap.size, 4, none⟩ = some (.slice a9 x.args.len cap9) := hbx.2.1 4 (by simp)))
  have hfin : Xc (rExpr (65 - d)) (VE eE) c at_ ft er W (.returned (.agg #[.int .i64 x.op, .int .i64 x.num, .int .i64 x.den, .int .i64 x.mode, .slice a9 x.args.len cap9])) (((((w2.setCell ⟨W.heap.size, 0, none⟩ (.int .i64 x.op)).setCell ⟨W.heap.size, 1, none⟩ (.int .i64 x.num)).setCell ⟨W.heap.size, 2, none⟩ (.int .i64 x.den)).setCell ⟨W.heap.size, 3, none⟩ (.int .i64 x.mode)).setCell ⟨W.heap.size, 4, none⟩ (.slice a9 x.args.len cap9)) := ⟨x, _, _, _, _, rfl, ⟨[.int .i64 x.op, .int .i64 x.num, .int .i64 x.den, .int .i64 x.mode, .slice a9 x.args.len cap9], rfl, eE.mo (ee_gr (ee_gr (ee_gr (ee_gr (ee_gr hEv (gr_set _ W.heap.size 0 (.int .i64 x.op)) hlo) (gr_set _ W.heap.size 1 (.int .i64 x.num)) hlo) (gr_set _ W.heap.size 2 (.int .i64 x.den)) hlo) (gr_set _ W.heap.size 3 (.int .i64 x.mode)) hlo) (gr_set _ W.heap.size 4 (.slice a9 x.args.len cap9)) hlo) (fun b _ hb => by omega)⟩, (((((h3.setO (b := W.heap.size) (i := 0) (v := .int .i64 x.op) (lo := W.heap.size) (Nat.le_refl _) hr hbW).setO (b := W.heap.size) (i := 1) (v := .int .i64 x.num) (lo := W.heap.size) (Nat.le_refl _) hr hbW).setO (b := W.heap.size) (i := 2) (v := .int .i64 x.den) (lo := W.heap.size) (Nat.le_refl _) hr hbW).setO (b := W.heap.size) (i := 3) (v := .int .i64 x.mode) (lo := W.heap.size) (Nat.le_refl _) hr hbW).setO (b := W.heap.size) (i := 4) (v := .slice a9 x.args.len cap9) (lo := W.heap.size) (Nat.le_refl _) hr hbW), (gr_setO (b := W.heap.size) (i := 4) (v := .slice a9 x.args.len cap9) (gr_setO (b := W.heap.size) (i := 3) (v := .int .i64 x.mode) (gr_setO (b := W.heap.size) (i := 2) (v := .int .i64 x.den) (gr_setO (b := W.heap.size) (i := 1) (v := .int .i64 x.num) (gr_setO (b := W.heap.size) (i := 0) (v := .int .i64 x.op) (hg0.trans hg3) (Nat.le_refl _)) (Nat.le_refl _)) (Nat.le_refl _)) (Nat.le_refl _)) (Nat.le_refl _)), hp3⟩
  clear hp3 hEv
  first
    | exact bodyPost_ret (v := .agg #[.int .i64 x.op, .int .i64 x.num, .int .i64 x.den, .int .i64 x.mode, .slice a9 x.args.len cap9]) (by simp [results, Tryz.results102, go_sem, q0, q1, q2, q3, q4]) rfl hfin
    | exact bodyPost_end (v := .agg #[.int .i64 x.op, .int .i64 x.num, .int .i64 x.den, .int .i64 x.mode, .slice a9 x.args.len cap9]) (by simp [results, Tryz.results102, go_sem, q0, q1, q2, q3, q4]) rfl hfin

theorem info_expr : (Tryz.prog.info? 59).map (fun i => (i.zero, i.size, i.bytes)) = some (some (.agg #[.int .i64 0, .int .i64 0, .int .i64 0, .int .i64 0, .slice none 0 0]), 5, 56) := by kernel_rfl
set_option maxRecDepth 8000 in
set_option maxHeartbeats 4000000 in
theorem getList_expr (c : Rc) (W : World) {at_ ft er : Nat} (h : RS c W at_ ft er) (d b1 b2 : Nat) (hit : ∀ (W1 : World) (at1 ft1 er1 : Nat), RS c W1 at1 ft1 er1 → W.grownBy W1 (some c.r) → Calls Tryz.prog 102 #[.pointer (some ⟨b1, 0, none⟩), .pointer (some ⟨b2, 0, none⟩)] W1 (Xc (rExpr (65 - d)) (VE eE) c at1 ft1 er1 W1)) : Calls Tryz.prog 101 #[.pointer (some ⟨c.r, 0, none⟩), .func (Fn.func 102) #[] #[.pointer (some ⟨b1, 0, none⟩), .pointer (some ⟨b2, 0, none⟩)]] W (Xc (rLst (rExpr (65 - d))) (VL eE) c at_ ft er W) := by
  obtain ⟨i0, hi, hz0, hz1, hz2⟩ := info_parts info_expr
  have hn := length_any c W h
  have hln := h.ln
  have hr := h.lt
  have hbW := h.below
  clear h
  go_enter Tryz.func101, Tryz.ntmps101
  go_wp2_with (go_at_call 80; refine hn.mono ?_; clear hn; rintro e w1 ⟨n, at1, ft1, er1, rfl, hn1, h1, hg1, hp1⟩)
  have hn2 : n ≤ 262144 := by omega
  have hst : ∃ (i : Nat) (xs : List _) (at2 ft2 er2 : Nat), i ≤ n ∧ (Value.int .i64 0) = .int .i64 (i : Int) ∧ Hid (xs.length = i) ∧ GS eE 59 W.heap.size w1 (.slice none 0 0) xs ∧ RS c w1 at2 ft2 er2 ∧ W.grownBy w1 (some c.r) ∧ Lp ((rExpr (65 - d)) c.l) (rLst (rExpr (65 - d)) c.l at_) n i ft er at2 ft2 er2 xs := ⟨0, [], at1, ft1, er1, Nat.zero_le _, rfl, ⟨rfl⟩, gs_nil _ _ _ _, h1, hg1, Lp.start hp1 (fun he => by have := h1.en he; omega)⟩
  clear h1 hg1 hp1 hn1
  go_loopw [5, 8] (fun lv iv wr => ∃ (i : Nat) (xs : List _) (at2 ft2 er2 : Nat), i ≤ n ∧ iv = .int .i64 (i : Int) ∧ Hid (xs.length = i) ∧ GS eE 59 W.heap.size wr lv xs ∧ RS c wr at2 ft2 er2 ∧ W.grownBy wr (some c.r) ∧ Lp ((rExpr (65 - d)) c.l) (rLst (rExpr (65 - d)) c.l at_) n i ft er at2 ft2 er2 xs) (fun _ iv _ => n - (intOf iv).toNat)
  case atStart => exact hst
  case round =>
    clear hst
    obtain ⟨i, xs, at2, ft2, er2, hin, rfl, hxl, hGS, hR, hG, hp⟩ := hrel
    have hown := fun g (e : u5.ownBlock = some g) => (hGS.choose_spec.1.lt g e)
    have hsW := hG.size
    by_cases hlt : i < n
    · have hlt' : (i : Int) < (n : Int) := by omega
      have hcall := hit wr _ _ _ hR hG
      have hrn : some c.r ≠ u5.ownBlock := fun e => by have := (hown _ e.symm).1; omega
      have hbn : c.l ≠ [] → ∀ b off, c.a = some ⟨b, off, none⟩ → some b ≠ u5.ownBlock := fun h0 b off ha e => by
        have := (hown _ e.symm).1
        have := hbW h0 b off ha
        omega
      go_wp2_with (first | (go_at_call 102; refine hcall.mono ?_; clear hcall; rintro e w2 hP; obtain ⟨x, v, at3, ft3, er3, he, hV, h3, hg3, hp3⟩ := hP; obtain ⟨cv, hcv, hEv⟩ := hV; have hEv0 := hEv; obtain ⟨a9, cap9, hcv2, -, -⟩ := hEv0; subst hcv2; subst hcv; subst he; have hE3 := hEv; have hGS2 := gs_alloc (gs_kept hGS hr hg3) (.cells #[.int .i64 x.op, .int .i64 x.num, .int .i64 x.den, .int .i64 x.mode, .slice a9 x.args.len cap9] 59); obtain ⟨cs, ho2, hEl2⟩ := hGS2; have hc3 := (h3.alloc (.cells #[.int .i64 x.op, .int .i64 x.num, .int .i64 x.den, .int .i64 x.mode, .slice a9 x.args.len cap9] 59)); have hs3 := hg3.size) | (at_builtin; refine wpList_append_own_at _ rfl _ _ 57 rfl W.heap.size 59 i0 _ 5 56 Tryz.underlying57 hi hz0 hz1 hz2 rfl (by decide) _ _ _ rfl ho2 ⟨w2.heap.size, 0, none⟩ 1 1 [.int .i64 x.op, .int .i64 x.num, .int .i64 x.den, .int .i64 x.mode, .slice a9 x.args.len cap9] rfl rfl (lit_at w2 #[.int .i64 x.op, .int .i64 x.num, .int .i64 x.den, .int .i64 x.mode, .slice a9 x.args.len cap9] 59) (by simp [Value.oneCell']) (by have := hxl.out; unfold maxLen; omega) (by have := hxl.out; omega) (by simp; omega) ?_; intro lv2 w4 hown4 hgrow4 _ hat4; have hR4 := hc3.other hgrow4 hrn hbn; have hG4 : W.grownBy w4 (some c.r) := ((hG.trans hg3).trans (World.grownBy_alloc w2 (.cells #[.int .i64 x.op, .int .i64 x.num, .int .i64 x.den, .int .i64 x.mode, .slice a9 x.args.len cap9] 59) (some c.r))).andThen hgrow4 (fun j hj => .inl (hown j hj).1); have c43 := hR4.c3; by_cases he3 : er3 = 0))
      · have he3' : ((er3 : Int) != 0) = false := by rw [he3]; rfl
        have hGS4 := gs_step (b0 := wr.heap.size) hEl2 (eE.fr hE3 (World.grownBy_alloc w2 (.cells #[.int .i64 x.op, .int .i64 x.num, .int .i64 x.den, .int .i64 x.mode, .slice a9 x.args.len cap9] 59) none).size (fun b _ hlt => (World.grownBy_alloc w2 (.cells #[.int .i64 x.op, .int .i64 x.num, .int .i64 x.den, .int .i64 x.mode, .slice a9 x.args.len cap9] 59) none).block b hlt (by simp))) hsW (fun g e => (hown g e).2) hgrow4 hat4 hown4
        have hp4 : Lp ((rExpr (65 - d)) c.l) (rLst (rExpr (65 - d)) c.l at_) n (i + 1) ft er at3 ft3 er3 (xs ++ [x]) := by
          rw [he3] at hp3 ⊢
          exact hp.step hlt hp3
        clear he3
        go_wp2
        go_roundw
        case rel => exact ⟨i + 1, xs ++ [x], _, _, _, by omega, by go_num, ⟨by rw [List.length_append, hxl.out]; rfl⟩, hGS4, hR4, hG4, hp4⟩
        case measure => simp [intOf]; omega
      · have he3' : ((er3 : Int) != 0) = true := by simp; omega
        have hfin : Xc (rLst (rExpr (65 - d))) (VL eE) c at_ ft er W (.returned (.slice none 0 0)) w4 := ⟨[], _, _, _, _, rfl, ⟨none, 0, rfl, .inl rfl⟩, hR4, hG4, hp.bad hlt hp3 he3⟩
        clear he3
        go_wp2
        exact bodyPost_ret (v := .slice none 0 0) (by simp [results, Tryz.results101, go_sem]) rfl hfin
    · have hlt' : ¬ (i : Int) < (n : Int) := by omega
      have hfin : Xc (rLst (rExpr (65 - d))) (VL eE) c at_ ft er W (.returned u5) wr := ⟨xs, _, _, _, _, rfl, gs_done hGS, hR, hG, hp.done (by omega) hxl.out hin⟩
      clear hown hp hGS
      go_wp2
      exact bodyPost_ret (v := u5) (by simp [results, Tryz.results101, go_sem]) rfl hfin

end Go.Proofs.YtmklkcefbabhbaaGreat


namespace Go.Proofs.YtmklkcefbabhbaaGreat
open Go.RowKit

/-- What args answers. -/
def ArP (d : Nat) (c : Rc) (at_ ft er : Nat) (W : World) (e : Ending) (W' : World) : Prop := ∃ (es : List Ex) (a : Option Addr) (cap at2 ft2 er2 : Nat), e = .returned (.slice a es.length cap) ∧ RowR eE W' (fun b => W.heap.size ≤ b) es a ∧ RS c W' at2 ft2 er2 ∧ W.grownBy W' (some c.r) ∧ Xp (rArgs (rExpr (65 - d)) c.l at_) ft er at2 ft2 er2 es
set_option maxRecDepth 8000 in
set_option maxHeartbeats 4000000 in
theorem args_any (d : Nat) (ih : ExprIs d) (c : Rc) (W : World) {at_ ft er : Nat} (h : RS c W at_ ft er) : Calls Tryz.prog 96 #[.pointer (some ⟨c.r, 0, none⟩), .int .i64 (d : Int)] W (ArP d c at_ ft er W) := by
  have hle := h.le
  have h1 := h.alloc (.cells #[.pointer (some ⟨c.r, 0, none⟩)] 70)
  have h2 := h1.alloc (.cells #[.int .i64 (d : Int)] 3)
  have hg1 := World.grownBy_alloc W (.cells #[.pointer (some ⟨c.r, 0, none⟩)] 70) (some c.r)
  have hg2 := World.grownBy_alloc (W.alloc (.cells #[.pointer (some ⟨c.r, 0, none⟩)] 70)) (.cells #[.int .i64 (d : Int)] 3) (some c.r)
  have hg12 := hg1.trans hg2
  have hr := h.lt
  have hs1 : (W.alloc (.cells #[.pointer (some ⟨c.r, 0, none⟩)] 70)).heap.size = W.heap.size + 1 := by simp
  have d1 : ((W.alloc (.cells #[.pointer (some ⟨c.r, 0, none⟩)] 70)).alloc (.cells #[.int .i64 (d : Int)] 3)).cell? ⟨W.heap.size, 0, none⟩ = some (.pointer (some ⟨c.r, 0, none⟩)) := by
    rw [gr_cell (World.grownBy_alloc _ _ none) (by rw [hs1]; omega) (by simp) 0]
    simp
  have d2 : ((W.alloc (.cells #[.pointer (some ⟨c.r, 0, none⟩)] 70)).alloc (.cells #[.int .i64 (d : Int)] 3)).cell? ⟨W.heap.size + 1, 0, none⟩ = some (.int .i64 (d : Int)) := by
    rw [← hs1]
    simp
  have hn1 : some W.heap.size ≠ some c.r := fun e => by injection e with e; omega
  have hn2 : some (W.heap.size + 1) ≠ some c.r := fun e => by injection e with e; omega
  have hd1 : W.heap.size < _ := World.block_lt_of_cell? _ _ d1
  have hd2 : W.heap.size + 1 < _ := World.block_lt_of_cell? _ _ d2
  have c1 := h2.c1
  have hgl := getList_expr c _ h2 d W.heap.size (W.heap.size + 1) (fun W1 a1 f1 e1 hR hG => args1_any d ih W.heap.size (W.heap.size + 1) c W1 hR ((gr_cell hG hd1 hn1 0).trans d1) ((gr_cell hG hd2 hn2 0).trans d2))
  have hbig : W.heap.size ≤ ((W.alloc (.cells #[.pointer (some ⟨c.r, 0, none⟩)] 70)).alloc (.cells #[.int .i64 (d : Int)] 3)).heap.size := hg12.size
  clear h h1 hg1 hg2 d2 hs1
  go_enter Tryz.func96, Tryz.ntmps96
  go_wp2_with (first | (go_at_call 101; refine hgl.mono ?_; clear hgl; rintro e w3 hP; obtain ⟨es, v, at3, ft3, er3, he, hV, h3, hg3, hp3⟩ := hP; obtain ⟨a3, cap3, hv3, hrow3⟩ := hV; subst hv3; subst he; have d3 := (gr_cell hg3 hd1 hn1 0).trans d1; by_cases hem : es.length = 0))
  · have hem' : ((es.length : Int) == 0) = true := by rw [hem]; rfl
    have hf := fail_any c at_ 71 hle (by omega) w3 h3
    have hes : es = [] := List.eq_nil_of_length_eq_zero hem
    subst hes
    have hq := hp3.bd (K := fun es a2 => if es.length = 0 then .error (at_, 71) else .ok (es, a2)) (Xp.fail (x := ([] : List Ex)) (a := c.l.length) (fun _ => if_pos rfl) (by decide))
    clear hem hp3
    go_wp2_with (go_at_call 48; refine hf.mono ?_; rintro e w4 ⟨rfl, h4, hg4⟩)
    exact bodyPost_ret (v := .slice a3 ([] : List Ex).length cap3) (by simp [results, Tryz.results96, go_sem]) rfl ⟨[], a3, cap3, _, _, _, rfl, .inl rfl, h4, (hg12.trans hg3).trans hg4, hq⟩
  · have hem' : ((es.length : Int) == 0) = false := by simp; exact fun e => hem (by rw [e]; rfl)
    have hfin : ArP d c at_ ft er W (.returned (.slice a3 es.length cap3)) w3 := ⟨es, a3, cap3, _, _, _, rfl, hrow3.mo (fun b _ hb => Nat.le_trans hbig hb), h3, hg12.trans hg3, hp3.bd (by rw [if_neg hem]; exact Xp.pure)⟩
    clear hem hp3 hrow3
    go_wp2
    exact bodyPost_ret (v := .slice a3 es.length cap3) (by simp [results, Tryz.results96, go_sem]) rfl hfin

theorem encZ_pos {z : Int} (h : z ≠ 0) : encZ z = encI z := if_neg h
theorem encZ_zero : encZ 0 = [] := if_pos rfl

set_option maxRecDepth 8000 in
set_option maxHeartbeats 4000000 in
theorem expr_deep : ExprIs 65 := fun c W at_ ft er h => by
  have h1 := h.alloc (.cells #[.int .i64 0, .int .i64 0, .int .i64 0, .int .i64 0, .slice none 0 0] 59)
  have c1 := h1.c1
  have hf := fail_any c at_ 72 h.le (by omega) _ h1
  have hg0 := World.grownBy_alloc W (.cells #[.int .i64 0, .int .i64 0, .int .i64 0, .int .i64 0, .slice none 0 0] 59) (some c.r)
  have hb0 := bx_new W #[.int .i64 0, .int .i64 0, .int .i64 0, .int .i64 0, .slice none 0 0] 59
  have hr := h.lt
  have hrb : some W.heap.size ≠ some c.r := fun e => by injection e with e; omega
  clear h h1
  go_enter Tryz.func88, Tryz.ntmps88
  go_wp2_with (go_at_call 48; refine hf.mono ?_; rintro e w4 ⟨rfl, h4, hg4⟩; have hbk := hb0.kept hg4 hrb; have q0 : w4.cell? ⟨W.heap.size, 0, none⟩ = some (.int .i64 0) := hbk.2.1 0 (by simp); have id0 := set_id q0; have fz0 := hbk.2.2 0; have q1 : w4.cell? ⟨W.heap.size, 1, none⟩ = some (.int .i64 0) := hbk.2.1 1 (by simp); have id1 := set_id q1; have fz1 := hbk.2.2 1; have q2 : w4.cell? ⟨W.heap.size, 2, none⟩ = some (.int .i64 0) := hbk.2.1 2 (by simp); have id2 := set_id q2; have fz2 := hbk.2.2 2; have q3 : w4.cell? ⟨W.heap.size, 3, none⟩ = some (.int .i64 0) := hbk.2.1 3 (by simp); have id3 := set_id q3; have fz3 := hbk.2.2 3; have q4 : w4.cell? ⟨W.heap.size, 4, none⟩ = some (.slice none 0 0) := hbk.2.1 4 (by simp); have id4 := set_id q4; have fz4 := hbk.2.2 4)
  have hfin : Xc (rExpr 0) (VE eE) c at_ ft er W (.returned (.agg #[.int .i64 0, .int .i64 0, .int .i64 0, .int .i64 0, .slice none 0 0])) w4 := ⟨⟨0, 0, 0, 0, .nil⟩, _, _, _, _, rfl, ⟨[.int .i64 0, .int .i64 0, .int .i64 0, .int .i64 0, .slice none 0 0], rfl, none, 0, rfl, ⟨⟨by decide, by decide⟩, ⟨by decide, by decide⟩, ⟨by decide, by decide⟩, by decide, by decide⟩, trivial⟩, h4, hg0.trans hg4, Xp.fail (fun _ => rfl) (by decide)⟩
  exact bodyPost_ret (v := .agg #[.int .i64 0, .int .i64 0, .int .i64 0, .int .i64 0, .slice none 0 0]) (by simp [results, Tryz.results88, go_sem, q0, q1, q2, q3, q4]) rfl hfin

end Go.Proofs.YtmklkcefbabhbaaGreat
