import Derived.Test.YtkojgbfocdefnaaJoin54
import Derived.Deep.RegionHeld3
import Derived.Deep.DeepCutAuto
namespace Go.Proofs.Ytkojgbfocdefnaa
open Go.RowKit

theorem plays_all (hb rb : Nat) (Ls : List Es) (p : Nat) (kd a b : Int) (sc nl : Bool) (lv : Value) (w : World) (h : HistAt w hb Ls p) (hr : RhAt w rb Ls p) (L : Es) (hE : ∀ X, GrS (PS hb rb) w X → EntA X lv L) : Calls Try.prog 9 #[.agg #[.pointer (some ⟨hb, 0, none⟩), .pointer (some ⟨rb, 0, none⟩)], .agg #[.int .i64 kd, .int .i64 a, .int .i64 b, .bool sc, .bool nl, lv]] w (plP hb rb w) := by
  by_cases k1 : kd = 1
  · subst k1
    cases nl with
    | true => exact plays_pushNil hb rb Ls p a b sc lv w h hr
    | false => exact plays_push hb rb Ls p a b sc lv w h hr L hE
  by_cases k2 : kd = 10
  · subst k2; exact plays_again hb rb Ls p a b sc nl lv w h hr L hE
  by_cases k3 : kd = 2
  · subst k3; exact plays_undo hb rb Ls p a b sc nl lv w h hr
  by_cases k4 : kd = 3
  · subst k4; exact plays_redo hb rb Ls p a b sc nl lv w h hr
  by_cases k5 : kd = 4
  · subst k5; exact plays_now hb rb Ls p a b sc nl lv w h hr
  by_cases k6 : kd = 5
  · subst k6; exact plays_depth hb rb Ls p a b sc nl lv w h hr
  by_cases k7 : kd = 6
  · subst k7; exact plays_forget hb rb Ls p a b sc nl lv w h hr
  by_cases k8 : kd = 7
  · subst k8; exact plays_steps hb rb Ls p a b sc nl lv w h hr
  by_cases k9 : kd = 8
  · subst k9; exact plays_touched hb rb Ls p a b sc nl lv w h hr
  have f : ∀ n : Int, ¬ kd = n → (kd == n) = false := fun n h => by simpa using h
  exact plays_other hb rb Ls p kd (f _ k1) (f _ k2) (f _ k3) (f _ k4) (f _ k5) (f _ k6) (f _ k7) (f _ k8) (f _ k9) a b sc nl lv w h hr

/-- A pair that begins. -/
def bgP (w : World) (M : Es) (e : Ending) (w' : World) : Prop := ∃ hb rb, e = .returned (.agg #[.pointer (some ⟨hb, 0, none⟩), .pointer (some ⟨rb, 0, none⟩)]) ∧ w.heap.size ≤ hb ∧ w.heap.size ≤ rb ∧ HistAt w' hb [M] 0 ∧ RhAt w' rb [M] 0 ∧ Below w.heap.size w w'
/-- The result's cell is filled. -/
theorem fill_end {w X : World} {P hb rb : Nat} {M : Es} (hP : P = w.heap.size) (hB : Below w.heap.size w X) (hrow : X.heap[P]? = some (.cells #[.pointer none, .pointer none] 27 (0, 0))) (h : HistAt X hb [M] 0) (hr : RhAt X rb [M] 0) :
    X.cell? ⟨P, 0, none⟩ = some (.pointer none) ∧ X.frozen? ⟨P, 0, none⟩ = false ∧ X.frozen? ⟨P, 1, none⟩ = false ∧ X.cell? ⟨P, 1, none⟩ = some (.pointer none) ∧
    ((X.setCell ⟨P, 0, none⟩ (.pointer (some ⟨hb, 0, none⟩))).setCell ⟨P, 1, none⟩ (.pointer (some ⟨rb, 0, none⟩))).heap[P]? = some (.cells #[.pointer (some ⟨hb, 0, none⟩), .pointer (some ⟨rb, 0, none⟩)] 27 (0, 0)) ∧
    HistAt ((X.setCell ⟨P, 0, none⟩ (.pointer (some ⟨hb, 0, none⟩))).setCell ⟨P, 1, none⟩ (.pointer (some ⟨rb, 0, none⟩))) hb [M] 0 ∧ RhAt ((X.setCell ⟨P, 0, none⟩ (.pointer (some ⟨hb, 0, none⟩))).setCell ⟨P, 1, none⟩ (.pointer (some ⟨rb, 0, none⟩))) rb [M] 0 ∧ Below w.heap.size w ((X.setCell ⟨P, 0, none⟩ (.pointer (some ⟨hb, 0, none⟩))).setCell ⟨P, 1, none⟩ (.pointer (some ⟨rb, 0, none⟩))) := by
  have hO : Odd X P := .inr (.inr ⟨_, hrow, rfl, rfl⟩)
  have t0 := heap_setCell_same X P 0 _ _ (.pointer (some ⟨hb, 0, none⟩)) hrow
  have t1 := heap_setCell_same _ P 1 _ _ (.pointer (some ⟨rb, 0, none⟩)) t0
  have hg := (grown_set X P 0 (.pointer (some ⟨hb, 0, none⟩))).trans (grown_set _ P 1 (.pointer (some ⟨rb, 0, none⟩)))
  have hS : ∀ k, (fun k => k = P) k → Odd X k := fun k e => by subst e; exact hO
  have n1 : hb ≠ P := fun e => by
    subst e
    obtain ⟨-, -, g, cap, vs, h3, -⟩ := h
    exact tag_neO h3 hrow (by decide) rfl
  have n2 : rb ≠ P := fun e => by
    subst e
    obtain ⟨-, -, g, cap, vs, h3, -⟩ := hr
    exact tag_neO h3 hrow (by decide) rfl
  refine ⟨cell_of_row _ _ 0 _ _ _ hrow, frozen_of_row hrow 0, frozen_of_row hrow 1, cell_of_row _ _ 1 _ _ _ hrow, t1, h.grO hS (.of_grown hg rfl) n1, hr.grO hS (.of_grown hg rfl) n2, (hB.setCell (p := ⟨P, 0, none⟩) (by simp [hP]) _).setCell (p := ⟨P, 1, none⟩) (by simp [hP]) _⟩

set_option maxRecDepth 4000 in
set_option maxHeartbeats 2000000 in
theorem begin_nil (lv : Value) (w : World) : Calls Try.prog 4 #[lv, .bool true] w (bgP w []) := by
  have hB0 := (Below.refl w.heap.size w).alloc (Nat.le_refl _) (.cells #[.pointer none, .pointer none] 27)
  have hrow := heap_alloc_last w (.cells #[.pointer none, .pointer none] 27)
  have hn := new_nil (w.alloc (.cells #[.pointer none, .pointer none] 27))
  go_enter Try.func4, Try.ntmps4
  go_wp2_with (go_at_call 13; fail)
  refine hn.mono ?_
  rintro e w1 ⟨hb, rfl, hl1, hh1, hb1⟩
  clear hn
  have hrn := rnew_any (.pointer none) [] (by simp) w1 (.inr ⟨rfl, rfl⟩)
  go_wp2_with (go_at_call 14; fail)
  refine hrn.mono ?_
  rintro e w2 ⟨rb, rfl, hl2, hr2, hb2⟩
  clear hrn
  have hB2 := below_step (below_step hB0 hb1) hb2
  have hrow2 := ((below_step hb1 hb2).block _ (Array.getElem?_eq_some_iff.1 hrow).1).trans hrow
  have hz1 : Hid (w.heap.size ≤ hb ∧ w.heap.size ≤ rb) := ⟨Nat.le_trans hB0.size hl1, Nat.le_trans (below_step hB0 hb1).size hl2⟩
  obtain ⟨c0, f0, f1, c1, hrow3, hh3, hr3, hB3⟩ := fill_end rfl hB2 hrow2 (hh1.later hb2) hr2
  clear hrow hrow2 hh1 hr2 hB0 hB2 hl1 hl2 hb1 hb2
  go_wp2
  have d0 := cell_of_row _ _ 0 _ _ _ hrow3
  have d1 := cell_of_row _ _ 1 _ _ _ hrow3
  generalize (w2.setCell ⟨w.heap.size, 0, none⟩ (.pointer (some ⟨hb, 0, none⟩))).setCell ⟨w.heap.size, 1, none⟩ (.pointer (some ⟨rb, 0, none⟩)) = Z at *
  refine bodyPost_ret (v := .agg #[.pointer (some ⟨hb, 0, none⟩), .pointer (some ⟨rb, 0, none⟩)]) ?_ rfl ⟨hb, rb, rfl, hz1.out.1, hz1.out.2, hh3, hr3, hB3⟩
  simp [results, Try.results4, go_sem, d0, d1]

set_option maxRecDepth 4000 in
set_option maxHeartbeats 2000000 in
theorem begin_map (lv : Value) (L : Es) (w : World) (hE : EntA w lv L) : Calls Try.prog 4 #[lv, .bool false] w (bgP w (mkE L)) := by
  have hB0 := (Below.refl w.heap.size w).alloc (Nat.le_refl _) (.cells #[.pointer none, .pointer none] 27)
  have hrow := heap_alloc_last w (.cells #[.pointer none, .pointer none] 27)
  have hbu := build_any lv L _ (hE.later hB0)
  have hL := mkE_len L
  go_enter Try.func4, Try.ntmps4
  go_wp2_with (go_at_call 15; fail)
  refine hbu.mono ?_
  rintro e w0 ⟨mb, rfl, hm0, hb0⟩
  clear hbu
  have hn := new_any mb (mkE L) hL w0 hm0
  go_wp2_with (go_at_call 13; fail)
  refine hn.mono ?_
  rintro e w1 ⟨hb, rfl, hl1, hh1, hb1⟩
  clear hn
  have hB1 := below_step (below_step hB0 hb0) hb1
  have hpt := part_any lv L w1 (hE.later hB1)
  go_wp2_with (go_at_call 17; fail)
  refine hpt.mono ?_
  rintro e w5 ⟨u, rfl, hu5, hw5⟩
  subst hw5
  clear hpt
  have hof := of_rf u (L.take 200) (by rw [List.length_take]; omega) _ hu5
  go_wp2_with (go_at_call 16; fail)
  refine hof.mono ?_
  rintro e w6 ⟨rm, rfl, hrm', hb6⟩
  have hrm : RfAt w6 rm (mkE L) := hrm'
  clear hof hrm'
  have hrn := rnew_any (.pointer (some ⟨rm, 0, none⟩)) (mkE L) hL w6 (.inl ⟨rm, rfl, hrm⟩)
  go_wp2_with (go_at_call 14; fail)
  refine hrn.mono ?_
  rintro e w2 ⟨rb, rfl, hl2, hr2, hb2⟩
  clear hrn
  have hb62 := below_step hb6 hb2
  have hB2 := below_step hB1 hb62
  have hrow2 := ((below_step (below_step hb0 hb1) hb62).block _ (Array.getElem?_eq_some_iff.1 hrow).1).trans hrow
  have hz1 : Hid (w.heap.size ≤ hb ∧ w.heap.size ≤ rb) := ⟨Nat.le_trans (below_step hB0 hb0).size hl1, Nat.le_trans (below_step hB1 hb6).size hl2⟩
  obtain ⟨c0, f0, f1, c1, hrow3, hh3, hr3, hB3⟩ := fill_end rfl hB2 hrow2 (hh1.later hb62) hr2
  clear hrow hrow2 hh1 hr2 hB0 hB2 hl1 hl2 hb1 hb2 hm0 hb0 hB1 hu5 hb6 hrm hb62 hE hL
  go_wp2
  have d0 := cell_of_row _ _ 0 _ _ _ hrow3
  have d1 := cell_of_row _ _ 1 _ _ _ hrow3
  generalize (w2.setCell ⟨w.heap.size, 0, none⟩ (.pointer (some ⟨hb, 0, none⟩))).setCell ⟨w.heap.size, 1, none⟩ (.pointer (some ⟨rb, 0, none⟩)) = Z at *
  refine bodyPost_ret (v := .agg #[.pointer (some ⟨hb, 0, none⟩), .pointer (some ⟨rb, 0, none⟩)]) ?_ rfl ⟨hb, rb, rfl, hz1.out.1, hz1.out.2, hh3, hr3, hB3⟩
  simp [results, Try.results4, go_sem, d0, d1]


end Go.Proofs.Ytkojgbfocdefnaa


namespace Go.Proofs.Ytkojgbfocdefnaa
open Go.RowKit

def pairR (hb rb : Nat) : Obj := .cells #[.pointer (some ⟨hb, 0, none⟩), .pointer (some ⟨rb, 0, none⟩)] 27 (0, 0)
/-- Where the statement's loop stands: the two pairs, their boxes, and the iterator over keys. -/
structure HSt (w : World) (P Q n hb rb : Nat) (Ls : List Es) (p : Nat) (hb2 rb2 : Nat) (Ls2 : List Es) (p2 : Nat) (X : World) : Prop where
  h1 : HistAt X hb Ls p
  r1 : RhAt X rb Ls p
  h2 : HistAt X hb2 Ls2 p2
  r2 : RhAt X rb2 Ls2 p2
  ne : hb ≠ hb2 ∧ rb ≠ rb2
  rowP : X.heap[P]? = some (pairR hb rb)
  rowQ : X.heap[Q]? = some (pairR hb2 rb2)
  tou : TouAt X n hb (-1) 0
  lo : w.heap.size ≤ hb ∧ w.heap.size ≤ rb ∧ w.heap.size ≤ hb2 ∧ w.heap.size ≤ rb2
  bel : Below w.heap.size w X
theorem grs_below {S : Nat → Prop} {w X Y : World} {lo : Nat} (h : Below lo w X) (hl : lo ≤ X.heap.size) (hg : GrS S X Y) (hS : ∀ k, S k → lo ≤ k) : Below lo w Y :=
  h.trans ⟨hg.os, hg.tape, hg.output, hg.size, fun k hk => hg.block k (Nat.lt_of_lt_of_le hk hl) (fun e => by have := hS k e; omega)⟩
theorem TouAt.grO {S : Nat → Prop} {X Y : World} {n hb : Nat} {a b : Int} (h : TouAt X n hb a b) (hg : GrS S X Y) (hn : ¬ S n ∧ ¬ S (n + 1) ∧ ¬ S (n + 1 + 1)) : TouAt Y n hb a b :=
  ⟨(hg.cell h.2.2.2.1 hn.1).trans h.1, (hg.cell h.2.2.2.2.1 hn.2.1).trans h.2.1, (hg.cell h.2.2.2.2.2 hn.2.2).trans h.2.2.1, Nat.lt_of_lt_of_le h.2.2.2.1 hg.size, Nat.lt_of_lt_of_le h.2.2.2.2.1 hg.size, Nat.lt_of_lt_of_le h.2.2.2.2.2 hg.size⟩
theorem Hd.ne_int {W : World} {x b : Nat} {v : Value} (h : Hd W x) (hc : W.cell? ⟨b, 0, none⟩ = some v) (hv : ∀ a n c, v ≠ .slice a n c) : b ≠ x := fun e => by
  subst e
  obtain ⟨cs', t', h3, h4, a, n, c, h5⟩ := h
  rw [cell_of_row _ _ 0 _ _ _ h3, h5] at hc
  exact hv a n c (Option.some.inj hc).symm
theorem TouAt.off {X : World} {n hb x : Nat} {a b : Int} (h : TouAt X n hb a b) (hx : Hd X x) : n ≠ x ∧ n + 1 ≠ x ∧ n + 1 + 1 ≠ x := ⟨hx.ne_int h.1 (by simp), hx.ne_int h.2.1 (by simp), hx.ne_int h.2.2.1 (by simp)⟩
theorem HSt.later {w : World} {P Q n hb rb : Nat} {Ls : List Es} {p hb2 rb2 : Nat} {Ls2 : List Es} {p2 : Nat} {X Y : World} (s : HSt w P Q n hb rb Ls p hb2 rb2 Ls2 p2 X) (hB : Below X.heap.size X Y) : HSt w P Q n hb rb Ls p hb2 rb2 Ls2 p2 Y :=
  ⟨s.h1.later hB, s.r1.later hB, s.h2.later hB, s.r2.later hB, s.ne, (hB.block _ (Array.getElem?_eq_some_iff.1 s.rowP).1).trans s.rowP, (hB.block _ (Array.getElem?_eq_some_iff.1 s.rowQ).1).trans s.rowQ, s.tou.later hB, s.lo, below_step s.bel hB⟩
theorem pair_off {X : World} {P x hb rb : Nat} (hr : X.heap[P]? = some (pairR hb rb)) (hx : Hd X x) : P ≠ x := hx.ne_tag hr (by decide) (by decide)
theorem HSt.play1 {w : World} {P Q n hb rb : Nat} {Ls : List Es} {p hb2 rb2 : Nat} {Ls2 : List Es} {p2 : Nat} {X Y : World} {Ls' : List Es} {p' : Nat} (s : HSt w P Q n hb rb Ls p hb2 rb2 Ls2 p2 X) (h : HistAt Y hb Ls' p') (r : RhAt Y rb Ls' p') (hg : GrS (PS hb rb) X Y) : HSt w P Q n hb rb Ls' p' hb2 rb2 Ls2 p2 Y := by
  have hd1 := s.h1.hd
  have hd2 := s.r1.hd
  have hS : ∀ k, PS hb rb k → Odd X k := fun k e => by rcases e with e | e <;> subst e; exact hd1.odd; exact hd2.odd
  have off : ∀ {k}, k ≠ hb → k ≠ rb → ¬ PS hb rb k := fun a b e => by rcases e with e | e; exact a e; exact b e
  have t1 := s.tou.off hd1
  have t2 := s.tou.off hd2
  exact ⟨h, r, s.h2.grO hS hg (off (Ne.symm s.ne.1) (hist_ref_ne s.h2 s.r1)), s.r2.grO hS hg (off (Ne.symm (hist_ref_ne s.h1 s.r2)) (Ne.symm s.ne.2)), s.ne,
    (hg.block _ (Array.getElem?_eq_some_iff.1 s.rowP).1 (off (pair_off s.rowP hd1) (pair_off s.rowP hd2))).trans s.rowP, (hg.block _ (Array.getElem?_eq_some_iff.1 s.rowQ).1 (off (pair_off s.rowQ hd1) (pair_off s.rowQ hd2))).trans s.rowQ,
    s.tou.grO hg ⟨off t1.1 t2.1, off t1.2.1 t2.2.1, off t1.2.2 t2.2.2⟩, s.lo, grs_below s.bel s.bel.size hg (fun k e => by rcases e with e | e <;> subst e; exact s.lo.1; exact s.lo.2.1)⟩
theorem HSt.play2 {w : World} {P Q n hb rb : Nat} {Ls : List Es} {p hb2 rb2 : Nat} {Ls2 : List Es} {p2 : Nat} {X Y : World} {Ls' : List Es} {p' : Nat} (s : HSt w P Q n hb rb Ls p hb2 rb2 Ls2 p2 X) (h : HistAt Y hb2 Ls' p') (r : RhAt Y rb2 Ls' p') (hg : GrS (PS hb2 rb2) X Y) : HSt w P Q n hb rb Ls p hb2 rb2 Ls' p' Y := by
  have hd1 := s.h2.hd
  have hd2 := s.r2.hd
  have hS : ∀ k, PS hb2 rb2 k → Odd X k := fun k e => by rcases e with e | e <;> subst e; exact hd1.odd; exact hd2.odd
  have off : ∀ {k}, k ≠ hb2 → k ≠ rb2 → ¬ PS hb2 rb2 k := fun a b e => by rcases e with e | e; exact a e; exact b e
  have t1 := s.tou.off hd1
  have t2 := s.tou.off hd2
  exact ⟨s.h1.grO hS hg (off s.ne.1 (hist_ref_ne s.h1 s.r2)), s.r1.grO hS hg (off (Ne.symm (hist_ref_ne s.h2 s.r1)) s.ne.2), h, r, s.ne,
    (hg.block _ (Array.getElem?_eq_some_iff.1 s.rowP).1 (off (pair_off s.rowP hd1) (pair_off s.rowP hd2))).trans s.rowP, (hg.block _ (Array.getElem?_eq_some_iff.1 s.rowQ).1 (off (pair_off s.rowQ hd1) (pair_off s.rowQ hd2))).trans s.rowQ,
    s.tou.grO hg ⟨off t1.1 t2.1, off t1.2.1 t2.2.1, off t1.2.2 t2.2.2⟩, s.lo, grs_below s.bel s.bel.size hg (fun k e => by rcases e with e | e <;> subst e; exact s.lo.2.2.1; exact s.lo.2.2.2)⟩
/-- Two stores into a box of a pair. -/
theorem pair_set {X : World} {R a b c d : Nat} (hr : X.heap[R]? = some (pairR a b)) : X.cell? ⟨R, 0, none⟩ = some (.pointer (some ⟨a, 0, none⟩)) ∧ X.cell? ⟨R, 1, none⟩ = some (.pointer (some ⟨b, 0, none⟩)) ∧ X.frozen? ⟨R, 0, none⟩ = false ∧ X.frozen? ⟨R, 1, none⟩ = false ∧
    ((X.setCell ⟨R, 0, none⟩ (.pointer (some ⟨c, 0, none⟩))).setCell ⟨R, 1, none⟩ (.pointer (some ⟨d, 0, none⟩))).heap[R]? = some (pairR c d) ∧ GrS (fun k => k = R) X ((X.setCell ⟨R, 0, none⟩ (.pointer (some ⟨c, 0, none⟩))).setCell ⟨R, 1, none⟩ (.pointer (some ⟨d, 0, none⟩))) := by
  have t0 := heap_setCell_same X R 0 _ _ (.pointer (some ⟨c, 0, none⟩)) hr
  have t1 := heap_setCell_same _ R 1 _ _ (.pointer (some ⟨d, 0, none⟩)) t0
  exact ⟨cell_of_row _ _ 0 _ _ _ hr, cell_of_row _ _ 1 _ _ _ hr, frozen_of_row hr 0, frozen_of_row hr 1, t1, .of_grown ((grown_set X R 0 _).trans (grown_set _ R 1 _)) rfl⟩
/-- A store into the loop's own box. -/
theorem HSt.put {w : World} {P Q n hb rb : Nat} {Ls : List Es} {p hb2 rb2 : Nat} {Ls2 : List Es} {p2 : Nat} {X Y : World} {R : Nat} (s : HSt w P Q n hb rb Ls p hb2 rb2 Ls2 p2 X) (hr : X.heap[R]? = some (pairR hb rb)) (hg : GrS (fun k => k = R) X Y) (hP : R ≠ P) (hQ : R ≠ Q) (hn : n + 1 + 1 < R) (hl : w.heap.size ≤ R) : HSt w P Q n hb rb Ls p hb2 rb2 Ls2 p2 Y := by
  have hO : Odd X R := .inr (.inl ⟨_, hb, hr, rfl, s.h1.hd⟩)
  have hS : ∀ k, (fun k => k = R) k → Odd X k := fun k e => by subst e; exact hO
  have o : ∀ {k}, Hd X k → ¬ (fun k => k = R) k := fun hk e => pair_off hr hk (Eq.symm e)
  exact ⟨s.h1.grO hS hg (o s.h1.hd), s.r1.grO hS hg (o s.r1.hd), s.h2.grO hS hg (o s.h2.hd), s.r2.grO hS hg (o s.r2.hd), s.ne,
    (hg.block _ (Array.getElem?_eq_some_iff.1 s.rowP).1 (Ne.symm hP)).trans s.rowP, (hg.block _ (Array.getElem?_eq_some_iff.1 s.rowQ).1 (Ne.symm hQ)).trans s.rowQ,
    s.tou.grO hg ⟨show ¬ n = R by omega, show ¬ n + 1 = R by omega, show ¬ n + 1 + 1 = R by omega⟩, s.lo, grs_below s.bel s.bel.size hg (fun k e => by subst e; exact hl)⟩
/-- A clone takes the second pair's place. -/
theorem HSt.clone {w : World} {P Q n hb rb : Nat} {Ls : List Es} {p hb2 rb2 : Nat} {Ls2 : List Es} {p2 : Nat} {X Y : World} {hc rc : Nat} (s : HSt w P Q n hb rb Ls p hb2 rb2 Ls2 p2 X) (h : HistAt X hc Ls p) (r : RhAt X rc Ls p) (hg : GrS (fun k => k = Q) X Y) (hY : Y.heap[Q]? = some (pairR hc rc)) (hne : hb ≠ hc ∧ rb ≠ rc) (hP : P ≠ Q) (hn : Q < n) (hl : w.heap.size ≤ Q ∧ w.heap.size ≤ hc ∧ w.heap.size ≤ rc) : HSt w P Q n hb rb Ls p hc rc Ls p Y := by
  have hO : Odd X Q := .inr (.inl ⟨_, hb2, s.rowQ, rfl, s.h2.hd⟩)
  have hS : ∀ k, (fun k => k = Q) k → Odd X k := fun k e => by subst e; exact hO
  have o : ∀ {k}, Hd X k → ¬ (fun k => k = Q) k := fun hk e => pair_off s.rowQ hk (Eq.symm e)
  exact ⟨s.h1.grO hS hg (o s.h1.hd), s.r1.grO hS hg (o s.r1.hd), h.grO hS hg (o h.hd), r.grO hS hg (o r.hd), hne,
    (hg.block _ (Array.getElem?_eq_some_iff.1 s.rowP).1 hP).trans s.rowP, hY,
    s.tou.grO hg ⟨show ¬ n = Q by omega, show ¬ n + 1 = Q by omega, show ¬ n + 1 + 1 = Q by omega⟩, ⟨s.lo.1, s.lo.2.1, hl.2.1, hl.2.2⟩, grs_below s.bel s.bel.size hg (fun k e => by subst e; exact hl.1)⟩

/-- An operation of a script, whole. -/
structure POp where
  kind : Int
  a : Int
  b : Int
  sec : Bool
  nil : Bool
  L : Es
instance : Inhabited POp := ⟨⟨0, 0, 0, false, false, []⟩⟩
def POpAt (W : World) (g off : Nat) (o : POp) : Prop := W.cell? ⟨g, off, none⟩ = some (.int .i64 o.kind) ∧ W.cell? ⟨g, off + 1, none⟩ = some (.int .i64 o.a) ∧ W.cell? ⟨g, off + 2, none⟩ = some (.int .i64 o.b) ∧ W.cell? ⟨g, off + 3, none⟩ = some (.bool o.sec) ∧ W.cell? ⟨g, off + 4, none⟩ = some (.bool o.nil) ∧ ∃ lv, W.cell? ⟨g, off + 5, none⟩ = some lv ∧ EntA W lv o.L
def POpsA (W : World) (v : Value) (S : List POp) : Prop := ∃ a cap, v = .slice a S.length cap ∧ S.length ≤ cap ∧ S.length ≤ 9223372036854775807 ∧ (S = [] ∨ ∃ g off, a = some ⟨g, off, none⟩ ∧ g < W.heap.size ∧ ∀ i (h : i < S.length), POpAt W g (off + i * 6) S[i])

end Go.Proofs.Ytkojgbfocdefnaa


namespace Go.Proofs.Ytkojgbfocdefnaa
open Go.RowKit

set_option maxRecDepth 4000 in
set_option maxHeartbeats 8000000 in
theorem hall_walk (v1 : Value) (E : Es) (nn : Bool) (v2 : Value) (S : List POp) (w : World) (hE : EntA w v1 E) (hS : POpsA w v2 S) : Calls Try.prog 3 #[v1, .bool nn, v2] w fun e w' => e = .returned (.bool true) ∧ Below w.heap.size w w' := by
  obtain ⟨M, hbg⟩ : ∃ M, Calls Try.prog 4 #[v1, .bool nn] w (bgP w M) := by
    cases nn with
    | true => exact ⟨_, begin_nil v1 w⟩
    | false => exact ⟨_, begin_map v1 E w hE⟩
  obtain ⟨a0, cap0, rfl, q1, q2, q3⟩ := hS
  clear hE
  go_enter Try.func3, Try.ntmps3
  go_wp2_with (go_at_call 4; fail)
  refine hbg.mono ?_
  rintro e w1 ⟨hb, rb, rfl, lo1, lo2, h1, r1, B1⟩
  clear hbg
  have hA1 : Below w1.heap.size w1 (w1.alloc (.cells #[.pointer (some ⟨hb, 0, none⟩), .pointer (some ⟨rb, 0, none⟩)] 27)) := (Below.refl _ _).alloc (Nat.le_refl _) _
  have rowP : (w1.alloc (.cells #[.pointer (some ⟨hb, 0, none⟩), .pointer (some ⟨rb, 0, none⟩)] 27)).heap[w1.heap.size]? = some (pairR hb rb) := heap_alloc_last w1 _
  have hbg2 := begin_nil (.slice none 0 0) (w1.alloc (.cells #[.pointer (some ⟨hb, 0, none⟩), .pointer (some ⟨rb, 0, none⟩)] 27))
  go_wp2_with (go_at_call 4; fail)
  obtain ⟨P, hP⟩ : ∃ P, P = w1.heap.size := ⟨_, rfl⟩
  rw [← hP] at rowP ⊢
  have hPl : Hid (w.heap.size ≤ P) := by rw [hP]; exact B1.size
  have h1A := h1.later hA1
  have r1A := r1.later hA1
  have B1A := below_step B1 hA1
  have hz1 : Hid (hb < (w1.alloc (.cells #[.pointer (some ⟨hb, 0, none⟩), .pointer (some ⟨rb, 0, none⟩)] 27)).heap.size ∧ rb < (w1.alloc (.cells #[.pointer (some ⟨hb, 0, none⟩), .pointer (some ⟨rb, 0, none⟩)] 27)).heap.size) := ⟨h1A.lt, r1A.lt⟩
  clear hP h1 r1 B1 hA1
  generalize w1.alloc (.cells #[.pointer (some ⟨hb, 0, none⟩), .pointer (some ⟨rb, 0, none⟩)] 27) = A1 at *
  refine hbg2.mono ?_
  rintro e w2 ⟨hb2, rb2, rfl, lo3, lo4, h2, r2, B2⟩
  clear hbg2
  have hA2 : Below w2.heap.size w2 (w2.alloc (.cells #[.pointer (some ⟨hb2, 0, none⟩), .pointer (some ⟨rb2, 0, none⟩)] 27)) := (Below.refl _ _).alloc (Nat.le_refl _) _
  have rowQ : (w2.alloc (.cells #[.pointer (some ⟨hb2, 0, none⟩), .pointer (some ⟨rb2, 0, none⟩)] 27)).heap[w2.heap.size]? = some (pairR hb2 rb2) := heap_alloc_last w2 _
  have rowP2 := ((below_step B2 hA2).block _ (Array.getElem?_eq_some_iff.1 rowP).1).trans rowP
  have x0 : (w2.alloc (.cells #[.pointer (some ⟨hb2, 0, none⟩), .pointer (some ⟨rb2, 0, none⟩)] 27)).cell? ⟨P, 0, none⟩ = some (.pointer (some ⟨hb, 0, none⟩)) := cell_of_row _ _ 0 _ _ _ rowP2
  have y0 : (w2.alloc (.cells #[.pointer (some ⟨hb2, 0, none⟩), .pointer (some ⟨rb2, 0, none⟩)] 27)).cell? ⟨w2.heap.size, 0, none⟩ = some (.pointer (some ⟨hb2, 0, none⟩)) := cell_of_row _ _ 0 _ _ _ rowQ
  have hPQ : Hid (P ≠ w2.heap.size ∧ w.heap.size ≤ w2.heap.size) := ⟨Nat.ne_of_lt (Nat.lt_of_lt_of_le (Array.getElem?_eq_some_iff.1 rowP).1 B2.size), Nat.le_trans B1A.size B2.size⟩
  have hne : Hid (hb ≠ hb2 ∧ rb ≠ rb2) := ⟨fun e => by have := hz1.out.1; omega, fun e => by have := hz1.out.2; omega⟩
  have hlo : Hid (w.heap.size ≤ hb ∧ w.heap.size ≤ rb ∧ w.heap.size ≤ hb2 ∧ w.heap.size ≤ rb2) := ⟨lo1, lo2, Nat.le_trans B1A.size lo3, Nat.le_trans B1A.size lo4⟩
  go_upto_region 5 with fail
  have h1B := h1A.later (below_step B2 hA2)
  have r1B := r1A.later (below_step B2 hA2)
  have h2B := h2.later hA2
  have r2B := r2.later hA2
  have BB := below_step B1A (below_step B2 hA2)
  have hQl : Hid (w2.heap.size < (w2.alloc (.cells #[.pointer (some ⟨hb2, 0, none⟩), .pointer (some ⟨rb2, 0, none⟩)] 27)).heap.size) := (Array.getElem?_eq_some_iff.1 rowQ).1
  clear h1A r1A h2 r2 B1A B2 hA2 lo1 lo2 lo3 lo4 rowP hz1 y0
  generalize w2.alloc (.cells #[.pointer (some ⟨hb2, 0, none⟩), .pointer (some ⟨rb2, 0, none⟩)] 27) = A2 at *
  generalize w2.heap.size = Q at *
  have hD : Below A2.heap.size A2 A2.drew := (Below.refl _ _).drew
  have hSD : A2.drew.cell? ⟨P, 0, none⟩ = some (.pointer (some ⟨hb, 0, none⟩)) := x0
  have hPl2 : P < A2.drew.heap.size := (Array.getElem?_eq_some_iff.1 rowP2).1
  have hto := touched_any hb (-1) 0 A2.drew
  go_region_held3 (fun X => X.cell? ⟨P, 0, none⟩ = some (.pointer (some ⟨hb, 0, none⟩))) (with_reducible assumption)
    (first | (go_at_call 5; refine (stepsF_any hb _).mono ?_; rintro e w5 ⟨rfl, hw5⟩; subst hw5) | (go_at_call 6; refine hto.mono ?_; rintro e w6 ⟨rfl, hT6, hb6⟩; have hS6 : w6.cell? ⟨P, 0, none⟩ = some (.pointer (some ⟨hb, 0, none⟩)) := (hb6.cell (p := ⟨P, 0, none⟩) hPl2).trans hSD))
  clear hto hS6 hSD hPl2 x0
  have hT6' : TouAt w6 A2.heap.size hb (-1) 0 := hT6
  have hQn : Hid (Q < A2.heap.size) := hQl.out
  have hb6' := below_step hD hb6
  have st0 : HSt w P Q A2.heap.size hb rb [M] 0 hb2 rb2 [[]] 0 w6 := ⟨h1B.later hb6', r1B.later hb6', h2B.later hb6', r2B.later hb6', hne.out, (hb6'.block _ (Array.getElem?_eq_some_iff.1 rowP2).1).trans rowP2, (hb6'.block _ (Array.getElem?_eq_some_iff.1 rowQ).1).trans rowQ, hT6', hlo.out, below_step BB hb6'⟩
  clear h1B r1B h2B r2B hne rowP2 rowQ hT6 hT6' hlo BB hb6' hb6 hD hQl
  generalize A2.heap.size = n at *
  obtain ⟨tv, htv⟩ : ∃ tv, Hid (touV n (n + 1) (n + 1 + 1) = tv) := ⟨_, show _ = _ from rfl⟩
  rw [htv.out]
  have q2H : Hid (S.length ≤ 9223372036854775807) := q2
  clear q1 q2
  go_wp2_with fail
  go_loopw [11] (fun iv X => ∃ (i : Nat) (Ls : List Es) (p hb2 rb2 : Nat) (Ls2 : List Es) (p2 : Nat), i ≤ S.length ∧ iv = .int .i64 (i : Int) ∧ HSt w P Q n hb rb Ls p hb2 rb2 Ls2 p2 X) (fun iv _ => S.length - (intOf iv).toNat)
  case atStart => exact ⟨0, _, _, _, _, _, _, Nat.zero_le _, rfl, st0⟩
  case round =>
    clear st0
    obtain ⟨i, Ls, p, hb2, rb2, Ls2, p2, hi, rfl, st⟩ := hrel
    by_cases hlt : i < S.length
    · have hlt' : (i : Int) < (S.length : Int) := Int.ofNat_lt.2 hlt
      have hi0 : (0 : Int) ≤ (i : Int) := Int.natCast_nonneg _
      have hms : Hid (i < S.length ∧ S.length ≤ 9223372036854775807) := ⟨hlt, q2H.out⟩
      rcases q3 with h0 | ⟨g, off, rfl, hgl, hcs⟩
      · rw [h0] at hlt; simp at hlt
      obtain ⟨c0, c1, c2, c3, c4, lv, c5, hEnt⟩ := hcs i hlt
      generalize S[i].kind = kd at *
      generalize S[i].a = oa at *
      generalize S[i].b = ob at *
      generalize S[i].sec = sec at *
      generalize S[i].nil = nil at *
      generalize S[i].L = oL at *
      have hop : Hid (∀ X, Below w.heap.size w X → X.cell? ⟨g, off + i * 6, none⟩ = some (.int .i64 kd) ∧ X.cell? ⟨g, off + i * 6 + 1, none⟩ = some (.int .i64 oa) ∧ X.cell? ⟨g, off + i * 6 + 2, none⟩ = some (.int .i64 ob) ∧ X.cell? ⟨g, off + i * 6 + 3, none⟩ = some (.bool sec) ∧ X.cell? ⟨g, off + i * 6 + 4, none⟩ = some (.bool nil) ∧ X.cell? ⟨g, off + i * 6 + 5, none⟩ = some lv) := fun X hX => by
        have kc : ∀ o, X.cell? ⟨g, o, none⟩ = w.cell? ⟨g, o, none⟩ := fun o => hX.cell (p := ⟨g, o, none⟩) hgl
        exact ⟨(kc _).trans c0, (kc _).trans c1, (kc _).trans c2, (kc _).trans c3, (kc _).trans c4, (kc _).trans c5⟩
      have hEn : Hid (∀ X, Below w.heap.size w X → EntA X lv oL) := fun X hX => hEnt.later hX
      obtain ⟨z0, z1, z2, z3, z4, z5⟩ := hop.out _ st.bel
      clear hcs c0 c1 c2 c3 c4 c5 hEnt hlt hi
      have xP0 : wr.cell? ⟨P, 0, none⟩ = some (.pointer (some ⟨hb, 0, none⟩)) := cell_of_row _ _ 0 _ _ _ st.rowP
      have xP1 : wr.cell? ⟨P, 1, none⟩ = some (.pointer (some ⟨rb, 0, none⟩)) := cell_of_row _ _ 1 _ _ _ st.rowP
      by_cases hk : kd = 9
      · subst hk
        have hD : Below wr.heap.size wr wr.drew := (Below.refl _ _).drew
        have stD := st.later hD
        have hSD : wr.drew.cell? ⟨P, 0, none⟩ = some (.pointer (some ⟨hb, 0, none⟩)) ∧ wr.drew.cell? ⟨P, 1, none⟩ = some (.pointer (some ⟨rb, 0, none⟩)) := ⟨xP0, xP1⟩
        have hcl := clone_any hb Ls p _ stD.h1
        have hnn : ∀ (W : World) (x : Nat), (binOp BinOp.eql 24 (.pointer (some ⟨x, 0, none⟩)) (.pointer none)).run Try.prog W = .ok (.bool false) W := fun _ _ => rfl
        go_upto_region 10 with fail
        clear z0 z1 z2 z3 z4 z5 xP0 xP1 hop hEn
        go_region_held3 (fun X => X.cell? ⟨P, 0, none⟩ = some (.pointer (some ⟨hb, 0, none⟩)) ∧ X.cell? ⟨P, 1, none⟩ = some (.pointer (some ⟨rb, 0, none⟩))) (with_reducible assumption)
          (first | (go_at_call 7; refine hcl.mono ?_; rintro e w5 ⟨hc, rfl, hlc, hh5, hb5⟩; have st5 := stD.later hb5; have hS5 : w5.cell? ⟨P, 0, none⟩ = some (.pointer (some ⟨hb, 0, none⟩)) ∧ w5.cell? ⟨P, 1, none⟩ = some (.pointer (some ⟨rb, 0, none⟩)) := ⟨cell_of_row _ _ 0 _ _ _ st5.rowP, cell_of_row _ _ 1 _ _ _ st5.rowP⟩; have hrc := rclone_any rb Ls p _ st5.r1) | (go_at_call 8; refine hrc.mono ?_; rintro e w6 ⟨rc, rfl, hlr, hr6, hb6⟩; have st6 := st5.later hb6; have hS6 : w6.cell? ⟨P, 0, none⟩ = some (.pointer (some ⟨hb, 0, none⟩)) ∧ w6.cell? ⟨P, 1, none⟩ = some (.pointer (some ⟨rb, 0, none⟩)) := ⟨cell_of_row _ _ 0 _ _ _ st6.rowP, cell_of_row _ _ 1 _ _ _ st6.rowP⟩; obtain ⟨yQ0, yQ1, fQ0, fQ1, rowQ2, hgQ⟩ := pair_set (c := hc) (d := rc) st6.rowQ; have st7 := st6.clone (hh5.later hb6) hr6 hgQ rowQ2 ⟨(fun e => by have := stD.h1.lt; omega), (fun e => by have := st5.r1.lt; omega)⟩ hPQ.out.1 hQn.out ⟨hPQ.out.2, Nat.le_trans stD.bel.size hlc, Nat.le_trans st5.bel.size hlr⟩; have hS7 : ((w6.setCell ⟨Q, 0, none⟩ (.pointer (some ⟨hc, 0, none⟩))).setCell ⟨Q, 1, none⟩ (.pointer (some ⟨rc, 0, none⟩))).cell? ⟨P, 0, none⟩ = some (.pointer (some ⟨hb, 0, none⟩)) ∧ ((w6.setCell ⟨Q, 0, none⟩ (.pointer (some ⟨hc, 0, none⟩))).setCell ⟨Q, 1, none⟩ (.pointer (some ⟨rc, 0, none⟩))).cell? ⟨P, 1, none⟩ = some (.pointer (some ⟨rb, 0, none⟩)) := ⟨cell_of_row _ _ 0 _ _ _ st7.rowP, cell_of_row _ _ 1 _ _ _ st7.rowP⟩))
        have yZ : ((w6.setCell ⟨Q, 0, none⟩ (.pointer (some ⟨hc, 0, none⟩))).setCell ⟨Q, 1, none⟩ (.pointer (some ⟨rc, 0, none⟩))).cell? ⟨Q, 0, none⟩ = some (.pointer (some ⟨hc, 0, none⟩)) := cell_of_row _ _ 0 _ _ _ st7.rowQ
        clear hcl hrc hSD hS5 hS6 hS7 yQ0 yQ1 fQ0 fQ1 rowQ2 hgQ hh5 hr6 st5 st6 stD st hD hb5 hb6
        generalize (w6.setCell ⟨Q, 0, none⟩ (.pointer (some ⟨hc, 0, none⟩))).setCell ⟨Q, 1, none⟩ (.pointer (some ⟨rc, 0, none⟩)) = Z at *
        obtain ⟨hn5, hn4⟩ := hms.out
        go_wp2
        exact ⟨⟨i + 1, _, _, _, _, _, _, hn5, by go_num, st7⟩, by simp [intOf]; omega⟩
      · have hkb : (kd == 9) = false := by simpa using hk
        have hA : Below wr.heap.size wr (wr.alloc (.cells #[.pointer (some ⟨hb, 0, none⟩), .pointer (some ⟨rb, 0, none⟩)] 27)) := (Below.refl _ _).alloc (Nat.le_refl _) _
        have rowR : (wr.alloc (.cells #[.pointer (some ⟨hb, 0, none⟩), .pointer (some ⟨rb, 0, none⟩)] 27)).heap[wr.heap.size]? = some (pairR hb rb) := heap_alloc_last wr _
        have stA := st.later hA
        have hRP : Hid (wr.heap.size ≠ P ∧ wr.heap.size ≠ Q ∧ n + 1 + 1 < wr.heap.size ∧ w.heap.size ≤ wr.heap.size) := ⟨(Nat.ne_of_lt (Array.getElem?_eq_some_iff.1 st.rowP).1).symm, (Nat.ne_of_lt (Array.getElem?_eq_some_iff.1 st.rowQ).1).symm, st.tou.2.2.2.2.2, st.bel.size⟩
        obtain ⟨zA0, zA1, zA2, zA3, zA4, zA5⟩ := hop.out _ stA.bel
        go_upto_region 14 with fail
        clear st z0 z1 z2 z3 z4 z5 xP0 xP1 hA
        generalize wr.alloc (.cells #[.pointer (some ⟨hb, 0, none⟩), .pointer (some ⟨rb, 0, none⟩)] 27) = A at *
        generalize wr.heap.size = R at *
        cases sec with
        | false =>
          go_upto_region 16 with fail
          clear zA0 zA1 zA2 zA3 zA4 zA5
          have hD : Below A.heap.size A A.drew := (Below.refl _ _).drew
          have stD := stA.later hD
          have hSD : A.drew.cell? ⟨R, 0, none⟩ = some (.pointer (some ⟨hb, 0, none⟩)) ∧ A.drew.cell? ⟨R, 1, none⟩ = some (.pointer (some ⟨rb, 0, none⟩)) ∧ A.drew.cell? ⟨g, off + i * 6, none⟩ = some (.int .i64 kd) ∧ A.drew.cell? ⟨g, off + i * 6 + 1, none⟩ = some (.int .i64 oa) ∧ A.drew.cell? ⟨g, off + i * 6 + 2, none⟩ = some (.int .i64 ob) ∧ A.drew.cell? ⟨g, off + i * 6 + 3, none⟩ = some (.bool false) ∧ A.drew.cell? ⟨g, off + i * 6 + 4, none⟩ = some (.bool nil) ∧ A.drew.cell? ⟨g, off + i * 6 + 5, none⟩ = some lv := ⟨cell_of_row _ _ 0 _ _ _ rowR, cell_of_row _ _ 1 _ _ _ rowR, hop.out _ stD.bel⟩
          have hEp : ∀ Y, GrS (PS hb rb) A.drew Y → EntA Y lv oL := fun Y hY => hEn.out _ (grs_below stD.bel stD.bel.size hY (fun k e => by rcases e with e | e <;> subst e; exact stD.lo.1; exact stD.lo.2.1))
          have hpl := plays_all hb rb _ _ kd oa ob false nil lv _ stD.h1 stD.r1 oL hEp
          have hRl : R < A.drew.heap.size := (Array.getElem?_eq_some_iff.1 rowR).1
          have hRo : Hid (R ≠ hb ∧ R ≠ rb) := ⟨pair_off rowR stA.h1.hd, pair_off rowR stA.r1.hd⟩
          clear hEp
          go_wp2_with fail
          go_region_held3 (fun X => X.cell? ⟨R, 0, none⟩ = some (.pointer (some ⟨hb, 0, none⟩)) ∧ X.cell? ⟨R, 1, none⟩ = some (.pointer (some ⟨rb, 0, none⟩)) ∧ X.cell? ⟨g, off + i * 6, none⟩ = some (.int .i64 kd) ∧ X.cell? ⟨g, off + i * 6 + 1, none⟩ = some (.int .i64 oa) ∧ X.cell? ⟨g, off + i * 6 + 2, none⟩ = some (.int .i64 ob) ∧ X.cell? ⟨g, off + i * 6 + 3, none⟩ = some (.bool false) ∧ X.cell? ⟨g, off + i * 6 + 4, none⟩ = some (.bool nil) ∧ X.cell? ⟨g, off + i * 6 + 5, none⟩ = some lv) (with_reducible assumption)
            (first | (go_at_call 9; refine hpl.mono ?_; rintro e w9 ⟨Ls9, p9, rfl, h9, r9, hG9⟩; have st9 := stD.play1 h9 r9 hG9; have hS9 : w9.cell? ⟨R, 0, none⟩ = some (.pointer (some ⟨hb, 0, none⟩)) ∧ w9.cell? ⟨R, 1, none⟩ = some (.pointer (some ⟨rb, 0, none⟩)) ∧ w9.cell? ⟨g, off + i * 6, none⟩ = some (.int .i64 kd) ∧ w9.cell? ⟨g, off + i * 6 + 1, none⟩ = some (.int .i64 oa) ∧ w9.cell? ⟨g, off + i * 6 + 2, none⟩ = some (.int .i64 ob) ∧ w9.cell? ⟨g, off + i * 6 + 3, none⟩ = some (.bool false) ∧ w9.cell? ⟨g, off + i * 6 + 4, none⟩ = some (.bool nil) ∧ w9.cell? ⟨g, off + i * 6 + 5, none⟩ = some lv := ⟨(hG9.cell hRl (fun e => by rcases e with e | e; exact hRo.out.1 e; exact hRo.out.2 e)).trans hSD.1, (hG9.cell hRl (fun e => by rcases e with e | e; exact hRo.out.1 e; exact hRo.out.2 e)).trans hSD.2.1, hop.out _ st9.bel⟩))
          clear hpl hSD hS9 hop hEn
          obtain ⟨hn5, hn4⟩ := hms.out
          go_wp2
          exact ⟨⟨i + 1, _, _, _, _, _, _, hn5, by go_num, st9⟩, by simp [intOf]; omega⟩
        | true =>
          have yQ0 : A.cell? ⟨Q, 0, none⟩ = some (.pointer (some ⟨hb2, 0, none⟩)) := cell_of_row _ _ 0 _ _ _ stA.rowQ
          have yQ1 : A.cell? ⟨Q, 1, none⟩ = some (.pointer (some ⟨rb2, 0, none⟩)) := cell_of_row _ _ 1 _ _ _ stA.rowQ
          obtain ⟨yR0, yR1, fR0, fR1, rowR2, hgR⟩ := pair_set (c := hb2) (d := rb2) rowR
          have stB := stA.put rowR hgR hRP.out.1 hRP.out.2.1 hRP.out.2.2.1 hRP.out.2.2.2
          go_upto_region 16 with fail
          clear zA0 zA1 zA2 zA3 zA4 zA5 yQ0 yQ1 yR0 yR1 fR0 fR1 rowR stA hgR
          have rowR := rowR2
          clear rowR2
          generalize (A.setCell ⟨R, 0, none⟩ (.pointer (some ⟨hb2, 0, none⟩))).setCell ⟨R, 1, none⟩ (.pointer (some ⟨rb2, 0, none⟩)) = B at *
          have hD : Below B.heap.size B B.drew := (Below.refl _ _).drew
          have stD := stB.later hD
          have hSD : B.drew.cell? ⟨R, 0, none⟩ = some (.pointer (some ⟨hb2, 0, none⟩)) ∧ B.drew.cell? ⟨R, 1, none⟩ = some (.pointer (some ⟨rb2, 0, none⟩)) ∧ B.drew.cell? ⟨g, off + i * 6, none⟩ = some (.int .i64 kd) ∧ B.drew.cell? ⟨g, off + i * 6 + 1, none⟩ = some (.int .i64 oa) ∧ B.drew.cell? ⟨g, off + i * 6 + 2, none⟩ = some (.int .i64 ob) ∧ B.drew.cell? ⟨g, off + i * 6 + 3, none⟩ = some (.bool true) ∧ B.drew.cell? ⟨g, off + i * 6 + 4, none⟩ = some (.bool nil) ∧ B.drew.cell? ⟨g, off + i * 6 + 5, none⟩ = some lv := ⟨cell_of_row _ _ 0 _ _ _ rowR, cell_of_row _ _ 1 _ _ _ rowR, hop.out _ stD.bel⟩
          have hEp : ∀ Y, GrS (PS hb2 rb2) B.drew Y → EntA Y lv oL := fun Y hY => hEn.out _ (grs_below stD.bel stD.bel.size hY (fun k e => by rcases e with e | e <;> subst e; exact stD.lo.2.2.1; exact stD.lo.2.2.2))
          have hpl := plays_all hb2 rb2 _ _ kd oa ob true nil lv _ stD.h2 stD.r2 oL hEp
          have hRl : R < B.drew.heap.size := (Array.getElem?_eq_some_iff.1 rowR).1
          have hRo : Hid (R ≠ hb2 ∧ R ≠ rb2) := ⟨pair_off rowR stB.h2.hd, pair_off rowR stB.r2.hd⟩
          clear hEp
          go_wp2_with fail
          go_region_held3 (fun X => X.cell? ⟨R, 0, none⟩ = some (.pointer (some ⟨hb2, 0, none⟩)) ∧ X.cell? ⟨R, 1, none⟩ = some (.pointer (some ⟨rb2, 0, none⟩)) ∧ X.cell? ⟨g, off + i * 6, none⟩ = some (.int .i64 kd) ∧ X.cell? ⟨g, off + i * 6 + 1, none⟩ = some (.int .i64 oa) ∧ X.cell? ⟨g, off + i * 6 + 2, none⟩ = some (.int .i64 ob) ∧ X.cell? ⟨g, off + i * 6 + 3, none⟩ = some (.bool true) ∧ X.cell? ⟨g, off + i * 6 + 4, none⟩ = some (.bool nil) ∧ X.cell? ⟨g, off + i * 6 + 5, none⟩ = some lv) (with_reducible assumption)
            (first | (go_at_call 9; refine hpl.mono ?_; rintro e w9 ⟨Ls9, p9, rfl, h9, r9, hG9⟩; have st9 := stD.play2 h9 r9 hG9; have hS9 : w9.cell? ⟨R, 0, none⟩ = some (.pointer (some ⟨hb2, 0, none⟩)) ∧ w9.cell? ⟨R, 1, none⟩ = some (.pointer (some ⟨rb2, 0, none⟩)) ∧ w9.cell? ⟨g, off + i * 6, none⟩ = some (.int .i64 kd) ∧ w9.cell? ⟨g, off + i * 6 + 1, none⟩ = some (.int .i64 oa) ∧ w9.cell? ⟨g, off + i * 6 + 2, none⟩ = some (.int .i64 ob) ∧ w9.cell? ⟨g, off + i * 6 + 3, none⟩ = some (.bool true) ∧ w9.cell? ⟨g, off + i * 6 + 4, none⟩ = some (.bool nil) ∧ w9.cell? ⟨g, off + i * 6 + 5, none⟩ = some lv := ⟨(hG9.cell hRl (fun e => by rcases e with e | e; exact hRo.out.1 e; exact hRo.out.2 e)).trans hSD.1, (hG9.cell hRl (fun e => by rcases e with e | e; exact hRo.out.1 e; exact hRo.out.2 e)).trans hSD.2.1, hop.out _ st9.bel⟩))
          clear hpl hSD hS9 hop hEn
          obtain ⟨hn5, hn4⟩ := hms.out
          go_wp2
          exact ⟨⟨i + 1, _, _, _, _, _, _, hn5, by go_num, st9⟩, by simp [intOf]; omega⟩
    · have hlt' : ¬ (i : Int) < (S.length : Int) := fun h => hlt (Int.ofNat_lt.1 h)
      clear hi hlt q3
      have xP0 : wr.cell? ⟨P, 0, none⟩ = some (.pointer (some ⟨hb, 0, none⟩)) := cell_of_row _ _ 0 _ _ _ st.rowP
      have xP1 : wr.cell? ⟨P, 1, none⟩ = some (.pointer (some ⟨rb, 0, none⟩)) := cell_of_row _ _ 1 _ _ _ st.rowP
      have hu1 := psteps_any hb rb Ls p 0 _ st.h1 st.r1
      go_wp2_with (go_at_call 10; fail)
      refine hu1.mono ?_
      rintro e w3 ⟨rfl, hb3⟩
      clear hu1 xP0 xP1
      have st3 := st.later hb3
      have yQ0 : w3.cell? ⟨Q, 0, none⟩ = some (.pointer (some ⟨hb2, 0, none⟩)) := cell_of_row _ _ 0 _ _ _ st3.rowQ
      have yQ1 : w3.cell? ⟨Q, 1, none⟩ = some (.pointer (some ⟨rb2, 0, none⟩)) := cell_of_row _ _ 1 _ _ _ st3.rowQ
      have hu2 := psteps_any hb2 rb2 Ls2 p2 0 _ st3.h2 st3.r2
      clear st hb3
      go_wp2_with (go_at_call 10; fail)
      refine hu2.mono ?_
      rintro e w4 ⟨rfl, hb4⟩
      clear hu2 yQ0 yQ1
      have st4 := st3.later hb4
      have xP0 : w4.cell? ⟨P, 0, none⟩ = some (.pointer (some ⟨hb, 0, none⟩)) := cell_of_row _ _ 0 _ _ _ st4.rowP
      have xP1 : w4.cell? ⟨P, 1, none⟩ = some (.pointer (some ⟨rb, 0, none⟩)) := cell_of_row _ _ 1 _ _ _ st4.rowP
      have hu3 := pthrough_any hb rb Ls p 0 _ st4.h1 st4.r1
      clear st3 hb4
      go_wp2_with (go_at_call 11; fail)
      refine hu3.mono ?_
      rintro e w5 ⟨rfl, hb5⟩
      clear hu3 xP0 xP1
      have st5 := st4.later hb5
      have xP0 : w5.cell? ⟨P, 0, none⟩ = some (.pointer (some ⟨hb, 0, none⟩)) := cell_of_row _ _ 0 _ _ _ st5.rowP
      have xP1 : w5.cell? ⟨P, 1, none⟩ = some (.pointer (some ⟨rb, 0, none⟩)) := cell_of_row _ _ 1 _ _ _ st5.rowP
      obtain ⟨ks, hks, hK⟩ := touK_any Ls p (-1) 0 (hist_bd st5.h1).1 (hist_bd st5.h1).2
      have hu4 := pkeys_of hb rb n Ls p (-1) 0 ks hks hK _ st5.h1 st5.r1 st5.tou
      rw [htv.out] at hu4
      clear st4 hb5 hK hks
      go_wp2_with (go_at_call 12; fail)
      refine hu4.mono ?_
      rintro e w6 ⟨rfl, hb6⟩
      clear hu4 xP0 xP1
      have hbf := below_step st5.bel hb6
      go_wp2
      go_ret
      exact ⟨rfl, hbf⟩

end Go.Proofs.Ytkojgbfocdefnaa
