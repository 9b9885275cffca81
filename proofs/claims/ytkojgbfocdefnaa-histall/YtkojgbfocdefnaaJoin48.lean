import Derived.Test.YtkojgbfocdefnaaJoin47
namespace Go.Proofs.Ytkojgbfocdefnaa
open Go.RowKit Go.Shelf

def RisesK (ks : List Nat) : Prop := ∀ i (h : i + 1 < ks.length), ks[i]'(by omega) < ks[i + 1]

set_option maxRecDepth 4000 in
set_option maxHeartbeats 2000000 in
theorem touched1_none (W0 : World) (hb : Nat) (Ls : List Es) (p : Nat) (c1 c2 c3 : Nat) (a b : Int) (hX : HistAt W0 hb Ls p) (hab : (a < -(p : Int) ∨ (Ls.length : Int) - 1 - p < a) ∨ ((∃ i : Nat, i < Ls.length ∧ a = (i : Int) - p) ∧ (b < -(p : Int) ∨ (Ls.length : Int) - 1 - p < b))) (hbb : (b < -(p : Int) ∨ (Ls.length : Int) - 1 - p < b) ∨ (∃ i : Nat, i < Ls.length ∧ b = (i : Int) - p))
    (hc1 : W0.cell? ⟨c1, 0, none⟩ = some (.pointer (some ⟨hb, 0, none⟩))) (hc2 : W0.cell? ⟨c2, 0, none⟩ = some (.int .i64 a)) (hc3 : W0.cell? ⟨c3, 0, none⟩ = some (.int .i64 b)) (hcl : c1 < W0.heap.size ∧ c2 < W0.heap.size ∧ c3 < W0.heap.size) (w : World) (hB : Below W0.heap.size W0 w) (hK : KAt w W0.heap.size []) :
    Calls Try.prog 19 #[klV W0.heap.size, .pointer (some ⟨c1, 0, none⟩), .pointer (some ⟨c2, 0, none⟩), .pointer (some ⟨c3, 0, none⟩)] w (tuP W0 []) := by
  have ha1 := (Below.refl w.heap.size w).alloc (Nat.le_refl _) (.cells #[klV W0.heap.size] 51)
  have hKa := hK.later ha1
  have hBa := below_step hB ha1
  have hv : ∀ m : Int, ((m < -(p : Int) ∨ (Ls.length : Int) - 1 - p < m) ∨ (∃ i : Nat, i < Ls.length ∧ m = (i : Int) - p)) → ∃ v : Option Addr, ((m < -(p : Int) ∨ (Ls.length : Int) - 1 - p < m) → v = none) ∧ (¬ (m < -(p : Int) ∨ (Ls.length : Int) - 1 - p < m) → v ≠ none) ∧ ∀ X, Below W0.heap.size W0 X → Calls Try.prog 20 #[.pointer (some ⟨hb, 0, none⟩), .int .i64 m] X fun e w' => e = .returned (.pointer v) ∧ Below X.heap.size X w' := by
    intro m hm
    by_cases h : m < -(p : Int) ∨ (Ls.length : Int) - 1 - p < m
    · exact ⟨none, fun _ => rfl, fun h' => absurd h h', fun X hBX => version_none hb Ls p m h X (hX.later hBX)⟩
    · obtain ⟨i, hi, rfl⟩ := hm.resolve_left h
      obtain ⟨g, cap, vs, hx⟩ := hX.x
      exact ⟨some ⟨vs i, 0, none⟩, fun h' => absurd h' h, fun _ => by simp, fun X hBX => version_at hb g cap vs Ls p i hi X (hx.later hBX)⟩
  obtain ⟨va, hva, -, hVa⟩ := hv a (by rcases hab with h | h; exact .inl h; exact .inr h.1)
  obtain ⟨vb, hvb, -, hVb⟩ := hv b hbb
  have hnn : va = none ∨ vb = none := by
    rcases hab with h | h
    · exact .inl (hva h)
    · exact .inr (hvb h.2)
  clear hv hva hvb hab hbb
  have hS : ∀ X, Below W0.heap.size W0 X → X.cell? ⟨c1, 0, none⟩ = some (.pointer (some ⟨hb, 0, none⟩)) ∧ X.cell? ⟨c2, 0, none⟩ = some (.int .i64 a) ∧ X.cell? ⟨c3, 0, none⟩ = some (.int .i64 b) := fun X hX' => ⟨(hX'.cell (p := ⟨c1, 0, none⟩) hcl.1).trans hc1, (hX'.cell (p := ⟨c2, 0, none⟩) hcl.2.1).trans hc2, (hX'.cell (p := ⟨c3, 0, none⟩) hcl.2.2).trans hc3⟩
  unfold klV at ha1 hKa hBa ⊢
  generalize hbs : (#[.pointer (some ⟨W0.heap.size + 2, 0, none⟩), .pointer (some ⟨W0.heap.size + 3, 0, none⟩), .pointer (some ⟨W0.heap.size + 1, 0, none⟩), .pointer (some ⟨W0.heap.size, 0, none⟩)] : Array Value) = bs at *
  go_enter Try.func19, Try.ntmps19
  go_upto_region 1 with fail
  generalize hwa : w.alloc (.cells #[.func (.func 54) #[] bs] 51) = wa at *
  have hBD := hBa.drew
  have hsD := hS _ hBD
  clear hX hc1 hc2 hc3
  have tok : True := trivial
  go_region_held3 (fun X => X.cell? ⟨c1, 0, none⟩ = some (.pointer (some ⟨hb, 0, none⟩)) ∧ X.cell? ⟨c2, 0, none⟩ = some (.int .i64 a) ∧ X.cell? ⟨c3, 0, none⟩ = some (.int .i64 b)) (with_reducible assumption)
    (first | (go_at_call 20; have _t := tok; refine (hVa _ hBD).mono ?_; rintro e wv ⟨rfl, hbv⟩; have hB3 := below_step hBD hbv; have s3 := hS _ hB3; have hbD3 := hbv; clear tok hbv) | (go_at_call 20; refine (hVb _ hB3).mono ?_; rintro e wv ⟨rfl, hbv⟩; have hB4 := below_step hB3 hbv; have s4 := hS _ hB4; have hb34 := hbv; clear hbv))
  have hba5 := below_step (below_step (Below.refl wa.heap.size wa).drew hbD3) hb34
  have hfin : tuP W0 [] (.returned (.tuple #[])) wv := ⟨rfl, hKa.later hba5, hB4⟩
  rcases hnn with h | h
  · subst h
    go_wp2
    go_end0
    exact hfin
  · subst h
    cases va with
    | none =>
      go_wp2
      go_end0
      exact hfin
    | some va =>
      go_wp2
      go_end0
      exact hfin

end Go.Proofs.Ytkojgbfocdefnaa


namespace Go.Proofs.Ytkojgbfocdefnaa
open Go.RowKit Go.Shelf

def K1At (X : World) (n : Nat) (done : List Nat) : Prop := X.heap[n]? = some (.cells #[.int .i64 1] 3 (0, 0)) ∧ (∃ uv, X.heap[n + 1]? = some (.cells #[uv] 90 (0, 0)) ∧ X.ownsRow (n + 4) 56 1 uv done.length (keysV done)) ∧ X.heap[n + 2]? = some (.cells #[.bool false] 4 (0, 0)) ∧ X.heap[n + 3]? = some (.cells #[.bool true] 4 (0, 0))
def K1F (X : World) (n : Nat) (done : List Nat) : Prop := X.heap[n]? = some (.cells #[.int .i64 1] 3 (0, 0)) ∧ (∃ uv, X.heap[n + 1]? = some (.cells #[uv] 90 (0, 0)) ∧ X.ownsRow (n + 4) 56 1 uv done.length (keysV done)) ∧ X.heap[n + 2]? = some (.cells #[.bool true] 4 (0, 0)) ∧ X.heap[n + 3]? = some (.cells #[.bool true] 4 (0, 0))
set_option maxRecDepth 4000 in
set_option maxHeartbeats 2000000 in
theorem keyList1_one (n : Nat) (done : List Nat) (hd : done.length = 0) (k : Nat) (w : World) (h : K1At w n done) :
    Calls Try.prog 54 #[.int .u32 (k : Int), .pointer (some ⟨n + 2, 0, none⟩), .pointer (some ⟨n + 3, 0, none⟩), .pointer (some ⟨n + 1, 0, none⟩), .pointer (some ⟨n, 0, none⟩)] w fun e w' => e = .returned (.bool false) ∧ K1F w' n (done ++ [k]) ∧ Below n w w' ∧ KeepsOthers w w' ∧ (∀ j, offK n j w → j < w.heap.size → w'.heap[j]? = w.heap[j]? ∧ offK n j w') := by
  obtain ⟨h0, ⟨uv, h1, hown⟩, h2, h3⟩ := h
  obtain ⟨ea, el, ec, rfl⟩ := own_slice hown
  have l3 : n + 3 < w.heap.size := (Array.getElem?_eq_some_iff.1 h3).1
  have hb1 := (Below.refl w.heap.size w).alloc (Nat.le_refl _) (.cells #[.int .u32 (k : Int)] 56)
  have c00 : w.cell? ⟨n + 1, 0, none⟩ = some (.slice ea el ec) := cell_of_row _ _ 0 _ _ _ h1
  have c2 : w.cell? ⟨n + 2, 0, none⟩ = some (.bool false) := cell_of_row _ _ 0 _ _ _ h2
  have hownA := own_laterB hown hb1
  have r0 := (hb1.block n (by omega)).trans h0
  have r1 := (hb1.block (n + 1) (by omega)).trans h1
  have r2 := (hb1.block (n + 2) (by omega)).trans h2
  have r3 := (hb1.block (n + 3) (by omega)).trans h3
  have hlo : ∀ j, (Value.slice ea el ec).ownBlock = some j → n + 4 ≤ j := fun j e => (hown.lt j e).1
  obtain ⟨i0, hi, hz0, hz1, hz2⟩ := info_parts infoU
  have hnm : ((done.length : Int) + 1 == 1) = true := by rw [beq_iff_eq]; omega
  have hd2 : done.length < 4000 := by omega
  clear hd
  have tok1 : True := trivial
  go_enter Try.func54, Try.ntmps54
  go_wp2_with (at_builtin; have _u := tok1; clear tok1; refine wpList_append_own_at (P := Try.prog) _ rfl _ _ 90 rfl (n + 4) 56 i0 _ 1 4 Try.underlying90 hi hz0 hz1 hz2 rfl (by decide) _ done.length (keysV done) rfl hownA ⟨w.heap.size, 0, none⟩ 1 1 [.int .u32 (k : Int)] rfl rfl (cell_one_new _ _ _) (fun u hu => by rw [List.mem_singleton.1 hu]; rfl) (by unfold maxLen; omega) (by omega) (by have := hb1.size; omega) ?_; intro v2 w2 hown2 hgrow2 _hnil hloc; obtain ⟨g2, cap2, rfl⟩ := own_some hown2 (by omega); have b0 := (hgrow2.block n (by have := hb1.size; omega) (fun e => by have := hlo _ e.symm; omega)).trans r0; have b1 := (hgrow2.block (n + 1) (by have := hb1.size; omega) (fun e => by have := hlo _ e.symm; omega)).trans r1; have b2 := (hgrow2.block (n + 2) (by have := hb1.size; omega) (fun e => by have := hlo _ e.symm; omega)).trans r2; have b3 := (hgrow2.block (n + 3) (by have := hb1.size; omega) (fun e => by have := hlo _ e.symm; omega)).trans r3; have f1 := frozen_of_row b1 0; have d1 : w2.cell? ⟨n + 1, 0, none⟩ = some (.slice ea el ec) := cell_of_row _ _ 0 _ _ _ b1; have e1 := heap_setCell_same w2 (n + 1) 0 _ _ (.slice (some ⟨g2, 0, none⟩) (done.length + 1) cap2) b1; have q1 := grown_set w2 (n + 1) 0 (.slice (some ⟨g2, 0, none⟩) (done.length + 1) cap2); obtain ⟨Y1, E1⟩ : ∃ Z, w2.setCell ⟨n + 1, 0, none⟩ (.slice (some ⟨g2, 0, none⟩) (done.length + 1) cap2) = Z := ⟨_, rfl⟩; rw [E1] at e1 q1; have s0 := (q1.block n (Array.getElem?_eq_some_iff.1 b0).1 (by simp)).trans b0; have s2 := (q1.block (n + 2) (Array.getElem?_eq_some_iff.1 b2).1 (by simp)).trans b2; have s3 := (q1.block (n + 3) (Array.getElem?_eq_some_iff.1 b3).1 (by simp)).trans b3; have y0 : Y1.cell? ⟨n, 0, none⟩ = some (.int .i64 1) := cell_of_row _ _ 0 _ _ _ s0; have y1 : Y1.cell? ⟨n + 1, 0, none⟩ = some (.slice (some ⟨g2, 0, none⟩) (done.length + 1) cap2) := cell_of_row _ _ 0 _ _ _ e1; have y2 : Y1.cell? ⟨n + 2, 0, none⟩ = some (.bool false) := cell_of_row _ _ 0 _ _ _ s2; have y2f := frozen_of_row s2 0; have e2 := heap_setCell_same Y1 (n + 2) 0 _ _ (.bool true) s2; have q2 := grown_set Y1 (n + 2) 0 (.bool true); obtain ⟨Y2, E2⟩ : ∃ Z, Y1.setCell ⟨n + 2, 0, none⟩ (.bool true) = Z := ⟨_, rfl⟩; rw [E2] at e2 q2; have x2 : Y2.cell? ⟨n + 2, 0, none⟩ = some (.bool true) := cell_of_row _ _ 0 _ _ _ e2)
  go_ret
  have hg2l := (hown2.lt g2 rfl).1
  have t0 := (q2.block n (Array.getElem?_eq_some_iff.1 s0).1 (by simp)).trans s0
  have t1 := (q2.block (n + 1) (Array.getElem?_eq_some_iff.1 e1).1 (by simp)).trans e1
  have t3 := (q2.block (n + 3) (Array.getElem?_eq_some_iff.1 s3).1 (by simp)).trans s3
  have hownY := (hown2.kept q1 (.inr (fun e => by have := Option.some.inj e; simp at this; omega))).kept q2 (.inr (fun e => by have := Option.some.inj e; simp at this; omega))
  have hB2 : Below n w w2 := (hb1.mono (show n ≤ w.heap.size by omega)).grown hgrow2 (by have := hb1.size; omega) (fun k hk => by have := hlo k hk; omega)
  have hB3 := hB2.grown q1 (Nat.le_trans (show n ≤ w.heap.size by omega) hB2.size) (fun k hk => by cases hk; omega)
  have hB4 := hB3.grown q2 (Nat.le_trans (show n ≤ w.heap.size by omega) hB3.size) (fun k hk => by cases hk; omega)
  have hK := (((KeepsOthers.alloc w (.cells #[.int .u32 (k : Int)] 56)).trans (KeepsOthers.of_grownBy hgrow2 (fun j o hj ho => own_cells hownA j o hj ho))).trans (KeepsOthers.of_grownBy q1 (fun j o hj ho => by cases hj; rw [b1] at ho; cases ho; rfl))).trans (KeepsOthers.of_grownBy q2 (fun j o hj ho => by cases hj; rw [s2] at ho; cases ho; rfl))
  refine ⟨rfl, ⟨t0, ⟨_, t1, by rw [List.length_append, keysV_snoc]; exact hownY⟩, e2, t3⟩, hB4, hK, ?_⟩
  rintro j ⟨j0, j1, j2, j3, j4⟩ hj
  have j5 := j4 _ c00
  have z1 := hb1.size
  have z2 := hgrow2.size
  have z3 := q1.size
  refine ⟨(q2.block j (by omega) (fun e => j2 (Option.some.inj e))).trans ((q1.block j (by omega) (fun e => j1 (Option.some.inj e))).trans ((hgrow2.block j (by omega) (fun e => j5 e.symm)).trans (hb1.block j hj))), j0, j1, j2, j3, fun uv huv => ?_⟩
  have hu2 : Y2.cell? ⟨n + 1, 0, none⟩ = some (.slice (some ⟨g2, 0, none⟩) (done.length + 1) cap2) := cell_of_row _ _ 0 _ _ _ t1
  rw [hu2] at huv
  rw [← Option.some.inj huv]
  intro e
  rcases hloc with hl | hl
  · exact j5 (hl ▸ e)
  · rw [hl] at e
    have := Option.some.inj e
    omega

theorem K1At.step {B n : Nat} {X Y : World} {done : List Nat} (h : K1At X n done) (hs : StepB B X Y) : K1At Y n done := by
  obtain ⟨h0, ⟨uv, h1, h4⟩, h2, h3⟩ := h
  exact ⟨block_stepB h0 hs, ⟨uv, block_stepB h1 hs, own_step h4 hs⟩, block_stepB h2 hs, block_stepB h3 hs⟩
theorem K1At.set {n : Nat} {X : World} {done : List Nat} (h : K1At X n done) {k : Nat} (hk : offK n k X) (o : Nat) (v : Value) : K1At (X.setCell ⟨k, o, none⟩ v) n done := by
  obtain ⟨h0, ⟨uv, h1, h4⟩, h2, h3⟩ := h
  obtain ⟨k0, k1, k2, k3, k4⟩ := hk
  have hc : X.cell? ⟨n + 1, 0, none⟩ = some uv := cell_of_row _ _ 0 _ _ _ h1
  exact ⟨(Below.heap_setCell _ _ _ n (Ne.symm k0)).trans h0, ⟨uv, (Below.heap_setCell _ _ _ (n + 1) (Ne.symm k1)).trans h1, h4.kept (grown_set X k o v) (.inr (k4 uv hc))⟩, (Below.heap_setCell _ _ _ (n + 2) (Ne.symm k2)).trans h2, (Below.heap_setCell _ _ _ (n + 3) (Ne.symm k3)).trans h3⟩
theorem K1At.new {n : Nat} {X : World} {done : List Nat} (h : K1At X n done) {k : Nat} (hk : X.heap.size ≤ k) : offK n k X := by
  obtain ⟨h0, ⟨uv, h1, h4⟩, h2, h3⟩ := h
  have l3 := (Array.getElem?_eq_some_iff.1 h3).1
  have hc : X.cell? ⟨n + 1, 0, none⟩ = some uv := cell_of_row _ _ 0 _ _ _ h1
  refine ⟨by omega, by omega, by omega, by omega, fun v hv e => ?_⟩
  rw [hc] at hv
  obtain rfl := Option.some.inj hv
  have := (h4.lt k e).2
  omega
theorem K1At.offStep {B n : Nat} {X Y : World} {done : List Nat} (h : K1At X n done) {k : Nat} (hk : offK n k X) (hs : StepB B X Y) : offK n k Y := by
  obtain ⟨h0, ⟨uv, h1, h4⟩, h2, h3⟩ := h
  obtain ⟨k0, k1, k2, k3, k4⟩ := hk
  have hc : X.cell? ⟨n + 1, 0, none⟩ = some uv := cell_of_row _ _ 0 _ _ _ h1
  have hc2 : Y.cell? ⟨n + 1, 0, none⟩ = some uv := cell_of_row _ _ 0 _ _ _ (block_stepB h1 hs)
  refine ⟨k0, k1, k2, k3, fun v hv => ?_⟩
  rw [hc2] at hv
  obtain rfl := Option.some.inj hv
  exact k4 _ hc
theorem K1At.later {n : Nat} {X Y : World} {done : List Nat} (h : K1At X n done) (hb : Below X.heap.size X Y) : K1At Y n done := h.step (stepB_below 0 hb)

theorem K1F.step {B n : Nat} {X Y : World} {done : List Nat} (h : K1F X n done) (hs : StepB B X Y) : K1F Y n done := by
  obtain ⟨h0, ⟨uv, h1, h4⟩, h2, h3⟩ := h
  exact ⟨block_stepB h0 hs, ⟨uv, block_stepB h1 hs, own_step h4 hs⟩, block_stepB h2 hs, block_stepB h3 hs⟩
theorem K1F.set {n : Nat} {X : World} {done : List Nat} (h : K1F X n done) {k : Nat} (hk : offK n k X) (o : Nat) (v : Value) : K1F (X.setCell ⟨k, o, none⟩ v) n done := by
  obtain ⟨h0, ⟨uv, h1, h4⟩, h2, h3⟩ := h
  obtain ⟨k0, k1, k2, k3, k4⟩ := hk
  have hc : X.cell? ⟨n + 1, 0, none⟩ = some uv := cell_of_row _ _ 0 _ _ _ h1
  exact ⟨(Below.heap_setCell _ _ _ n (Ne.symm k0)).trans h0, ⟨uv, (Below.heap_setCell _ _ _ (n + 1) (Ne.symm k1)).trans h1, h4.kept (grown_set X k o v) (.inr (k4 uv hc))⟩, (Below.heap_setCell _ _ _ (n + 2) (Ne.symm k2)).trans h2, (Below.heap_setCell _ _ _ (n + 3) (Ne.symm k3)).trans h3⟩
theorem K1F.new {n : Nat} {X : World} {done : List Nat} (h : K1F X n done) {k : Nat} (hk : X.heap.size ≤ k) : offK n k X := by
  obtain ⟨h0, ⟨uv, h1, h4⟩, h2, h3⟩ := h
  have l3 := (Array.getElem?_eq_some_iff.1 h3).1
  have hc : X.cell? ⟨n + 1, 0, none⟩ = some uv := cell_of_row _ _ 0 _ _ _ h1
  refine ⟨by omega, by omega, by omega, by omega, fun v hv e => ?_⟩
  rw [hc] at hv
  obtain rfl := Option.some.inj hv
  have := (h4.lt k e).2
  omega
theorem K1F.offStep {B n : Nat} {X Y : World} {done : List Nat} (h : K1F X n done) {k : Nat} (hk : offK n k X) (hs : StepB B X Y) : offK n k Y := by
  obtain ⟨h0, ⟨uv, h1, h4⟩, h2, h3⟩ := h
  obtain ⟨k0, k1, k2, k3, k4⟩ := hk
  have hc : X.cell? ⟨n + 1, 0, none⟩ = some uv := cell_of_row _ _ 0 _ _ _ h1
  have hc2 : Y.cell? ⟨n + 1, 0, none⟩ = some uv := cell_of_row _ _ 0 _ _ _ (block_stepB h1 hs)
  refine ⟨k0, k1, k2, k3, fun v hv => ?_⟩
  rw [hc2] at hv
  obtain rfl := Option.some.inj hv
  exact k4 _ hc
theorem K1F.later {n : Nat} {X Y : World} {done : List Nat} (h : K1F X n done) (hb : Below X.heap.size X Y) : K1F Y n done := h.step (stepB_below 0 hb)

/-- What a keyList of one key has got. -/
def K1R (W : World) (n : Nat) (ks : List Nat) : Prop := (∃ uv, W.heap[n + 1]? = some (.cells #[uv] 90 (0, 0)) ∧ W.ownsRow (n + 4) 56 1 uv (ks.take 1).length (keysV (ks.take 1))) ∧ W.heap[n + 3]? = some (.cells #[.bool true] 4 (0, 0))
def tuZ (W0 : World) (ks : List Nat) (e : Ending) (w' : World) : Prop := e = .returned (.tuple #[]) ∧ K1R w' W0.heap.size ks ∧ Below W0.heap.size W0 w'
def tIZ (W0 : World) (YB : Nat) (pre : List Ch) (X : World) : Prop := (K1At X W0.heap.size (pre.map (·.1)) ∧ pre.length = 0) ∧ Below W0.heap.size W0 X ∧ X.heap[YB]? = some (.cells #[klV W0.heap.size] 51 (0, 0)) ∧ offK W0.heap.size YB X
def tFZ (W0 : World) (pre : List Ch) (X : World) : Prop := (K1F X W0.heap.size (pre.map (·.1)) ∧ pre.length = 1) ∧ Below W0.heap.size W0 X
theorem tIZ_step {W0 : World} {B YB : Nat} (hB : W0.heap.size ≤ B) {pre : List Ch} {X Y : World} (h : tIZ W0 YB pre X) (hs : StepB B X Y) : tIZ W0 YB pre Y :=
  ⟨⟨h.1.1.step hs, h.1.2⟩, (hs.mono hB).below h.2.1 h.2.1.size, block_stepB h.2.2.1 hs, h.1.1.offStep h.2.2.2 hs⟩
theorem tIZ_set {W0 : World} {B YB : Nat} (hB : W0.heap.size ≤ B) (hY : YB < B) {pre : List Ch} {X : World} {k o : Nat} {v : Value} (h : tIZ W0 YB pre X) (hk : offK W0.heap.size k X) (hl : B ≤ k) : tIZ W0 YB pre (X.setCell ⟨k, o, none⟩ v) :=
  ⟨⟨h.1.1.set hk o v, h.1.2⟩, h.2.1.setCell (p := ⟨k, o, none⟩) (Nat.le_trans hB hl) v, (Below.heap_setCell _ _ _ YB (by simp; omega)).trans h.2.2.1, offK_set h.2.2.2 hk⟩
theorem tFZ_step {W0 : World} {B : Nat} (hB : W0.heap.size ≤ B) {pre : List Ch} {X Y : World} (h : tFZ W0 pre X) (hs : StepB B X Y) : tFZ W0 pre Y :=
  ⟨⟨h.1.1.step hs, h.1.2⟩, (hs.mono hB).below h.2 h.2.size⟩
theorem tFZ_set {W0 : World} {B : Nat} (hB : W0.heap.size ≤ B) {pre : List Ch} {X : World} {k o : Nat} {v : Value} (h : tFZ W0 pre X) (hk : offK W0.heap.size k X) (hl : B ≤ k) : tFZ W0 pre (X.setCell ⟨k, o, none⟩ v) :=
  ⟨⟨h.1.1.set hk o v, h.1.2⟩, h.2.setCell (p := ⟨k, o, none⟩) (Nat.le_trans hB hl) v⟩
theorem tFZ_off {W0 : World} {B : Nat} {pre : List Ch} {X Y : World} {k : Nat} (h : tFZ W0 pre X) (hk : offK W0.heap.size k X) (hs : StepB B X Y) : offK W0.heap.size k Y := h.1.1.offStep hk hs

end Go.Proofs.Ytkojgbfocdefnaa


namespace Go.Proofs.Ytkojgbfocdefnaa
open Go.RowKit Go.Shelf

set_option maxRecDepth 4000 in
set_option maxHeartbeats 2000000 in
theorem keyList_one (c1 c2 c3 : Nat) (ks : List Nat) (w : World) (hcall : ∀ w1, Below w.heap.size w w1 → K1At w1 w.heap.size [] → Calls Try.prog 19 #[klV w.heap.size, .pointer (some ⟨c1, 0, none⟩), .pointer (some ⟨c2, 0, none⟩), .pointer (some ⟨c3, 0, none⟩)] w1 (tuZ w ks)) :
    Calls Try.prog 40 #[touV c1 c2 c3, .int .i64 1] w (ksP w (ks.take 1)) := by
  unfold touV
  unfold klV at hcall
  have hnil : ∀ W : World, (binOp BinOp.eql 33 (.func (.func 19) #[] #[.pointer (some ⟨c1, 0, none⟩), .pointer (some ⟨c2, 0, none⟩), .pointer (some ⟨c3, 0, none⟩)]) .nilFunc).run Try.prog W = .ok (.bool false) W := fun _ => rfl
  go_enter Try.func40, Try.ntmps40
  go_wp2_with (go_at_call 19; fail)
  have r0 := heap_alloc_last w (.cells #[.int .i64 1] 3)
  have r1 := heap_alloc_last (w.alloc (.cells #[.int .i64 1] 3)) (.cells #[.slice none 0 0] 90)
  have r2 := heap_alloc_last ((w.alloc (.cells #[.int .i64 1] 3)).alloc (.cells #[.slice none 0 0] 90)) (.cells #[.bool false] 4)
  have r3 := heap_alloc_last (((w.alloc (.cells #[.int .i64 1] 3)).alloc (.cells #[.slice none 0 0] 90)).alloc (.cells #[.bool false] 4)) (.cells #[.bool true] 4)
  simp only [World.size_alloc] at r1 r2 r3
  have hB4 : Below w.heap.size w ((((w.alloc (.cells #[.int .i64 1] 3)).alloc (.cells #[.slice none 0 0] 90)).alloc (.cells #[.bool false] 4)).alloc (.cells #[.bool true] 4)) := ((((Below.refl _ _).alloc (Nat.le_refl _) _).alloc (by simp) _).alloc (by simp; omega) _).alloc (by simp; omega) _
  have q0 := (Below.heap_alloc (((w.alloc (.cells #[.int .i64 1] 3)).alloc (.cells #[.slice none 0 0] 90)).alloc (.cells #[.bool false] 4)) (.cells #[.bool true] 4) w.heap.size (by simp; omega)).trans ((Below.heap_alloc _ _ _ (by simp; omega)).trans ((Below.heap_alloc _ _ _ (by simp)).trans r0))
  have q1 := (Below.heap_alloc (((w.alloc (.cells #[.int .i64 1] 3)).alloc (.cells #[.slice none 0 0] 90)).alloc (.cells #[.bool false] 4)) (.cells #[.bool true] 4) (w.heap.size + 1) (by simp)).trans ((Below.heap_alloc _ _ _ (by simp)).trans r1)
  have q2 := (Below.heap_alloc (((w.alloc (.cells #[.int .i64 1] 3)).alloc (.cells #[.slice none 0 0] 90)).alloc (.cells #[.bool false] 4)) (.cells #[.bool true] 4) (w.heap.size + 1 + 1) (by simp)).trans r2
  refine (hcall _ hB4 ⟨q0, ⟨_, q1, World.ownsRow_nil _ _ _ _⟩, q2, r3⟩).mono ?_
  clear hcall q0 q1 q2 r0 r1 r2 r3 hB4 hnil
  rintro e w1 ⟨rfl, ⟨⟨uv, h1, hown⟩, h3⟩, hb1⟩
  generalize ks.take 1 = ks at *
  obtain ⟨ea, ec, e1⟩ := own_lenH hown
  subst e1
  have c1 : w1.cell? ⟨w.heap.size + 1, 0, none⟩ = some (.slice ea ks.length ec) := cell_of_row _ _ 0 _ _ _ h1
  have c3 : w1.cell? ⟨w.heap.size + 1 + 1 + 1, 0, none⟩ = some (.bool true) := cell_of_row _ _ 0 _ _ _ h3
  have hks := ks_of_own hown
  clear h1 h3 hown
  go_wp2
  go_quiet (fail)
  go_wp2
  go_ret2
  have hbn := below_drewN (Below.refl w1.heap.size w1) nq
  exact ⟨_, _, rfl, hks.later hbn, below_step hb1 hbn⟩

set_option maxRecDepth 4000 in
set_option maxHeartbeats 2000000 in
theorem touched1_noneZ (W0 : World) (hb : Nat) (Ls : List Es) (p : Nat) (c1 c2 c3 : Nat) (a b : Int) (hX : HistAt W0 hb Ls p) (hab : (a < -(p : Int) ∨ (Ls.length : Int) - 1 - p < a) ∨ ((∃ i : Nat, i < Ls.length ∧ a = (i : Int) - p) ∧ (b < -(p : Int) ∨ (Ls.length : Int) - 1 - p < b))) (hbb : (b < -(p : Int) ∨ (Ls.length : Int) - 1 - p < b) ∨ (∃ i : Nat, i < Ls.length ∧ b = (i : Int) - p))
    (hc1 : W0.cell? ⟨c1, 0, none⟩ = some (.pointer (some ⟨hb, 0, none⟩))) (hc2 : W0.cell? ⟨c2, 0, none⟩ = some (.int .i64 a)) (hc3 : W0.cell? ⟨c3, 0, none⟩ = some (.int .i64 b)) (hcl : c1 < W0.heap.size ∧ c2 < W0.heap.size ∧ c3 < W0.heap.size) (w : World) (hB : Below W0.heap.size W0 w) (hK : K1At w W0.heap.size []) :
    Calls Try.prog 19 #[klV W0.heap.size, .pointer (some ⟨c1, 0, none⟩), .pointer (some ⟨c2, 0, none⟩), .pointer (some ⟨c3, 0, none⟩)] w (tuZ W0 []) := by
  have ha1 := (Below.refl w.heap.size w).alloc (Nat.le_refl _) (.cells #[klV W0.heap.size] 51)
  have hKa := hK.later ha1
  have hBa := below_step hB ha1
  have hv : ∀ m : Int, ((m < -(p : Int) ∨ (Ls.length : Int) - 1 - p < m) ∨ (∃ i : Nat, i < Ls.length ∧ m = (i : Int) - p)) → ∃ v : Option Addr, ((m < -(p : Int) ∨ (Ls.length : Int) - 1 - p < m) → v = none) ∧ (¬ (m < -(p : Int) ∨ (Ls.length : Int) - 1 - p < m) → v ≠ none) ∧ ∀ X, Below W0.heap.size W0 X → Calls Try.prog 20 #[.pointer (some ⟨hb, 0, none⟩), .int .i64 m] X fun e w' => e = .returned (.pointer v) ∧ Below X.heap.size X w' := by
    intro m hm
    by_cases h : m < -(p : Int) ∨ (Ls.length : Int) - 1 - p < m
    · exact ⟨none, fun _ => rfl, fun h' => absurd h h', fun X hBX => version_none hb Ls p m h X (hX.later hBX)⟩
    · obtain ⟨i, hi, rfl⟩ := hm.resolve_left h
      obtain ⟨g, cap, vs, hx⟩ := hX.x
      exact ⟨some ⟨vs i, 0, none⟩, fun h' => absurd h' h, fun _ => by simp, fun X hBX => version_at hb g cap vs Ls p i hi X (hx.later hBX)⟩
  obtain ⟨va, hva, -, hVa⟩ := hv a (by rcases hab with h | h; exact .inl h; exact .inr h.1)
  obtain ⟨vb, hvb, -, hVb⟩ := hv b hbb
  have hnn : va = none ∨ vb = none := by
    rcases hab with h | h
    · exact .inl (hva h)
    · exact .inr (hvb h.2)
  clear hv hva hvb hab hbb
  have hS : ∀ X, Below W0.heap.size W0 X → X.cell? ⟨c1, 0, none⟩ = some (.pointer (some ⟨hb, 0, none⟩)) ∧ X.cell? ⟨c2, 0, none⟩ = some (.int .i64 a) ∧ X.cell? ⟨c3, 0, none⟩ = some (.int .i64 b) := fun X hX' => ⟨(hX'.cell (p := ⟨c1, 0, none⟩) hcl.1).trans hc1, (hX'.cell (p := ⟨c2, 0, none⟩) hcl.2.1).trans hc2, (hX'.cell (p := ⟨c3, 0, none⟩) hcl.2.2).trans hc3⟩
  unfold klV at ha1 hKa hBa ⊢
  generalize hbs : (#[.pointer (some ⟨W0.heap.size + 2, 0, none⟩), .pointer (some ⟨W0.heap.size + 3, 0, none⟩), .pointer (some ⟨W0.heap.size + 1, 0, none⟩), .pointer (some ⟨W0.heap.size, 0, none⟩)] : Array Value) = bs at *
  go_enter Try.func19, Try.ntmps19
  go_upto_region 1 with fail
  generalize hwa : w.alloc (.cells #[.func (.func 54) #[] bs] 51) = wa at *
  have hBD := hBa.drew
  have hsD := hS _ hBD
  clear hX hc1 hc2 hc3
  have tok : True := trivial
  go_region_held3 (fun X => X.cell? ⟨c1, 0, none⟩ = some (.pointer (some ⟨hb, 0, none⟩)) ∧ X.cell? ⟨c2, 0, none⟩ = some (.int .i64 a) ∧ X.cell? ⟨c3, 0, none⟩ = some (.int .i64 b)) (with_reducible assumption)
    (first | (go_at_call 20; have _t := tok; refine (hVa _ hBD).mono ?_; rintro e wv ⟨rfl, hbv⟩; have hB3 := below_step hBD hbv; have s3 := hS _ hB3; have hbD3 := hbv; clear tok hbv) | (go_at_call 20; refine (hVb _ hB3).mono ?_; rintro e wv ⟨rfl, hbv⟩; have hB4 := below_step hB3 hbv; have s4 := hS _ hB4; have hb34 := hbv; clear hbv))
  have hba5 := below_step (below_step (Below.refl wa.heap.size wa).drew hbD3) hb34
  have hfin : tuZ W0 [] (.returned (.tuple #[])) wv := ⟨rfl, ⟨(hKa.later hba5).2.1, (hKa.later hba5).2.2.2⟩, hB4⟩
  rcases hnn with h | h
  · subst h
    go_wp2
    go_end0
    exact hfin
  · subst h
    cases va with
    | none =>
      go_wp2
      go_end0
      exact hfin
    | some va =>
      go_wp2
      go_end0
      exact hfin

end Go.Proofs.Ytkojgbfocdefnaa
