import Derived.Test.YtkojgbfocdefnaaJoin46
import Derived.Test.YtkojgbfocdefnaaHFn2
import Derived.Test.YtkojgbfocdefnaaHKnown
namespace Go.Proofs.Ytkojgbfocdefnaa
open Go.RowKit Go.Shelf

set_option maxRecDepth 4000 in
set_option maxHeartbeats 2000000 in
theorem keyList1_full (n : Nat) (done : List Nat) (hd : 3999 ≤ done.length) (hd2 : done.length < 4000) (k : Nat) (w : World) (h : KAt w n done) :
    Calls Try.prog 54 #[.int .u32 (k : Int), .pointer (some ⟨n + 2, 0, none⟩), .pointer (some ⟨n + 3, 0, none⟩), .pointer (some ⟨n + 1, 0, none⟩), .pointer (some ⟨n, 0, none⟩)] w fun e w' => e = .returned (.bool false) ∧ (∃ uv, w'.heap[n + 1]? = some (.cells #[uv] 90 (0, 0))) ∧ Below n w w' ∧ KeepsOthers w w' ∧ (∀ j, offK n j w → j < w.heap.size → w'.heap[j]? = w.heap[j]? ∧ offK n j w') := by
  obtain ⟨h0, ⟨uv, h1, hown⟩, h2, h3⟩ := h
  obtain ⟨ea, el, ec, rfl⟩ := own_slice hown
  have l3 : n + 3 < w.heap.size := (Array.getElem?_eq_some_iff.1 h3).1
  have hb1 := (Below.refl w.heap.size w).alloc (Nat.le_refl _) (.cells #[.int .u32 (k : Int)] 56)
  have c00 : w.cell? ⟨n + 1, 0, none⟩ = some (.slice ea el ec) := cell_of_row _ _ 0 _ _ _ h1
  have c2 : w.cell? ⟨n + 2, 0, none⟩ = some (.bool false) := cell_of_row _ _ 0 _ _ _ h2
  have hownA := own_laterB hown hb1
  have r0 := (hb1.block n (by omega)).trans h0
  have r1 := (hb1.block (n + 1) (by omega)).trans h1
  have r2 := (hb1.block (n + 2) (by omega)).trans h2
  have r3 := (hb1.block (n + 3) (by omega)).trans h3
  have hlo : ∀ j, (Value.slice ea el ec).ownBlock = some j → n + 4 ≤ j := fun j e => (hown.lt j e).1
  obtain ⟨i0, hi, hz0, hz1, hz2⟩ := info_parts infoU
  have hnm : ((done.length : Int) + 1 == 0) = false := by rw [beq_eq_false_iff_ne]; omega
  have hn4 : (4000 : Int) ≤ (done.length : Int) + 1 := by omega
  have tok1 : True := trivial
  go_enter Try.func54, Try.ntmps54
  go_wp2_with (at_builtin; have _u := tok1; clear tok1; refine wpList_append_own_at (P := Try.prog) _ rfl _ _ 90 rfl (n + 4) 56 i0 _ 1 4 Try.underlying90 hi hz0 hz1 hz2 rfl (by decide) _ done.length (keysV done) rfl hownA ⟨w.heap.size, 0, none⟩ 1 1 [.int .u32 (k : Int)] rfl rfl (cell_one_new _ _ _) (fun u hu => by rw [List.mem_singleton.1 hu]; rfl) (by unfold maxLen; omega) (by omega) (by have := hb1.size; omega) ?_; intro v2 w2 hown2 hgrow2 _hnil hloc; obtain ⟨g2, cap2, rfl⟩ := own_some hown2 (by omega); have b0 := (hgrow2.block n (by have := hb1.size; omega) (fun e => by have := hlo _ e.symm; omega)).trans r0; have b1 := (hgrow2.block (n + 1) (by have := hb1.size; omega) (fun e => by have := hlo _ e.symm; omega)).trans r1; have b2 := (hgrow2.block (n + 2) (by have := hb1.size; omega) (fun e => by have := hlo _ e.symm; omega)).trans r2; have b3 := (hgrow2.block (n + 3) (by have := hb1.size; omega) (fun e => by have := hlo _ e.symm; omega)).trans r3; have f1 := frozen_of_row b1 0; have d1 : w2.cell? ⟨n + 1, 0, none⟩ = some (.slice ea el ec) := cell_of_row _ _ 0 _ _ _ b1; have e1 := heap_setCell_same w2 (n + 1) 0 _ _ (.slice (some ⟨g2, 0, none⟩) (done.length + 1) cap2) b1; have q1 := grown_set w2 (n + 1) 0 (.slice (some ⟨g2, 0, none⟩) (done.length + 1) cap2); obtain ⟨Y1, E1⟩ : ∃ Z, w2.setCell ⟨n + 1, 0, none⟩ (.slice (some ⟨g2, 0, none⟩) (done.length + 1) cap2) = Z := ⟨_, rfl⟩; rw [E1] at e1 q1; have s0 := (q1.block n (Array.getElem?_eq_some_iff.1 b0).1 (by simp)).trans b0; have s2 := (q1.block (n + 2) (Array.getElem?_eq_some_iff.1 b2).1 (by simp)).trans b2; have s3 := (q1.block (n + 3) (Array.getElem?_eq_some_iff.1 b3).1 (by simp)).trans b3; have y0 : Y1.cell? ⟨n, 0, none⟩ = some (.int .i64 0) := cell_of_row _ _ 0 _ _ _ s0; have y1 : Y1.cell? ⟨n + 1, 0, none⟩ = some (.slice (some ⟨g2, 0, none⟩) (done.length + 1) cap2) := cell_of_row _ _ 0 _ _ _ e1; have y2 : Y1.cell? ⟨n + 2, 0, none⟩ = some (.bool false) := cell_of_row _ _ 0 _ _ _ s2; have y2f := frozen_of_row s2 0; have e2 := heap_setCell_same Y1 (n + 2) 0 _ _ (.bool true) s2; have q2 := grown_set Y1 (n + 2) 0 (.bool true); obtain ⟨Y2, E2⟩ : ∃ Z, Y1.setCell ⟨n + 2, 0, none⟩ (.bool true) = Z := ⟨_, rfl⟩; rw [E2] at e2 q2; have x2 : Y2.cell? ⟨n + 2, 0, none⟩ = some (.bool true) := cell_of_row _ _ 0 _ _ _ e2)
  go_ret
  have hg2l := (hown2.lt g2 rfl).1
  have t0 := (q2.block n (Array.getElem?_eq_some_iff.1 s0).1 (by simp)).trans s0
  have t1 := (q2.block (n + 1) (Array.getElem?_eq_some_iff.1 e1).1 (by simp)).trans e1
  have t3 := (q2.block (n + 3) (Array.getElem?_eq_some_iff.1 s3).1 (by simp)).trans s3
  have hownY := (hown2.kept q1 (.inr (fun e => by have := Option.some.inj e; simp at this; omega))).kept q2 (.inr (fun e => by have := Option.some.inj e; simp at this; omega))
  have hB2 : Below n w w2 := (hb1.mono (show n ≤ w.heap.size by omega)).grown hgrow2 (by have := hb1.size; omega) (fun k hk => by have := hlo k hk; omega)
  have hB3 := hB2.grown q1 (Nat.le_trans (show n ≤ w.heap.size by omega) hB2.size) (fun k hk => by cases hk; omega)
  have hB4 := hB3.grown q2 (Nat.le_trans (show n ≤ w.heap.size by omega) hB3.size) (fun k hk => by cases hk; omega)
  have hK := (((KeepsOthers.alloc w (.cells #[.int .u32 (k : Int)] 56)).trans (KeepsOthers.of_grownBy hgrow2 (fun j o hj ho => own_cells hownA j o hj ho))).trans (KeepsOthers.of_grownBy q1 (fun j o hj ho => by cases hj; rw [b1] at ho; cases ho; rfl))).trans (KeepsOthers.of_grownBy q2 (fun j o hj ho => by cases hj; rw [s2] at ho; cases ho; rfl))
  refine ⟨rfl, ⟨_, t1⟩, hB4, hK, ?_⟩
  rintro j ⟨j0, j1, j2, j3, j4⟩ hj
  have j5 := j4 _ c00
  have z1 := hb1.size
  have z2 := hgrow2.size
  have z3 := q1.size
  refine ⟨(q2.block j (by omega) (fun e => j2 (Option.some.inj e))).trans ((q1.block j (by omega) (fun e => j1 (Option.some.inj e))).trans ((hgrow2.block j (by omega) (fun e => j5 e.symm)).trans (hb1.block j hj))), j0, j1, j2, j3, fun uv huv => ?_⟩
  have hu2 : Y2.cell? ⟨n + 1, 0, none⟩ = some (.slice (some ⟨g2, 0, none⟩) (done.length + 1) cap2) := cell_of_row _ _ 0 _ _ _ t1
  rw [hu2] at huv
  rw [← Option.some.inj huv]
  intro e
  rcases hloc with hl | hl
  · exact j5 (hl ▸ e)
  · rw [hl] at e
    have := Option.some.inj e
    omega

end Go.Proofs.Ytkojgbfocdefnaa


namespace Go.Proofs.Ytkojgbfocdefnaa
open Go.RowKit Go.Shelf

/-- A history with the blocks of its versions. -/
def HistX (W : World) (hb g cap : Nat) (vs : Nat → Nat) (Ls : List Es) (p : Nat) : Prop := p < Ls.length ∧ Ls.length ≤ 33 ∧ HB W hb (some ⟨g, 0, none⟩) Ls.length cap (p : Int) ∧ Ls.length ≤ cap ∧ g ≠ hb ∧ Maps W g 0 vs Ls
theorem HistAt.x {W : World} {hb : Nat} {Ls : List Es} {p : Nat} (h : HistAt W hb Ls p) : ∃ g cap vs, HistX W hb g cap vs Ls p := by
  obtain ⟨h1, h2, g, cap, vs, h3, h4, h5, h6⟩ := h
  exact ⟨g, cap, vs, h1, h2, h3, h4, h5, h6⟩
theorem HistX.at {W : World} {hb g cap : Nat} {vs : Nat → Nat} {Ls : List Es} {p : Nat} (h : HistX W hb g cap vs Ls p) : HistAt W hb Ls p := ⟨h.1, h.2.1, g, cap, vs, h.2.2.1, h.2.2.2.1, h.2.2.2.2.1, h.2.2.2.2.2⟩
theorem HistX.later {W W' : World} {hb g cap : Nat} {vs : Nat → Nat} {Ls : List Es} {p : Nat} (h : HistX W hb g cap vs Ls p) (hb' : Below W.heap.size W W') : HistX W' hb g cap vs Ls p := ⟨h.1, h.2.1, h.2.2.1.later hb', h.2.2.2.1, h.2.2.2.2.1, h.2.2.2.2.2.later hb'⟩

set_option maxRecDepth 4000 in
set_option maxHeartbeats 2000000 in
theorem version_at (hb g cap : Nat) (vs : Nat → Nat) (Ls : List Es) (p i : Nat) (hi : i < Ls.length) (w : World) (h : HistX w hb g cap vs Ls p) : Calls Try.prog 20 #[.pointer (some ⟨hb, 0, none⟩), .int .i64 ((i : Int) - (p : Int))] w fun e w' => e = .returned (.pointer (some ⟨vs i, 0, none⟩)) ∧ Below w.heap.size w w' := by
  obtain ⟨hp, hl, hH, hcap, hne, hM⟩ := h
  have hA : HistAt w hb Ls p := ⟨hp, hl, g, cap, vs, hH, hcap, hne, hM⟩
  obtain ⟨r, hr⟩ : ∃ r, p + 1 + r = Ls.length := ⟨Ls.length - (p + 1), by omega⟩
  have hD := depth_any hb Ls p r hr w hA
  have hbl := hH.lt
  have n1 : ¬ (i : Int) - (p : Int) < -(p : Int) := by omega
  have n2 : ¬ (r : Int) < (i : Int) - (p : Int) := by omega
  have wn : wrap64 (-(p : Int)) = -(p : Int) := by unfold wrap64; omega
  have wn2 : IntKind.i64.wrap (-(p : Int)) = -(p : Int) := by rw [IntKind.wrap_i64]; omega
  have wi : wrap64 ((p : Int) + ((i : Int) - (p : Int))) = (i : Int) := by unfold wrap64; omega
  have wi2 : IntKind.i64.wrap ((p : Int) + ((i : Int) - (p : Int))) = (i : Int) := by rw [IntKind.wrap_i64]; omega
  have i0 : (0 : Int) ≤ (i : Int) := by omega
  have i1 : (i : Int) < (Ls.length : Int) := by omega
  have hMi := hM.2 i hi
  go_enter Try.func20, Try.ntmps20
  go_wp2_with (go_at_call 32; fail)
  refine hD.mono ?_
  rintro e w1 ⟨rfl, hb1⟩
  have c0 : w1.cell? ⟨hb, 0, none⟩ = some (.slice (some ⟨g, 0, none⟩) Ls.length cap) := (hb1.cell (p := ⟨hb, 0, none⟩) hbl).trans (cell_of_row _ _ 0 _ _ _ hH)
  have c1 : w1.cell? ⟨hb, 1, none⟩ = some (.int .i64 (p : Int)) := (hb1.cell (p := ⟨hb, 1, none⟩) hbl).trans (cell_of_row _ _ 1 _ _ _ hH)
  have c2 : w1.cell? ⟨g, i, none⟩ = some (.pointer (some ⟨vs i, 0, none⟩)) := by
    have := hMi.1
    rw [Nat.zero_add] at this
    exact (hb1.cell (p := ⟨g, i, none⟩) hM.1).trans this
  clear hM hMi hH hA hD
  go_wp2
  go_quiet (fail)
  go_wp2
  go_ret
  have hbn := below_drewN (Below.refl w1.heap.size w1) nq
  exact ⟨rfl, below_step hb1 hbn⟩

set_option maxRecDepth 4000 in
set_option maxHeartbeats 2000000 in
theorem version_none (hb : Nat) (Ls : List Es) (p : Nat) (m : Int) (hm : m < -(p : Int) ∨ (Ls.length : Int) - 1 - p < m) (w : World) (h : HistAt w hb Ls p) : Calls Try.prog 20 #[.pointer (some ⟨hb, 0, none⟩), .int .i64 m] w fun e w' => e = .returned (.pointer none) ∧ Below w.heap.size w w' := by
  have hp := h.1
  have hl := h.2.1
  obtain ⟨r, hr⟩ : ∃ r, p + 1 + r = Ls.length := ⟨Ls.length - (p + 1), by omega⟩
  have hD := depth_any hb Ls p r hr w h
  have wn : wrap64 (-(p : Int)) = -(p : Int) := by unfold wrap64; omega
  have wn2 : IntKind.i64.wrap (-(p : Int)) = -(p : Int) := by rw [IntKind.wrap_i64]; omega
  by_cases hc : m < -(p : Int)
  · go_enter Try.func20, Try.ntmps20
    go_wp2_with (go_at_call 32; refine hD.mono ?_; rintro e w1 ⟨rfl, hb1⟩)
    go_ret
    exact ⟨rfl, hb1⟩
  · have hc2 : (r : Int) < m := by omega
    go_enter Try.func20, Try.ntmps20
    go_wp2_with (go_at_call 32; refine hD.mono ?_; rintro e w1 ⟨rfl, hb1⟩)
    go_ret
    exact ⟨rfl, hb1⟩

theorem own_step {B base n size : Nat} {X Y : World} {e : TypeId} {v : Value} {xs : List Value} (h : X.ownsRow base e size v n xs) (hs : StepB B X Y) : Y.ownsRow base e size v n xs := by
  obtain ⟨row, hg, hr⟩ := hs
  refine h.kept hg ?_
  cases eo : v.ownBlock with
  | none => exact .inl rfl
  | some g =>
    refine .inr fun e2 => ?_
    obtain ⟨-, o, h3, h4⟩ := hr g e2.symm
    have := own_cells h g o eo h3
    rw [h4] at this
    cases this
theorem KAt.step {B n : Nat} {X Y : World} {done : List Nat} (h : KAt X n done) (hs : StepB B X Y) : KAt Y n done := by
  obtain ⟨h0, ⟨uv, h1, h4⟩, h2, h3⟩ := h
  exact ⟨block_stepB h0 hs, ⟨uv, block_stepB h1 hs, own_step h4 hs⟩, block_stepB h2 hs, block_stepB h3 hs⟩
theorem KAt.set {n : Nat} {X : World} {done : List Nat} (h : KAt X n done) {k : Nat} (hk : offK n k X) (o : Nat) (v : Value) : KAt (X.setCell ⟨k, o, none⟩ v) n done := by
  obtain ⟨h0, ⟨uv, h1, h4⟩, h2, h3⟩ := h
  obtain ⟨k0, k1, k2, k3, k4⟩ := hk
  have hc : X.cell? ⟨n + 1, 0, none⟩ = some uv := cell_of_row _ _ 0 _ _ _ h1
  exact ⟨(Below.heap_setCell _ _ _ n (Ne.symm k0)).trans h0, ⟨uv, (Below.heap_setCell _ _ _ (n + 1) (Ne.symm k1)).trans h1, h4.kept (grown_set X k o v) (.inr (k4 uv hc))⟩, (Below.heap_setCell _ _ _ (n + 2) (Ne.symm k2)).trans h2, (Below.heap_setCell _ _ _ (n + 3) (Ne.symm k3)).trans h3⟩
theorem KAt.new {n : Nat} {X : World} {done : List Nat} (h : KAt X n done) {k : Nat} (hk : X.heap.size ≤ k) : offK n k X := by
  obtain ⟨h0, ⟨uv, h1, h4⟩, h2, h3⟩ := h
  have l3 := (Array.getElem?_eq_some_iff.1 h3).1
  have hc : X.cell? ⟨n + 1, 0, none⟩ = some uv := cell_of_row _ _ 0 _ _ _ h1
  refine ⟨by omega, by omega, by omega, by omega, fun v hv e => ?_⟩
  rw [hc] at hv
  obtain rfl := Option.some.inj hv
  have := (h4.lt k e).2
  omega
theorem KAt.offStep {B n : Nat} {X Y : World} {done : List Nat} (h : KAt X n done) {k : Nat} (hk : offK n k X) (hs : StepB B X Y) : offK n k Y := by
  obtain ⟨h0, ⟨uv, h1, h4⟩, h2, h3⟩ := h
  obtain ⟨k0, k1, k2, k3, k4⟩ := hk
  have hc : X.cell? ⟨n + 1, 0, none⟩ = some uv := cell_of_row _ _ 0 _ _ _ h1
  have hc2 : Y.cell? ⟨n + 1, 0, none⟩ = some uv := cell_of_row _ _ 0 _ _ _ (block_stepB h1 hs)
  refine ⟨k0, k1, k2, k3, fun v hv => ?_⟩
  rw [hc2] at hv
  obtain rfl := Option.some.inj hv
  exact k4 _ hc
theorem KAt.later {n : Nat} {X Y : World} {done : List Nat} (h : KAt X n done) (hb : Below X.heap.size X Y) : KAt Y n done := h.step (stepB_below 0 hb)

def tuP (W0 : World) (ks : List Nat) (e : Ending) (w' : World) : Prop := e = .returned (.tuple #[]) ∧ KAt w' W0.heap.size ks ∧ Below W0.heap.size W0 w'
/-- Between two rounds of Touched's loop. -/
def tI (W0 : World) (YB : Nat) (pre : List Ch) (X : World) : Prop := KAt X W0.heap.size (pre.map (·.1)) ∧ Below W0.heap.size W0 X ∧ X.heap[YB]? = some (.cells #[klV W0.heap.size] 51 (0, 0)) ∧ pre.length < 4000 ∧ offK W0.heap.size YB X

/-- A round was left: the list is full. -/
def tFull (W0 : World) (pre : List Ch) (X : World) : Prop := 4000 ≤ pre.length ∧ Below W0.heap.size W0 X ∧ ∃ uv, X.heap[W0.heap.size + 1]? = some (.cells #[uv] 90 (0, 0))

end Go.Proofs.Ytkojgbfocdefnaa


namespace Go.Proofs.Ytkojgbfocdefnaa
open Go.RowKit Go.Shelf
attribute [local go_sem] Oper.semAt_some

theorem offK_set {n j k o : Nat} {X : World} {v : Value} (h : offK n j X) (hk : offK n k X) : offK n j (X.setCell ⟨k, o, none⟩ v) := by
  obtain ⟨k0, k1, k2, k3, k4⟩ := h
  refine ⟨k0, k1, k2, k3, fun u hu => k4 u ?_⟩
  rw [World.cell?_setCell_other _ _ _ _ (by simp; exact fun e => absurd e hk.2.1)] at hu
  exact hu
theorem tI_step {W0 : World} {B YB : Nat} (hB : W0.heap.size ≤ B) {pre : List Ch} {X Y : World} (h : tI W0 YB pre X) (hs : StepB B X Y) : tI W0 YB pre Y :=
  ⟨h.1.step hs, (hs.mono hB).below h.2.1 h.2.1.size, block_stepB h.2.2.1 hs, h.2.2.2.1, h.1.offStep h.2.2.2.2 hs⟩
theorem tI_set {W0 : World} {B YB : Nat} (hB : W0.heap.size ≤ B) (hY : YB < B) {pre : List Ch} {X : World} {k o : Nat} {v : Value} (h : tI W0 YB pre X) (hk : offK W0.heap.size k X) (hl : B ≤ k) : tI W0 YB pre (X.setCell ⟨k, o, none⟩ v) :=
  ⟨h.1.set hk o v, h.2.1.setCell (p := ⟨k, o, none⟩) (Nat.le_trans hB hl) v, (Below.heap_setCell _ _ _ YB (by simp; omega)).trans h.2.2.1, h.2.2.2.1, offK_set h.2.2.2.2 hk⟩
theorem tFull_step {W0 : World} {B : Nat} (hB : W0.heap.size ≤ B) {pre : List Ch} {X Y : World} (h : tFull W0 pre X) (hs : StepB B X Y) : tFull W0 pre Y := by
  obtain ⟨h1, h2, uv, h3⟩ := h
  exact ⟨h1, (hs.mono hB).below h2 h2.size, uv, block_stepB h3 hs⟩
theorem tFull_set {W0 : World} {B : Nat} (hB : W0.heap.size ≤ B) {pre : List Ch} {X : World} {k o : Nat} {v : Value} (h : tFull W0 pre X) (hk : offK W0.heap.size k X) (hl : B ≤ k) : tFull W0 pre (X.setCell ⟨k, o, none⟩ v) := by
  obtain ⟨h1, h2, uv, h3⟩ := h
  exact ⟨h1, h2.setCell (p := ⟨k, o, none⟩) (Nat.le_trans hB hl) v, uv, (Below.heap_setCell _ _ _ (W0.heap.size + 1) (Ne.symm hk.2.1)).trans h3⟩
theorem tFull_off {W0 : World} {B : Nat} {pre : List Ch} {X Y : World} {k : Nat} (h : tFull W0 pre X) (hk : offK W0.heap.size k X) (hs : StepB B X Y) : offK W0.heap.size k Y := by
  obtain ⟨h1, h2, uv, h3⟩ := h
  obtain ⟨k0, k1, k2, k3, k4⟩ := hk
  have hc : X.cell? ⟨W0.heap.size + 1, 0, none⟩ = some uv := cell_of_row _ _ 0 _ _ _ h3
  have hc2 : Y.cell? ⟨W0.heap.size + 1, 0, none⟩ = some uv := cell_of_row _ _ 0 _ _ _ (block_stepB h3 hs)
  refine ⟨k0, k1, k2, k3, fun v hv => ?_⟩
  rw [hc2] at hv
  obtain rfl := Option.some.inj hv
  exact k4 _ hc

set_option maxRecDepth 4000 in
set_option maxHeartbeats 4000000 in
theorem touched1_some (W0 : World) (hb g cap : Nat) (vs : Nat → Nat) (Ls : List Es) (p i j c1 c2 c3 : Nat) (hX : HistX W0 hb g cap vs Ls p) (hi : i < Ls.length) (hj : j < Ls.length) (ta tb : Tr) (hta : MapT W0 (vs i) ta) (htb : MapT W0 (vs j) tb) (hlen : (ta.dif tb 7 0).length < 2000)
    (hc1 : W0.cell? ⟨c1, 0, none⟩ = some (.pointer (some ⟨hb, 0, none⟩))) (hc2 : W0.cell? ⟨c2, 0, none⟩ = some (.int .i64 ((i : Int) - (p : Int)))) (hc3 : W0.cell? ⟨c3, 0, none⟩ = some (.int .i64 ((j : Int) - (p : Int)))) (hcl : c1 < W0.heap.size ∧ c2 < W0.heap.size ∧ c3 < W0.heap.size) (w : World) (hB : Below W0.heap.size W0 w) (hK : KAt w W0.heap.size []) :
    Calls Try.prog 19 #[klV W0.heap.size, .pointer (some ⟨c1, 0, none⟩), .pointer (some ⟨c2, 0, none⟩), .pointer (some ⟨c3, 0, none⟩)] w (tuP W0 ((ta.dif tb 7 0).map (·.1))) := by
  have ha1 := (Below.refl w.heap.size w).alloc (Nat.le_refl _) (.cells #[klV W0.heap.size] 51)
  have hyb := heap_alloc_last w (.cells #[klV W0.heap.size] 51)
  have hKa := hK.later ha1
  have hBa := below_step hB ha1
  have hV : ∀ q, q < Ls.length → ∀ X, Below W0.heap.size W0 X → Calls Try.prog 20 #[.pointer (some ⟨hb, 0, none⟩), .int .i64 ((q : Int) - (p : Int))] X fun e w' => e = .returned (.pointer (some ⟨vs q, 0, none⟩)) ∧ Below X.heap.size X w' := fun q hq X hBX => version_at hb g cap vs Ls p q hq X (hX.later hBX)
  have hS : ∀ X, Below W0.heap.size W0 X → X.cell? ⟨c1, 0, none⟩ = some (.pointer (some ⟨hb, 0, none⟩)) ∧ X.cell? ⟨c2, 0, none⟩ = some (.int .i64 ((i : Int) - (p : Int))) ∧ X.cell? ⟨c3, 0, none⟩ = some (.int .i64 ((j : Int) - (p : Int))) := fun X hX' => ⟨(hX'.cell (p := ⟨c1, 0, none⟩) hcl.1).trans hc1, (hX'.cell (p := ⟨c2, 0, none⟩) hcl.2.1).trans hc2, (hX'.cell (p := ⟨c3, 0, none⟩) hcl.2.2).trans hc3⟩
  unfold klV at ha1 hyb hKa hBa ⊢
  generalize hbs : (#[.pointer (some ⟨W0.heap.size + 2, 0, none⟩), .pointer (some ⟨W0.heap.size + 3, 0, none⟩), .pointer (some ⟨W0.heap.size + 1, 0, none⟩), .pointer (some ⟨W0.heap.size, 0, none⟩)] : Array Value) = bs at *
  refine (callsIn_wide (n := 6)).1 ?_
  refine callsIn_of_wp_marks Try.func19 rfl trivial ?_ rfl
  simp only [Try.ntmps19, List.size_toArray, List.length_cons, List.length_nil, Nat.reduceAdd, Nat.reduceSub, Array.replicate_succ, Array.replicate_zero, List.push_toArray, List.append_toArray, List.nil_append, List.cons_append]
  refine wpIn_wide.2 ?_
  go_upto_region 1 with fail
  generalize hwa : w.alloc (.cells #[.func (.func 54) #[] bs] 51) = wa at *
  have hBD := hBa.drew
  have hsD := hS _ hBD
  clear hX hc1 hc2 hc3
  go_region_held3 (fun X => X.cell? ⟨c1, 0, none⟩ = some (.pointer (some ⟨hb, 0, none⟩)) ∧ X.cell? ⟨c2, 0, none⟩ = some (.int .i64 ((i : Int) - (p : Int))) ∧ X.cell? ⟨c3, 0, none⟩ = some (.int .i64 ((j : Int) - (p : Int)))) (with_reducible assumption)
    (first | (go_at_call 20; refine (hV _ (by first | exact hi | exact hj) _ (by first | exact hB3 | exact hBD)).mono ?_; rintro e wv ⟨rfl, hbv⟩; first | (have hB4 := below_step hB3 hbv; have s4 := hS _ hB4; have hb34 := hbv) | (have hB3 := below_step hBD hbv; have s3 := hS _ hB3; have hbD3 := hbv)))
  go_wp2_with (go_at_call 21; refine (diff_iter _ _ _).mono ?_; rintro e w5 ⟨rfl, hD5, hb5⟩)
  have hB5 := below_step hB4 hb5
  have hA5 := hta.later hB5
  have hC5 := htb.later hB5
  have hba5 := below_step (below_step (below_step (Below.refl wa.heap.size wa).drew hbD3) hb34) hb5
  have hwl : w.heap.size < wa.heap.size := (Array.getElem?_eq_some_iff.1 hyb).1
  have hw5 := hba5.size
  have hkl : klV W0.heap.size = .func (.func 54) #[] bs := by unfold klV; rw [hbs]
  have hI0 : tI W0 w.heap.size [] w5 := ⟨hKa.later hba5, hB5, by rw [hkl]; exact (hba5.block _ hwl).trans hyb, by simp, hKa.offStep (hK.offStep (hK.new (Nat.le_refl _)) (stepB_below 0 ha1)) (stepB_below 0 hba5)⟩
  clear hbD3 hb34 hbv s3 s4 hsD hBD hV hS hB3 hB4 hi hj ha1 hyb hKa hBa hwa hcl hK hB
  refine (wpIn_wide (n := 6)).1 ?_
  refine range_diff wv.heap.size (vs i) (vs j) ta tb _ rfl rfl rfl (tI W0 w.heap.size) (tFull W0) (offK W0.heap.size) (fun pre X Y h hs => tI_step hB5.size h hs) (fun pre X Y h hs => tFull_step hB5.size h hs) (fun pre X k o v h hk hl => tI_set hB5.size (by omega) h hk hl) (fun pre X k o v h hk hl => tFull_set hB5.size h hk hl)
    (fun pre X k h hk => h.1.new hk) (fun pre X Y k h hk hs => h.1.offStep hk hs) (fun pre X Y k h hk hs => tFull_off h hk hs) (fun pre X h => ⟨(hta.later h.2.1).2.2.2.1, (htb.later h.2.1).2.2.2.1⟩) (fun pre X h => ⟨(hta.later h.2.1).2.2.2.1, (htb.later h.2.1).2.2.2.1⟩) hD5 hA5 hC5 hI0
    (fun x a' X => ∃ vb, a' = { tmps := #[Value.func (.func 54) #[] bs, .pointer (some ⟨c1, 0, none⟩), .pointer (some ⟨c2, 0, none⟩), .pointer (some ⟨c3, 0, none⟩), .pointer (some ⟨w.heap.size, 0, none⟩), .pointer (some ⟨vs i, 0, none⟩), .pointer (some ⟨vs j, 0, none⟩), .pointer (some ⟨vb, 0, none⟩), .pointer (some ⟨hb, 0, none⟩), .int .i64 ((i : Int) - (p : Int)), .pointer (some ⟨vs i, 0, none⟩), .pointer (some ⟨hb, 0, none⟩), .int .i64 ((j : Int) - (p : Int)), .pointer (some ⟨vs j, 0, none⟩), .pointer (some ⟨vs i, 0, none⟩), .bool false, .bool false, .pointer (some ⟨vs j, 0, none⟩), .bool false, .bool false, .pointer (some ⟨vs i, 0, none⟩), .pointer (some ⟨vs j, 0, none⟩), diffV wv.heap.size, chV x, undef, undef, undef, undef, undef], defers := [] } ∧ X.cell? ⟨vb, 0, none⟩ = some (.int .u32 (x.1 : Int)))
    (fun x a' X Y ⟨vb, h1, h2⟩ hs => ⟨vb, h1, cell_stepB h2 hs⟩) ?assign ?body ?done ?stop
  case assign =>
    intro l' pre x W K hIW hK'
    unfold chV
    gi_wp2
    exact hK' _ _ ((Below.refl _ _).alloc (Nat.le_refl _) _) ⟨W.heap.size, rfl, by simp⟩
  case body =>
    rintro l' pre x a' W hIW ⟨vb, rfl, v0⟩
    subst hbs
    have c0 : W.cell? ⟨w.heap.size, 0, none⟩ = some (klV W0.heap.size) := cell_of_row _ _ 0 _ _ _ hIW.2.2.1
    have hyl := (Array.getElem?_eq_some_iff.1 hIW.2.2.1).1
    have hYo : offK W0.heap.size w.heap.size W := hIW.2.2.2.2
    unfold klV at c0
    clear hI0 hkl hta htb hlen hA5 hC5 hD5
    have hlen := hIW.2.2.2.1
    by_cases hf : pre.length < 3999
    · have hcl := keyList1_any W0.heap.size (pre.map (·.1)) (by simpa using hf) x.1 W hIW.1
      gi_wp2_with (gi_at_call 54; fail)
      refine ⟨trivial, (CallsIn.inRound l' (callsIn_wide.2 hcl)).mono ?_⟩
      rintro e X ⟨rfl, hK1, hb1, hKO, hoff⟩
      obtain ⟨o1, o2⟩ := hoff _ hYo hyl
      gi_wp2
      exact ⟨hKO.from _, hoff, by rw [List.map_append]; exact hK1, hIW.2.1.trans hb1, o1.trans hIW.2.2.1, by simp; omega, o2⟩
    · have hcl := keyList1_full W0.heap.size (pre.map (·.1)) (by simpa using hf) (by simpa using hlen) x.1 W hIW.1
      gi_wp2_with (gi_at_call 54; fail)
      refine ⟨trivial, (CallsIn.inRound l' (callsIn_wide.2 hcl)).mono ?_⟩
      rintro e X ⟨rfl, hK1, hb1, hKO, hoff⟩
      gi_wp2
      exact ⟨hKO.from _, hoff, by simp; omega, hIW.2.1.trans hb1, hK1⟩
  case done =>
    intro R W hR hIW hdef
    have hst := stepB_put (B := w5.heap.size) (.deferred none) hR hdef rfl
    have hI2 := tI_step hB5.size hIW hst
    gi_wp2
    refine ⟨by simp, .inl ⟨_, _, rfl, run_takeDeferred hdef, ?_⟩⟩
    exact ⟨.tuple #[], by simp [results, Try.results19, go_sem], rfl, hI2.1, hI2.2.1⟩
  case stop =>
    intro R pre W hR hpre hIW hdef
    have h1 := hIW.1
    have h2 := hpre.length_le
    omega

end Go.Proofs.Ytkojgbfocdefnaa


namespace Go.Proofs.Ytkojgbfocdefnaa
open Go.RowKit Go.Shelf

def touV (c1 c2 c3 : Nat) : Value := .func (.func 19) #[] #[.pointer (some ⟨c1, 0, none⟩), .pointer (some ⟨c2, 0, none⟩), .pointer (some ⟨c3, 0, none⟩)]
/-- What Touched's closure has caught. -/
def TouAt (W : World) (n hb : Nat) (a b : Int) : Prop := W.cell? ⟨n, 0, none⟩ = some (.pointer (some ⟨hb, 0, none⟩)) ∧ W.cell? ⟨n + 1, 0, none⟩ = some (.int .i64 a) ∧ W.cell? ⟨n + 1 + 1, 0, none⟩ = some (.int .i64 b) ∧ n < W.heap.size ∧ n + 1 < W.heap.size ∧ n + 1 + 1 < W.heap.size
theorem TouAt.later {W W' : World} {n hb : Nat} {a b : Int} (h : TouAt W n hb a b) (hB : Below W.heap.size W W') : TouAt W' n hb a b :=
  ⟨(hB.cell (p := ⟨n, 0, none⟩) h.2.2.2.1).trans h.1, (hB.cell (p := ⟨n + 1, 0, none⟩) h.2.2.2.2.1).trans h.2.1, (hB.cell (p := ⟨n + 1 + 1, 0, none⟩) h.2.2.2.2.2).trans h.2.2.1, Nat.lt_of_lt_of_le h.2.2.2.1 hB.size, Nat.lt_of_lt_of_le h.2.2.2.2.1 hB.size, Nat.lt_of_lt_of_le h.2.2.2.2.2 hB.size⟩

set_option maxRecDepth 4000 in
set_option maxHeartbeats 2000000 in
theorem touched_any (hb : Nat) (a b : Int) (w : World) : Calls Try.prog 6 #[.pointer (some ⟨hb, 0, none⟩), .int .i64 a, .int .i64 b] w fun e w' => e = .returned (touV w.heap.size (w.heap.size + 1) (w.heap.size + 1 + 1)) ∧ TouAt w' w.heap.size hb a b ∧ Below w.heap.size w w' := by
  go_enter Try.func6, Try.ntmps6
  go_wp2
  go_ret
  have r1 := heap_alloc_last w (.cells #[.pointer (some ⟨hb, 0, none⟩)] 24)
  have r2 := heap_alloc_last (w.alloc (.cells #[.pointer (some ⟨hb, 0, none⟩)] 24)) (.cells #[.int .i64 a] 3)
  have r3 := heap_alloc_last ((w.alloc (.cells #[.pointer (some ⟨hb, 0, none⟩)] 24)).alloc (.cells #[.int .i64 a] 3)) (.cells #[.int .i64 b] 3)
  rw [World.size_alloc] at r2
  rw [World.size_alloc, World.size_alloc] at r3
  have q2 := (Below.heap_alloc ((w.alloc (.cells #[.pointer (some ⟨hb, 0, none⟩)] 24)).alloc (.cells #[.int .i64 a] 3)) (.cells #[.int .i64 b] 3) (w.heap.size + 1) (by simp)).trans r2
  have q1 := (Below.heap_alloc ((w.alloc (.cells #[.pointer (some ⟨hb, 0, none⟩)] 24)).alloc (.cells #[.int .i64 a] 3)) (.cells #[.int .i64 b] 3) w.heap.size (by simp; omega)).trans ((Below.heap_alloc _ _ _ (by simp)).trans r1)
  refine ⟨rfl, ⟨cell_of_row _ _ 0 _ _ _ q1, cell_of_row _ _ 0 _ _ _ q2, cell_of_row _ _ 0 _ _ _ r3, by simp; omega, by simp, by simp⟩, (((Below.refl _ _).alloc (Nat.le_refl _) _).alloc (by simp) _).alloc (by simp; omega) _⟩

/-- A row of keys. -/
def KsAt (W : World) (v : Value) (ks : List Nat) : Prop := ∃ a cap, v = .slice a ks.length cap ∧ (ks = [] ∨ ∃ g, a = some ⟨g, 0, none⟩ ∧ g < W.heap.size ∧ ∀ i (h : i < ks.length), W.cell? ⟨g, i, none⟩ = some (.int .u32 (ks[i] : Int)))
theorem KsAt.later {W W' : World} {v : Value} {ks : List Nat} (h : KsAt W v ks) (hb : Below W.heap.size W W') : KsAt W' v ks := by
  obtain ⟨a, cap, rfl, h | ⟨g, rfl, hg, hc⟩⟩ := h
  · exact ⟨a, cap, rfl, .inl h⟩
  · exact ⟨_, cap, rfl, .inr ⟨g, rfl, Nat.lt_of_lt_of_le hg hb.size, fun i hi => (hb.cell (p := ⟨g, i, none⟩) hg).trans (hc i hi)⟩⟩
theorem ks_of_own {W : World} {base : Nat} {uv : Value} {ks : List Nat} (h : W.ownsRow base 56 1 uv ks.length (keysV ks)) : KsAt W uv ks := by
  have h' := h
  obtain ⟨_, ⟨e, h0⟩ | ⟨g, cap, cur, rfl, _⟩⟩ := h
  · exact ⟨none, 0, by rw [e, h0], .inl (List.length_eq_zero_iff.1 h0)⟩
  · refine ⟨_, cap, rfl, .inr ⟨g, rfl, (h'.lt g rfl).2, fun i hi => ?_⟩⟩
    rw [h'.cellAt i (by omega)]
    unfold keysV
    rw [List.getElem?_map, List.getElem?_eq_getElem hi]
    rfl
def ksP (w : World) (ks : List Nat) (e : Ending) (w' : World) : Prop := ∃ ea ec, e = .returned (.tuple #[.slice ea ks.length ec, .bool true]) ∧ KsAt w' (.slice ea ks.length ec) ks ∧ Below w.heap.size w w'

set_option maxRecDepth 4000 in
set_option maxHeartbeats 2000000 in
theorem keyList_of (c1 c2 c3 : Nat) (ks : List Nat) (w : World) (hcall : ∀ w1, Below w.heap.size w w1 → KAt w1 w.heap.size [] → Calls Try.prog 19 #[klV w.heap.size, .pointer (some ⟨c1, 0, none⟩), .pointer (some ⟨c2, 0, none⟩), .pointer (some ⟨c3, 0, none⟩)] w1 (tuP w ks)) :
    Calls Try.prog 40 #[touV c1 c2 c3, .int .i64 0] w (ksP w ks) := by
  unfold touV
  unfold klV at hcall
  have hnil : ∀ W : World, (binOp BinOp.eql 33 (.func (.func 19) #[] #[.pointer (some ⟨c1, 0, none⟩), .pointer (some ⟨c2, 0, none⟩), .pointer (some ⟨c3, 0, none⟩)]) .nilFunc).run Try.prog W = .ok (.bool false) W := fun _ => rfl
  go_enter Try.func40, Try.ntmps40
  go_wp2_with (go_at_call 19; fail)
  have r0 := heap_alloc_last w (.cells #[.int .i64 0] 3)
  have r1 := heap_alloc_last (w.alloc (.cells #[.int .i64 0] 3)) (.cells #[.slice none 0 0] 90)
  have r2 := heap_alloc_last ((w.alloc (.cells #[.int .i64 0] 3)).alloc (.cells #[.slice none 0 0] 90)) (.cells #[.bool false] 4)
  have r3 := heap_alloc_last (((w.alloc (.cells #[.int .i64 0] 3)).alloc (.cells #[.slice none 0 0] 90)).alloc (.cells #[.bool false] 4)) (.cells #[.bool true] 4)
  simp only [World.size_alloc] at r1 r2 r3
  have hB4 : Below w.heap.size w ((((w.alloc (.cells #[.int .i64 0] 3)).alloc (.cells #[.slice none 0 0] 90)).alloc (.cells #[.bool false] 4)).alloc (.cells #[.bool true] 4)) := ((((Below.refl _ _).alloc (Nat.le_refl _) _).alloc (by simp) _).alloc (by simp; omega) _).alloc (by simp; omega) _
  have q0 := (Below.heap_alloc (((w.alloc (.cells #[.int .i64 0] 3)).alloc (.cells #[.slice none 0 0] 90)).alloc (.cells #[.bool false] 4)) (.cells #[.bool true] 4) w.heap.size (by simp; omega)).trans ((Below.heap_alloc _ _ _ (by simp; omega)).trans ((Below.heap_alloc _ _ _ (by simp)).trans r0))
  have q1 := (Below.heap_alloc (((w.alloc (.cells #[.int .i64 0] 3)).alloc (.cells #[.slice none 0 0] 90)).alloc (.cells #[.bool false] 4)) (.cells #[.bool true] 4) (w.heap.size + 1) (by simp)).trans ((Below.heap_alloc _ _ _ (by simp)).trans r1)
  have q2 := (Below.heap_alloc (((w.alloc (.cells #[.int .i64 0] 3)).alloc (.cells #[.slice none 0 0] 90)).alloc (.cells #[.bool false] 4)) (.cells #[.bool true] 4) (w.heap.size + 1 + 1) (by simp)).trans r2
  refine (hcall _ hB4 ⟨q0, ⟨_, q1, World.ownsRow_nil _ _ _ _⟩, q2, r3⟩).mono ?_
  clear hcall q0 q1 q2 r0 r1 r2 r3 hB4 hnil
  rintro e w1 ⟨rfl, ⟨h0, ⟨uv, h1, hown⟩, h2, h3⟩, hb1⟩
  obtain ⟨ea, ec, e1⟩ := own_lenH hown
  subst e1
  have c1 : w1.cell? ⟨w.heap.size + 1, 0, none⟩ = some (.slice ea ks.length ec) := cell_of_row _ _ 0 _ _ _ h1
  have c3 : w1.cell? ⟨w.heap.size + 1 + 1 + 1, 0, none⟩ = some (.bool true) := cell_of_row _ _ 0 _ _ _ h3
  have hks := ks_of_own hown
  clear h0 h1 h2 h3 hown
  go_wp2
  go_quiet (fail)
  go_wp2
  go_ret2
  have hbn := below_drewN (Below.refl w1.heap.size w1) nq
  exact ⟨_, _, rfl, hks.later hbn, below_step hb1 hbn⟩

end Go.Proofs.Ytkojgbfocdefnaa
