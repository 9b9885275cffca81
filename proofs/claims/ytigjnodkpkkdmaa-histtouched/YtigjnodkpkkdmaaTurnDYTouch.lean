import Derived.Test.YtigjnodkpkkdmaaJoin49
import Derived.Test.YtigjnodkpkkdmaaHFn2
namespace Go.Proofs.Ytigjnodkpkkdmaa
open Go.RowKit Go.Shelf

/-- A history with the blocks of its versions. -/
def HistX (W : World) (hb g cap : Nat) (vs : Nat → Nat) (Ls : List Es) (p : Nat) : Prop := p < Ls.length ∧ Ls.length ≤ 33 ∧ HB W hb (some ⟨g, 0, none⟩) Ls.length cap (p : Int) ∧ Ls.length ≤ cap ∧ g ≠ hb ∧ Maps W g 0 vs Ls
theorem HistAt.x {W : World} {hb : Nat} {Ls : List Es} {p : Nat} (h : HistAt W hb Ls p) : ∃ g cap vs, HistX W hb g cap vs Ls p := by
  obtain ⟨h1, h2, g, cap, vs, h3, h4, h5, h6⟩ := h
  exact ⟨g, cap, vs, h1, h2, h3, h4, h5, h6⟩
theorem HistX.at {W : World} {hb g cap : Nat} {vs : Nat → Nat} {Ls : List Es} {p : Nat} (h : HistX W hb g cap vs Ls p) : HistAt W hb Ls p := ⟨h.1, h.2.1, g, cap, vs, h.2.2.1, h.2.2.2.1, h.2.2.2.2.1, h.2.2.2.2.2⟩
theorem HistX.later {W W' : World} {hb g cap : Nat} {vs : Nat → Nat} {Ls : List Es} {p : Nat} (h : HistX W hb g cap vs Ls p) (hb' : Below W.heap.size W W') : HistX W' hb g cap vs Ls p := ⟨h.1, h.2.1, h.2.2.1.later hb', h.2.2.2.1, h.2.2.2.2.1, h.2.2.2.2.2.later hb'⟩

set_option maxRecDepth 4000 in
set_option maxHeartbeats 2000000 in
theorem version_at (hb g cap : Nat) (vs : Nat → Nat) (Ls : List Es) (p i : Nat) (hi : i < Ls.length) (w : World) (h : HistX w hb g cap vs Ls p) : Calls Try.prog 34 #[.pointer (some ⟨hb, 0, none⟩), .int .i64 ((i : Int) - (p : Int))] w fun e w' => e = .returned (.pointer (some ⟨vs i, 0, none⟩)) ∧ Below w.heap.size w w' := by
  obtain ⟨hp, hl, hH, hcap, hne, hM⟩ := h
  have hA : HistAt w hb Ls p := ⟨hp, hl, g, cap, vs, hH, hcap, hne, hM⟩
  obtain ⟨r, hr⟩ : ∃ r, p + 1 + r = Ls.length := ⟨Ls.length - (p + 1), by omega⟩
  have hD := depth_any hb Ls p r hr w hA
  have hbl := hH.lt
  have n1 : ¬ (i : Int) - (p : Int) < -(p : Int) := by omega
  have n2 : ¬ (r : Int) < (i : Int) - (p : Int) := by omega
  have wn : wrap64 (-(p : Int)) = -(p : Int) := by unfold wrap64; omega
  have wn2 : IntKind.i64.wrap (-(p : Int)) = -(p : Int) := by rw [IntKind.wrap_i64]; omega
  have wi : wrap64 ((p : Int) + ((i : Int) - (p : Int))) = (i : Int) := by unfold wrap64; omega
  have wi2 : IntKind.i64.wrap ((p : Int) + ((i : Int) - (p : Int))) = (i : Int) := by rw [IntKind.wrap_i64]; omega
  have i0 : (0 : Int) ≤ (i : Int) := by omega
  have i1 : (i : Int) < (Ls.length : Int) := by omega
  have hMi := hM.2 i hi
  go_enter Try.func34, Try.ntmps34
  go_wp2_with (go_at_call 8; fail)
  refine hD.mono ?_
  rintro e w1 ⟨rfl, hb1⟩
  have c0 : w1.cell? ⟨hb, 0, none⟩ = some (.slice (some ⟨g, 0, none⟩) Ls.length cap) := (hb1.cell (p := ⟨hb, 0, none⟩) hbl).trans (cell_of_row _ _ 0 _ _ _ hH)
  have c1 : w1.cell? ⟨hb, 1, none⟩ = some (.int .i64 (p : Int)) := (hb1.cell (p := ⟨hb, 1, none⟩) hbl).trans (cell_of_row _ _ 1 _ _ _ hH)
  have c2 : w1.cell? ⟨g, i, none⟩ = some (.pointer (some ⟨vs i, 0, none⟩)) := by
    have := hMi.1
    rw [Nat.zero_add] at this
    exact (hb1.cell (p := ⟨g, i, none⟩) hM.1).trans this
  clear hM hMi hH hA hD
  go_wp2
  go_quiet (fail)
  go_wp2
  go_ret
  have hbn := below_drewN (Below.refl w1.heap.size w1) nq
  exact ⟨rfl, below_step hb1 hbn⟩

set_option maxRecDepth 4000 in
set_option maxHeartbeats 2000000 in
theorem version_none (hb : Nat) (Ls : List Es) (p : Nat) (m : Int) (hm : m < -(p : Int) ∨ (Ls.length : Int) - 1 - p < m) (w : World) (h : HistAt w hb Ls p) : Calls Try.prog 34 #[.pointer (some ⟨hb, 0, none⟩), .int .i64 m] w fun e w' => e = .returned (.pointer none) ∧ Below w.heap.size w w' := by
  have hp := h.1
  have hl := h.2.1
  obtain ⟨r, hr⟩ : ∃ r, p + 1 + r = Ls.length := ⟨Ls.length - (p + 1), by omega⟩
  have hD := depth_any hb Ls p r hr w h
  have wn : wrap64 (-(p : Int)) = -(p : Int) := by unfold wrap64; omega
  have wn2 : IntKind.i64.wrap (-(p : Int)) = -(p : Int) := by rw [IntKind.wrap_i64]; omega
  by_cases hc : m < -(p : Int)
  · go_enter Try.func34, Try.ntmps34
    go_wp2_with (go_at_call 8; refine hD.mono ?_; rintro e w1 ⟨rfl, hb1⟩)
    go_ret
    exact ⟨rfl, hb1⟩
  · have hc2 : (r : Int) < m := by omega
    go_enter Try.func34, Try.ntmps34
    go_wp2_with (go_at_call 8; refine hD.mono ?_; rintro e w1 ⟨rfl, hb1⟩)
    go_ret
    exact ⟨rfl, hb1⟩

theorem own_step {B base n size : Nat} {X Y : World} {e : TypeId} {v : Value} {xs : List Value} (h : X.ownsRow base e size v n xs) (hs : StepB B X Y) : Y.ownsRow base e size v n xs := by
  obtain ⟨row, hg, hr⟩ := hs
  refine h.kept hg ?_
  cases eo : v.ownBlock with
  | none => exact .inl rfl
  | some g =>
    refine .inr fun e2 => ?_
    obtain ⟨-, o, h3, h4⟩ := hr g e2.symm
    have := own_cells h g o eo h3
    rw [h4] at this
    cases this
theorem KAt.step {B n : Nat} {X Y : World} {done : List Nat} (h : KAt X n done) (hs : StepB B X Y) : KAt Y n done := by
  obtain ⟨h0, ⟨uv, h1, h4⟩, h2, h3⟩ := h
  exact ⟨block_stepB h0 hs, ⟨uv, block_stepB h1 hs, own_step h4 hs⟩, block_stepB h2 hs, block_stepB h3 hs⟩
theorem KAt.set {n : Nat} {X : World} {done : List Nat} (h : KAt X n done) {k : Nat} (hk : offK n k X) (o : Nat) (v : Value) : KAt (X.setCell ⟨k, o, none⟩ v) n done := by
  obtain ⟨h0, ⟨uv, h1, h4⟩, h2, h3⟩ := h
  obtain ⟨k0, k1, k2, k3, k4⟩ := hk
  have hc : X.cell? ⟨n + 1, 0, none⟩ = some uv := cell_of_row _ _ 0 _ _ _ h1
  exact ⟨(Below.heap_setCell _ _ _ n (Ne.symm k0)).trans h0, ⟨uv, (Below.heap_setCell _ _ _ (n + 1) (Ne.symm k1)).trans h1, h4.kept (grown_set X k o v) (.inr (k4 uv hc))⟩, (Below.heap_setCell _ _ _ (n + 2) (Ne.symm k2)).trans h2, (Below.heap_setCell _ _ _ (n + 3) (Ne.symm k3)).trans h3⟩
theorem KAt.new {n : Nat} {X : World} {done : List Nat} (h : KAt X n done) {k : Nat} (hk : X.heap.size ≤ k) : offK n k X := by
  obtain ⟨h0, ⟨uv, h1, h4⟩, h2, h3⟩ := h
  have l3 := (Array.getElem?_eq_some_iff.1 h3).1
  have hc : X.cell? ⟨n + 1, 0, none⟩ = some uv := cell_of_row _ _ 0 _ _ _ h1
  refine ⟨by omega, by omega, by omega, by omega, fun v hv e => ?_⟩
  rw [hc] at hv
  obtain rfl := Option.some.inj hv
  have := (h4.lt k e).2
  omega
theorem KAt.offStep {B n : Nat} {X Y : World} {done : List Nat} (h : KAt X n done) {k : Nat} (hk : offK n k X) (hs : StepB B X Y) : offK n k Y := by
  obtain ⟨h0, ⟨uv, h1, h4⟩, h2, h3⟩ := h
  obtain ⟨k0, k1, k2, k3, k4⟩ := hk
  have hc : X.cell? ⟨n + 1, 0, none⟩ = some uv := cell_of_row _ _ 0 _ _ _ h1
  have hc2 : Y.cell? ⟨n + 1, 0, none⟩ = some uv := cell_of_row _ _ 0 _ _ _ (block_stepB h1 hs)
  refine ⟨k0, k1, k2, k3, fun v hv => ?_⟩
  rw [hc2] at hv
  obtain rfl := Option.some.inj hv
  exact k4 _ hc
theorem KAt.later {n : Nat} {X Y : World} {done : List Nat} (h : KAt X n done) (hb : Below X.heap.size X Y) : KAt Y n done := h.step (stepB_below 0 hb)

def tuP (W0 : World) (ks : List Nat) (e : Ending) (w' : World) : Prop := e = .returned (.tuple #[]) ∧ KAt w' W0.heap.size ks ∧ Below W0.heap.size W0 w'
/-- Between two rounds of Touched's loop. -/
def tI (W0 : World) (YB : Nat) (pre : List Ch) (X : World) : Prop := KAt X W0.heap.size (pre.map (·.1)) ∧ Below W0.heap.size W0 X ∧ X.heap[YB]? = some (.cells #[klV W0.heap.size] 81 (0, 0)) ∧ pre.length < 4000 ∧ offK W0.heap.size YB X

/-- A round was left: the list is full. -/
def tFull (W0 : World) (pre : List Ch) (X : World) : Prop := 4000 ≤ pre.length ∧ Below W0.heap.size W0 X ∧ ∃ uv, X.heap[W0.heap.size + 1]? = some (.cells #[uv] 33 (0, 0))

end Go.Proofs.Ytigjnodkpkkdmaa
