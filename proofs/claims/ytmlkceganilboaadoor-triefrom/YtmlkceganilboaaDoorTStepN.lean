import Derived.Test.YtmlkceganilboaaDoorTStep
namespace Go.Proofs.YtmlkceganilboaaDoor
open Go.RowKit

/-- Behind an entry that is not the next one: it is told to stop. -/
def StepN (W : World) (t : Tr) (e : Ending) (w' : World) : Prop := e = .returned (.bool false) ∧ Lies w' t ∧ Below W.heap.size W w'

theorem step_end {W w' : World} {t : Tr} {mb : Nat} (hM : MapT W mb t) (hb : Below W.heap.size W w') : StepN W t (.returned (.bool false)) w' := ⟨rfl, hM.2.2.2.1.later hb, hb⟩

set_option maxRecDepth 8000 in
set_option maxHeartbeats 2000000 in
theorem step_no (W w : World) (T mb : Nat) (t : Tr) (aa : Option Addr) (ac : Nat) (pa : Option Addr) (pc id : Nat) (stop : Int) (n : Nat) (k : Nat) (x y : Int) (he : ∀ h : n < (t.ents 7 0).length, (t.ents 7 0)[n] ≠ (k, (x, y))) (h : WithinAt W w T mb t aa ac pa pc id stop n false) :
    Calls Tryd.prog 17 #[.pointer (some ⟨T, 0, none⟩), .int .u32 (k : Int), .agg #[.int .i64 x, .int .i64 y]] w (StepN W t) := by
  have hb1 := (Below.refl w.heap.size w).alloc (Nat.le_refl _) (.cells #[.int .i64 x, .int .i64 y] 32)
  have hv := Box2.new w (.int .i64 x) (.int .i64 y) 32
  have h1 := h.later hb1
  have hn0 : (0 : Int) ≤ (n : Int) := by omega
  by_cases hn : n < (t.ents 7 0).length
  · have he := he hn
    obtain ⟨⟨k', x', y'⟩, hent⟩ : ∃ z, (t.ents 7 0)[n] = z := ⟨_, rfl⟩
    obtain ⟨ga, oa, rfl, a0, a1, a2⟩ := ents_cellsF h1.all n hn
    rw [hent] at he a0 a1 a2
    simp only at a0 a1 a2
    have hnd : decide ((t.ents 7 0).length ≤ n) = false := by simpa using hn
    have hn1 : (n : Int) < ((t.ents 7 0).length : Int) := by omega
    clear hent h
    by_cases hk : k' = k
    · subst hk
      have hkk : ((k' : Int) != (k' : Int)) = false := by simp
      have ho : false = true ↔ (x' = x ∧ y' = y) := by
        constructor
        · intro e; cases e
        · rintro ⟨rfl, rfl⟩; exact absurd rfl he
      have hsv := fun (V X : World) (hV : Below V.heap.size V X) => same_VV hV x' y' x y false ho
      clear he ho
      go_enter Tryd.func17, Tryd.ntmps17
      go_wp2_with fail
      obtain ⟨v0, v1, -, -⟩ := hv
      obtain ⟨-, c1, -, -, -, c5, -⟩ := h1.cells
      generalize w.alloc (.cells #[.int .i64 x, .int .i64 y] 32) = V at *
      have hmk : ∀ X, Below V.heap.size V X → X.cell? ⟨T, 1, none⟩ = some (.slice (some ⟨ga, oa, none⟩) (t.ents 7 0).length ac) ∧ X.cell? ⟨T, 5, none⟩ = some (.int .i64 (n : Int)) ∧ X.cell? ⟨ga, oa + n * 3, none⟩ = some (.int .u32 (k' : Int)) ∧ X.cell? ⟨ga, oa + n * 3 + 1, none⟩ = some (.int .i64 x') ∧ X.cell? ⟨ga, oa + n * 3 + 2, none⟩ = some (.int .i64 y') ∧ X.cell? ⟨w.heap.size, 0, none⟩ = some (.int .i64 x) ∧ X.cell? ⟨w.heap.size, 1, none⟩ = some (.int .i64 y) ∧ Below V.heap.size V X := fun X hb => ⟨(hb.cell (World.block_lt_of_cell? _ _ c1)).trans c1, (hb.cell (World.block_lt_of_cell? _ _ c5)).trans c5, (hb.cell (World.block_lt_of_cell? _ _ a0)).trans a0, (hb.cell (World.block_lt_of_cell? _ _ a1)).trans a1, (hb.cell (World.block_lt_of_cell? _ _ a2)).trans a2, (hb.cell (World.block_lt_of_cell? _ _ v0)).trans v0, (hb.cell (World.block_lt_of_cell? _ _ v1)).trans v1, hb⟩
      have hBd := (Below.refl V.heap.size V).drew
      have hS := hmk _ hBd
      clear v0 v1 a0 a1 a2 c1 c5
      go_region_held3 (fun X => X.cell? ⟨T, 1, none⟩ = some (.slice (some ⟨ga, oa, none⟩) (t.ents 7 0).length ac) ∧ X.cell? ⟨T, 5, none⟩ = some (.int .i64 (n : Int)) ∧ X.cell? ⟨ga, oa + n * 3, none⟩ = some (.int .u32 (k' : Int)) ∧ X.cell? ⟨ga, oa + n * 3 + 1, none⟩ = some (.int .i64 x') ∧ X.cell? ⟨ga, oa + n * 3 + 2, none⟩ = some (.int .i64 y') ∧ X.cell? ⟨w.heap.size, 0, none⟩ = some (.int .i64 x) ∧ X.cell? ⟨w.heap.size, 1, none⟩ = some (.int .i64 y) ∧ Below V.heap.size V X) (with_reducible assumption)
        (first | (go_at_call 13; refine (hsv _ _ hBd).mono ?_; rintro e w5 ⟨rfl, hb5⟩; have hS5 := hmk _ hb5))
      have h5 := h1.later hb5
      clear hS5 hmk hS hBd h1 hb5 hb1 hsv
      obtain ⟨-, -, -, -, -, -, c6⟩ := h5.cells
      have f6 := frozen_of_row h5.row 6
      have hE := fun v => step_end (w' := w5.setCell ⟨T, 6, none⟩ v) h5.mapW (h5.below.setCell h5.low _)
      go_wp2
      go_ret
      exact hE _
    · have hkk : ((k' : Int) != (k : Int)) = true := by simp; omega
      clear he
      go_enter Tryd.func17, Tryd.ntmps17
      go_wp2_with fail
      obtain ⟨-, c1, -, -, -, c5, -⟩ := h1.cells
      generalize w.alloc (.cells #[.int .i64 x, .int .i64 y] 32) = V at *
      go_quiet (fail)
      have h5 := h1.later (below_drewN (Below.refl V.heap.size V) nq)
      clear h1 hb1
      generalize V.drewN nq = w5 at *
      obtain ⟨-, -, -, -, -, -, c6⟩ := h5.cells
      have f6 := frozen_of_row h5.row 6
      have hE := fun v => step_end (w' := w5.setCell ⟨T, 6, none⟩ v) h5.mapW (h5.below.setCell h5.low _)
      go_wp2
      go_ret
      exact hE _
  · have hnd : decide ((t.ents 7 0).length ≤ n) = true := by simpa using hn
    clear he h
    go_enter Tryd.func17, Tryd.ntmps17
    go_wp2_with fail
    obtain ⟨-, c1, -, -, -, c5, -⟩ := h1.cells
    generalize w.alloc (.cells #[.int .i64 x, .int .i64 y] 32) = V at *
    go_quiet (fail)
    have h5 := h1.later (below_drewN (Below.refl V.heap.size V) nq)
    clear h1 hb1
    generalize V.drewN nq = w5 at *
    obtain ⟨-, -, -, -, -, -, c6⟩ := h5.cells
    have f6 := frozen_of_row h5.row 6
    have hE := fun v => step_end (w' := w5.setCell ⟨T, 6, none⟩ v) h5.mapW (h5.below.setCell h5.low _)
    go_wp2
    go_ret
    exact hE _

/-- What holds while the iterator is gone through; what holds once it was told to stop: then an entry was none of the list's. -/
def wJ (W : World) (T mb : Nat) (t : Tr) (aa : Option Addr) (ac : Nat) (pa : Option Addr) (pc id : Nat) (stop : Int) (done : List (Nat × (Int × Int))) (X : World) : Prop := done <+: t.ents 7 0 ∧ WithinAt W X T mb t aa ac pa pc id stop done.length false
def wX (W : World) (t : Tr) (done : List (Nat × (Int × Int))) (X : World) : Prop := ¬ done <+: t.ents 7 0 ∧ Lies X t ∧ Below W.heap.size W X

theorem prefix_snoc {α : Type} {d L : List α} {e : α} (h : d <+: L) (hn : d.length < L.length) (he : L[d.length] = e) : d ++ [e] <+: L := by
  have h1 := List.prefix_iff_eq_take.1 h
  have h2 : L.take (d.length + 1) = d ++ [e] := by rw [List.take_succ_eq_append_getElem hn, he, ← h1]
  rw [← h2]
  exact List.take_prefix _ _
theorem prefix_snoc_inv {α : Type} {d L : List α} {e : α} (h : d ++ [e] <+: L) : ∃ hn : d.length < L.length, L[d.length] = e := by
  obtain ⟨s, hs⟩ := h
  have hl : d.length < L.length := by rw [← hs]; simp
  refine ⟨hl, ?_⟩
  subst hs
  simp

theorem takes_step (W : World) (T mb : Nat) (t : Tr) (hl : (t.ents 7 0).length ≤ 5000) (aa : Option Addr) (ac : Nat) (pa : Option Addr) (pc id : Nat) (hid : id < 4294967296) (stop : Int) : Takes 17 ⟨T, 0, none⟩ t (wJ W T mb t aa ac pa pc id stop) (wX W t) where
  lies := fun _ _ hJ => hJ.2.map.2.2.2.1
  liesx := fun _ _ hJ => hJ.2.1
  draw := fun _ X n hJ => ⟨hJ.1, hJ.2.later (below_drewN (Below.refl _ _) n)⟩
  call := fun done X k x y hk hJ => by
    obtain ⟨h1, h2⟩ := hJ
    by_cases hm : ∃ hn : done.length < (t.ents 7 0).length, (t.ents 7 0)[done.length] = (k, (x, y))
    · obtain ⟨hn, he⟩ := hm
      refine (step_yes W X T mb t aa ac pa pc id hid stop done.length hl hn k hk x y he h2).mono ?_
      rintro e X' ⟨rfl, h3⟩
      exact ⟨true, rfl, fun _ => ⟨prefix_snoc h1 hn he, by rw [List.length_append]; exact h3⟩, fun e => (by cases e)⟩
    · refine (step_no W X T mb t aa ac pa pc id stop done.length k x y (fun hn he => hm ⟨hn, he⟩) h2).mono ?_
      rintro e X' ⟨rfl, h3, h4⟩
      exact ⟨false, rfl, fun e => (by cases e), fun _ => ⟨fun hp => hm (prefix_snoc_inv hp), h3, h4⟩⟩

end Go.Proofs.YtmlkceganilboaaDoor
