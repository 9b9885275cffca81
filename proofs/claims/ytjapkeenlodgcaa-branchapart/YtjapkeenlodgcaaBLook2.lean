import Derived.Test.YtjapkeenlodgcaaBLook
namespace Go.Proofs.Ytjapkeenlodgcaa
open Go.RowKit

def NoLook (w : World) (e : Ending) (w' : World) : Prop := e = .returned (.agg #[.bool false, .slice none 0 0, .slice none 0 0, .int .i64 0, .int .i64 0, .slice none 0 0]) ∧ Below w.heap.size w w'
set_option maxRecDepth 8000 in
set_option maxHeartbeats 8000000 in
theorem blook_none (lo bb : Nat) (Bs : List Br) (cur s : ByteArray) (hs : s.size ≤ maxLen) (hn : ∀ b ∈ Bs, b.nm ≠ s) (most : Int) (w : World) (h : BookAt w lo bb Bs cur) :
    Calls Try.prog 8 #[.pointer (some ⟨bb, 0, none⟩), .string s, .int .i64 most] w (NoLook w) := by
  obtain ⟨RW, hRW⟩ : ∃ RW, w.alloc (.cells #[.bool false, .slice none 0 0, .slice none 0 0, .int .i64 0, .int .i64 0, .slice none 0 0] 30) = RW := ⟨_, rfl⟩
  have hb0 : Below w.heap.size w RW := by rw [← hRW]; exact (Below.refl _ _).alloc (Nat.le_refl _) _
  have hr0 := heap_alloc_last w (.cells #[.bool false, .slice none 0 0, .slice none 0 0, .int .i64 0, .int .i64 0, .slice none 0 0] 30)
  rw [hRW] at hr0
  go_enter Try.func8, Try.ntmps8
  go_wp2_with (go_at_call 26; fail)
  refine (bclone_any lo bb Bs cur RW (h.later hb0)).mono ?_
  rintro e w1 ⟨bc, Cs, rfl, hB1, -, hf, hb1⟩
  have hB1w := below_step hb0 hb1
  have hr1 := (hb1.block w.heap.size (Array.getElem?_eq_some_iff.1 hr0).1).trans hr0
  have hnc : ∀ c ∈ Cs, c.nm ≠ s := fun c hc e => by
    obtain ⟨b, hb, hS⟩ := hf c hc
    exact hn b hb (hS.1 ▸ e)
  clear hf h hRW hr0 hb0 hb1 hn
  go_wp2_with (go_at_call 24; fail)
  refine (switch_none _ bc Cs cur s hs hnc w1 hB1).mono ?_
  rintro e u1 ⟨rfl, rfl⟩
  clear hB1 hnc
  have r0 := hr1
  have z0 := cell_of_row _ _ 0 _ _ _ r0
  have f0 := frozen_of_row r0 0
  have r1 := heap_setCell_same u1 w.heap.size 0 _ _ (.bool false) r0
  have q0 := grown_set u1 w.heap.size 0 (.bool false)
  obtain ⟨Y1, E1⟩ : ∃ Z, u1.setCell ⟨w.heap.size, 0, none⟩ (.bool false) = Z := ⟨_, rfl⟩
  rw [E1] at r1 q0
  have z1 := cell_of_row _ _ 1 _ _ _ r1
  have f1 := frozen_of_row r1 1
  have r2 := heap_setCell_same Y1 w.heap.size 1 _ _ (.slice none 0 0) r1
  have q1 := grown_set Y1 w.heap.size 1 (.slice none 0 0)
  obtain ⟨Y2, E2⟩ : ∃ Z, Y1.setCell ⟨w.heap.size, 1, none⟩ (.slice none 0 0) = Z := ⟨_, rfl⟩
  rw [E2] at r2 q1
  have z2 := cell_of_row _ _ 2 _ _ _ r2
  have f2 := frozen_of_row r2 2
  have r3 := heap_setCell_same Y2 w.heap.size 2 _ _ (.slice none 0 0) r2
  have q2 := grown_set Y2 w.heap.size 2 (.slice none 0 0)
  obtain ⟨Y3, E3⟩ : ∃ Z, Y2.setCell ⟨w.heap.size, 2, none⟩ (.slice none 0 0) = Z := ⟨_, rfl⟩
  rw [E3] at r3 q2
  have z3 := cell_of_row _ _ 3 _ _ _ r3
  have f3 := frozen_of_row r3 3
  have r4 := heap_setCell_same Y3 w.heap.size 3 _ _ (.int .i64 0) r3
  have q3 := grown_set Y3 w.heap.size 3 (.int .i64 0)
  obtain ⟨Y4, E4⟩ : ∃ Z, Y3.setCell ⟨w.heap.size, 3, none⟩ (.int .i64 0) = Z := ⟨_, rfl⟩
  rw [E4] at r4 q3
  have z4 := cell_of_row _ _ 4 _ _ _ r4
  have f4 := frozen_of_row r4 4
  have r5 := heap_setCell_same Y4 w.heap.size 4 _ _ (.int .i64 0) r4
  have q4 := grown_set Y4 w.heap.size 4 (.int .i64 0)
  obtain ⟨Y5, E5⟩ : ∃ Z, Y4.setCell ⟨w.heap.size, 4, none⟩ (.int .i64 0) = Z := ⟨_, rfl⟩
  rw [E5] at r5 q4
  have z5 := cell_of_row _ _ 5 _ _ _ r5
  have f5 := frozen_of_row r5 5
  have r6 := heap_setCell_same Y5 w.heap.size 5 _ _ (.slice none 0 0) r5
  have q5 := grown_set Y5 w.heap.size 5 (.slice none 0 0)
  obtain ⟨Y6, E6⟩ : ∃ Z, Y5.setCell ⟨w.heap.size, 5, none⟩ (.slice none 0 0) = Z := ⟨_, rfl⟩
  rw [E6] at r6 q5
  have t0 : Y6.cell? ⟨w.heap.size, 0, none⟩ = some (.bool false) := cell_of_row _ _ 0 _ _ _ r6
  have t1 : Y6.cell? ⟨w.heap.size, 1, none⟩ = some (.slice none 0 0) := cell_of_row _ _ 1 _ _ _ r6
  have t2 : Y6.cell? ⟨w.heap.size, 2, none⟩ = some (.slice none 0 0) := cell_of_row _ _ 2 _ _ _ r6
  have t3 : Y6.cell? ⟨w.heap.size, 3, none⟩ = some (.int .i64 0) := cell_of_row _ _ 3 _ _ _ r6
  have t4 : Y6.cell? ⟨w.heap.size, 4, none⟩ = some (.int .i64 0) := cell_of_row _ _ 4 _ _ _ r6
  have t5 : Y6.cell? ⟨w.heap.size, 5, none⟩ = some (.slice none 0 0) := cell_of_row _ _ 5 _ _ _ r6
  simp at z0 z1 z2 z3 z4 z5
  have hgA := ((((q0.trans q1).trans q2).trans q3).trans q4).trans q5
  have hBy : Below w.heap.size w Y6 := hB1w.grown hgA hB1w.size (fun k hk => by cases hk; exact Nat.le_refl _)
  clear r0 r1 r2 r3 r4 r5 r6 q0 q1 q2 q3 q4 q5 hgA hr1
  go_wp2
  exact bodyPost_ret (v := .agg #[.bool false, .slice none 0 0, .slice none 0 0, .int .i64 0, .int .i64 0, .slice none 0 0]) (by simp [results, Try.results8, go_sem, t0, t1, t2, t3, t4, t5]) rfl ⟨rfl, hBy⟩

end Go.Proofs.Ytjapkeenlodgcaa
