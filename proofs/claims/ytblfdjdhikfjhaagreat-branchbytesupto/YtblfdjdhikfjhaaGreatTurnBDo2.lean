import Derived.Test.YtblfdjdhikfjhaaGreatJoin18
import Derived.Deep.RegionHeld3
namespace Go.Proofs.YtblfdjdhikfjhaaGreat
open Go.RowKit

/-- Does a step go to the current branch? -/
def Tch (k : Int) : Prop := k = 9 ∨ k = 10 ∨ k = 11 ∨ k = 12 ∨ k = 17
theorem DoP.weaken {lo bb : Nat} {keep : ByteArray} {p q : Prop} {Bs : List Br} {cur : ByteArray} {w w' : World} (h : DoP lo bb keep p Bs cur w w') (hpq : p → q) : DoP lo bb keep q Bs cur w w' := by
  obtain ⟨Bs', cur', h1, h2, h3⟩ := h
  exact ⟨Bs', cur', h1, h2, fun b hb e hq => h3.1 b hb e (fun hp => hq (hpq hp)), h3.2⟩
def opV (k : Int) (o : OpR) : Value := .agg #[.int .i64 k, .int .i64 o.b, .int .i64 o.n, .string o.name, o.inV]

set_option maxRecDepth 4000 in
set_option maxHeartbeats 2000000 in
theorem do_1 (lo bb : Nat) (keep : ByteArray) (Bs : List Br) (cur : ByteArray) (o : OpR) (w : World) (hl : lo ≤ w.heap.size) (hO : OpIn w o) (h : BookAt w lo bb Bs cur) :
    Calls Tryz.prog 11 #[.pointer (some ⟨bb, 0, none⟩), opV 1 o, .string keep] w fun e w' => e = .returned (.tuple #[]) ∧ DoP lo bb keep (Tch 1) Bs cur w w' := by
  obtain ⟨⟨hE, hE1, hE2⟩, hs⟩ := hO
  obtain ⟨ia, ic, ei⟩ := hE.len
  unfold opV
  rw [ei]
  rw [ei] at hE
  obtain ⟨V, hV⟩ : ∃ V, w.alloc (.cells #[.int .i64 1, .int .i64 o.b, .int .i64 o.n, .string o.name, .slice ia o.In.length ic] 37) = V := ⟨_, rfl⟩
  have hb1 : Below w.heap.size w V := by rw [← hV]; exact (Below.refl _ _).alloc (Nat.le_refl _) _
  have hkl : lo ≤ V.heap.size := Nat.le_trans hl hb1.size
  have hk := h.later hb1
  have hD0 : V.heap[w.heap.size]? = some (.cells #[.int .i64 1, .int .i64 o.b, .int .i64 o.n, .string o.name, .slice ia o.In.length ic] 37 (0, 0)) := by rw [← hV]; exact heap_alloc_last w _
  have d0 := cell_of_row _ _ 0 _ _ _ hD0
  have d2 := cell_of_row _ _ 2 _ _ _ hD0
  have d3 := cell_of_row _ _ 3 _ _ _ hD0
  have d4 := cell_of_row _ _ 4 _ _ _ hD0
  simp at d0 d2 d3 d4
  clear hD0
  have hC := fork_do lo bb keep Bs cur o.name hs V hkl hk
  clear h hk hE
  go_enter Tryz.func11, Tryz.ntmps11
  go_wp2_with (go_at_call 15; refine hC.mono ?_; rintro e w2 ⟨⟨n2, rfl⟩, hD⟩)
  go_end0
  exact ⟨rfl, (hD.behind hb1).weaken (by first | exact fun h => h.elim | exact fun _ => by unfold Tch; omega)⟩

set_option maxRecDepth 4000 in
set_option maxHeartbeats 2000000 in
theorem do_2 (lo bb : Nat) (keep : ByteArray) (Bs : List Br) (cur : ByteArray) (o : OpR) (w : World) (hl : lo ≤ w.heap.size) (hO : OpIn w o) (h : BookAt w lo bb Bs cur) :
    Calls Tryz.prog 11 #[.pointer (some ⟨bb, 0, none⟩), opV 2 o, .string keep] w fun e w' => e = .returned (.tuple #[]) ∧ DoP lo bb keep (Tch 2) Bs cur w w' := by
  obtain ⟨⟨hE, hE1, hE2⟩, hs⟩ := hO
  obtain ⟨ia, ic, ei⟩ := hE.len
  unfold opV
  rw [ei]
  rw [ei] at hE
  obtain ⟨V, hV⟩ : ∃ V, w.alloc (.cells #[.int .i64 2, .int .i64 o.b, .int .i64 o.n, .string o.name, .slice ia o.In.length ic] 37) = V := ⟨_, rfl⟩
  have hb1 : Below w.heap.size w V := by rw [← hV]; exact (Below.refl _ _).alloc (Nat.le_refl _) _
  have hkl : lo ≤ V.heap.size := Nat.le_trans hl hb1.size
  have hk := h.later hb1
  have hD0 : V.heap[w.heap.size]? = some (.cells #[.int .i64 2, .int .i64 o.b, .int .i64 o.n, .string o.name, .slice ia o.In.length ic] 37 (0, 0)) := by rw [← hV]; exact heap_alloc_last w _
  have d0 := cell_of_row _ _ 0 _ _ _ hD0
  have d2 := cell_of_row _ _ 2 _ _ _ hD0
  have d3 := cell_of_row _ _ 3 _ _ _ hD0
  have d4 := cell_of_row _ _ 4 _ _ _ hD0
  simp at d0 d2 d3 d4
  clear hD0
  have hC := switch_do lo bb keep Bs cur o.name hs V hkl hk
  clear h hk hE
  go_enter Tryz.func11, Tryz.ntmps11
  go_wp2_with (go_at_call 16; refine hC.mono ?_; rintro e w2 ⟨⟨n2, rfl⟩, hD⟩)
  go_end0
  exact ⟨rfl, (hD.behind hb1).weaken (by first | exact fun h => h.elim | exact fun _ => by unfold Tch; omega)⟩

set_option maxRecDepth 4000 in
set_option maxHeartbeats 2000000 in
theorem do_10 (lo bb : Nat) (keep : ByteArray) (Bs : List Br) (cur : ByteArray) (o : OpR) (w : World) (hl : lo ≤ w.heap.size) (hO : OpIn w o) (h : BookAt w lo bb Bs cur) :
    Calls Tryz.prog 11 #[.pointer (some ⟨bb, 0, none⟩), opV 10 o, .string keep] w fun e w' => e = .returned (.tuple #[]) ∧ DoP lo bb keep (Tch 10) Bs cur w w' := by
  obtain ⟨⟨hE, hE1, hE2⟩, hs⟩ := hO
  obtain ⟨ia, ic, ei⟩ := hE.len
  unfold opV
  rw [ei]
  rw [ei] at hE
  obtain ⟨V, hV⟩ : ∃ V, w.alloc (.cells #[.int .i64 10, .int .i64 o.b, .int .i64 o.n, .string o.name, .slice ia o.In.length ic] 37) = V := ⟨_, rfl⟩
  have hb1 : Below w.heap.size w V := by rw [← hV]; exact (Below.refl _ _).alloc (Nat.le_refl _) _
  have hkl : lo ≤ V.heap.size := Nat.le_trans hl hb1.size
  have hk := h.later hb1
  have hD0 : V.heap[w.heap.size]? = some (.cells #[.int .i64 10, .int .i64 o.b, .int .i64 o.n, .string o.name, .slice ia o.In.length ic] 37 (0, 0)) := by rw [← hV]; exact heap_alloc_last w _
  have d0 := cell_of_row _ _ 0 _ _ _ hD0
  have d2 := cell_of_row _ _ 2 _ _ _ hD0
  have d3 := cell_of_row _ _ 3 _ _ _ hD0
  have d4 := cell_of_row _ _ 4 _ _ _ hD0
  simp at d0 d2 d3 d4
  clear hD0
  have hC := undo_do lo bb keep Bs cur V hkl hk
  clear h hk hE
  go_enter Tryz.func11, Tryz.ntmps11
  go_wp2_with (go_at_call 30; refine hC.mono ?_; rintro e w2 ⟨⟨n2, rfl⟩, hD⟩)
  go_end0
  exact ⟨rfl, (hD.behind hb1).weaken (by first | exact fun h => h.elim | exact fun _ => by unfold Tch; omega)⟩

set_option maxRecDepth 4000 in
set_option maxHeartbeats 2000000 in
theorem do_11 (lo bb : Nat) (keep : ByteArray) (Bs : List Br) (cur : ByteArray) (o : OpR) (w : World) (hl : lo ≤ w.heap.size) (hO : OpIn w o) (h : BookAt w lo bb Bs cur) :
    Calls Tryz.prog 11 #[.pointer (some ⟨bb, 0, none⟩), opV 11 o, .string keep] w fun e w' => e = .returned (.tuple #[]) ∧ DoP lo bb keep (Tch 11) Bs cur w w' := by
  obtain ⟨⟨hE, hE1, hE2⟩, hs⟩ := hO
  obtain ⟨ia, ic, ei⟩ := hE.len
  unfold opV
  rw [ei]
  rw [ei] at hE
  obtain ⟨V, hV⟩ : ∃ V, w.alloc (.cells #[.int .i64 11, .int .i64 o.b, .int .i64 o.n, .string o.name, .slice ia o.In.length ic] 37) = V := ⟨_, rfl⟩
  have hb1 : Below w.heap.size w V := by rw [← hV]; exact (Below.refl _ _).alloc (Nat.le_refl _) _
  have hkl : lo ≤ V.heap.size := Nat.le_trans hl hb1.size
  have hk := h.later hb1
  have hD0 : V.heap[w.heap.size]? = some (.cells #[.int .i64 11, .int .i64 o.b, .int .i64 o.n, .string o.name, .slice ia o.In.length ic] 37 (0, 0)) := by rw [← hV]; exact heap_alloc_last w _
  have d0 := cell_of_row _ _ 0 _ _ _ hD0
  have d2 := cell_of_row _ _ 2 _ _ _ hD0
  have d3 := cell_of_row _ _ 3 _ _ _ hD0
  have d4 := cell_of_row _ _ 4 _ _ _ hD0
  simp at d0 d2 d3 d4
  clear hD0
  have hC := redo_do lo bb keep Bs cur V hkl hk
  clear h hk hE
  go_enter Tryz.func11, Tryz.ntmps11
  go_wp2_with (go_at_call 31; refine hC.mono ?_; rintro e w2 ⟨⟨n2, rfl⟩, hD⟩)
  go_end0
  exact ⟨rfl, (hD.behind hb1).weaken (by first | exact fun h => h.elim | exact fun _ => by unfold Tch; omega)⟩

set_option maxRecDepth 4000 in
set_option maxHeartbeats 2000000 in
theorem do_12 (lo bb : Nat) (keep : ByteArray) (Bs : List Br) (cur : ByteArray) (o : OpR) (w : World) (hl : lo ≤ w.heap.size) (hO : OpIn w o) (h : BookAt w lo bb Bs cur) :
    Calls Tryz.prog 11 #[.pointer (some ⟨bb, 0, none⟩), opV 12 o, .string keep] w fun e w' => e = .returned (.tuple #[]) ∧ DoP lo bb keep (Tch 12) Bs cur w w' := by
  obtain ⟨⟨hE, hE1, hE2⟩, hs⟩ := hO
  obtain ⟨ia, ic, ei⟩ := hE.len
  unfold opV
  rw [ei]
  rw [ei] at hE
  obtain ⟨V, hV⟩ : ∃ V, w.alloc (.cells #[.int .i64 12, .int .i64 o.b, .int .i64 o.n, .string o.name, .slice ia o.In.length ic] 37) = V := ⟨_, rfl⟩
  have hb1 : Below w.heap.size w V := by rw [← hV]; exact (Below.refl _ _).alloc (Nat.le_refl _) _
  have hkl : lo ≤ V.heap.size := Nat.le_trans hl hb1.size
  have hk := h.later hb1
  have hD0 : V.heap[w.heap.size]? = some (.cells #[.int .i64 12, .int .i64 o.b, .int .i64 o.n, .string o.name, .slice ia o.In.length ic] 37 (0, 0)) := by rw [← hV]; exact heap_alloc_last w _
  have d0 := cell_of_row _ _ 0 _ _ _ hD0
  have d2 := cell_of_row _ _ 2 _ _ _ hD0
  have d3 := cell_of_row _ _ 3 _ _ _ hD0
  have d4 := cell_of_row _ _ 4 _ _ _ hD0
  simp at d0 d2 d3 d4
  clear hD0
  have hC := forget_do lo bb keep Bs cur o.n V hkl hk
  clear h hk hE
  go_enter Tryz.func11, Tryz.ntmps11
  go_wp2_with (go_at_call 32; refine hC.mono ?_; rintro e w2 ⟨⟨n2, rfl⟩, hD⟩)
  go_end0
  exact ⟨rfl, (hD.behind hb1).weaken (by first | exact fun h => h.elim | exact fun _ => by unfold Tch; omega)⟩

set_option maxRecDepth 4000 in
set_option maxHeartbeats 2000000 in
theorem do_3 (lo bb : Nat) (keep : ByteArray) (Bs : List Br) (cur : ByteArray) (o : OpR) (hk3 : o.name ≠ keep) (w : World) (hl : lo ≤ w.heap.size) (hO : OpIn w o) (h : BookAt w lo bb Bs cur) :
    Calls Tryz.prog 11 #[.pointer (some ⟨bb, 0, none⟩), opV 3 o, .string keep] w fun e w' => e = .returned (.tuple #[]) ∧ DoP lo bb keep (Tch 3) Bs cur w w' := by
  obtain ⟨⟨hE, hE1, hE2⟩, hs⟩ := hO
  obtain ⟨ia, ic, ei⟩ := hE.len
  unfold opV
  rw [ei]
  rw [ei] at hE
  obtain ⟨V, hV⟩ : ∃ V, w.alloc (.cells #[.int .i64 3, .int .i64 o.b, .int .i64 o.n, .string o.name, .slice ia o.In.length ic] 37) = V := ⟨_, rfl⟩
  have hb1 : Below w.heap.size w V := by rw [← hV]; exact (Below.refl _ _).alloc (Nat.le_refl _) _
  have hkl : lo ≤ V.heap.size := Nat.le_trans hl hb1.size
  have hk := h.later hb1
  have hD0 : V.heap[w.heap.size]? = some (.cells #[.int .i64 3, .int .i64 o.b, .int .i64 o.n, .string o.name, .slice ia o.In.length ic] 37 (0, 0)) := by rw [← hV]; exact heap_alloc_last w _
  have d0 := cell_of_row _ _ 0 _ _ _ hD0
  have d2 := cell_of_row _ _ 2 _ _ _ hD0
  have d3 := cell_of_row _ _ 3 _ _ _ hD0
  have d4 := cell_of_row _ _ 4 _ _ _ hD0
  simp at d0 d2 d3 d4
  clear hD0
  have hC := delete_do lo bb keep Bs cur o.name hs hk3 V hkl hk
  have hne := toL_ne hk3
  clear h hk hE
  go_enter Tryz.func11, Tryz.ntmps11
  go_wp2_with (go_at_call 29; refine hC.mono ?_; rintro e w2 ⟨⟨n2, rfl⟩, hD⟩)
  go_end0
  exact ⟨rfl, (hD.behind hb1).weaken (by first | exact fun h => h.elim | exact fun _ => by unfold Tch; omega)⟩

set_option maxRecDepth 4000 in
set_option maxHeartbeats 2000000 in
theorem do_3k (lo bb : Nat) (keep : ByteArray) (Bs : List Br) (cur : ByteArray) (o : OpR) (hk3 : o.name = keep) (w : World) (hl : lo ≤ w.heap.size) (hO : OpIn w o) (h : BookAt w lo bb Bs cur) :
    Calls Tryz.prog 11 #[.pointer (some ⟨bb, 0, none⟩), opV 3 o, .string keep] w fun e w' => e = .returned (.tuple #[]) ∧ DoP lo bb keep (Tch 3) Bs cur w w' := by
  obtain ⟨⟨hE, hE1, hE2⟩, hs⟩ := hO
  obtain ⟨ia, ic, ei⟩ := hE.len
  unfold opV
  rw [ei]
  rw [ei] at hE
  obtain ⟨V, hV⟩ : ∃ V, w.alloc (.cells #[.int .i64 3, .int .i64 o.b, .int .i64 o.n, .string o.name, .slice ia o.In.length ic] 37) = V := ⟨_, rfl⟩
  have hb1 : Below w.heap.size w V := by rw [← hV]; exact (Below.refl _ _).alloc (Nat.le_refl _) _
  have hkl : lo ≤ V.heap.size := Nat.le_trans hl hb1.size
  have hk := h.later hb1
  have hD0 : V.heap[w.heap.size]? = some (.cells #[.int .i64 3, .int .i64 o.b, .int .i64 o.n, .string o.name, .slice ia o.In.length ic] 37 (0, 0)) := by rw [← hV]; exact heap_alloc_last w _
  have d0 := cell_of_row _ _ 0 _ _ _ hD0
  have d2 := cell_of_row _ _ 2 _ _ _ hD0
  have d3 := cell_of_row _ _ 3 _ _ _ hD0
  have d4 := cell_of_row _ _ 4 _ _ _ hD0
  simp at d0 d2 d3 d4
  clear hD0
  subst hk3
  clear h hE
  go_enter Tryz.func11, Tryz.ntmps11
  go_wp2
  go_end0
  exact ⟨rfl, (DoP.same hk hkl (Below.refl _ _)).behind hb1⟩

set_option maxRecDepth 4000 in
set_option maxHeartbeats 2000000 in
theorem do_other (lo bb : Nat) (keep : ByteArray) (Bs : List Br) (cur : ByteArray) (o : OpR) (k : Int) (hn : k ≠ 1 ∧ k ≠ 2 ∧ k ≠ 3 ∧ k ≠ 9 ∧ k ≠ 10 ∧ k ≠ 11 ∧ k ≠ 12 ∧ k ≠ 17) (w : World) (hl : lo ≤ w.heap.size) (hO : OpIn w o) (h : BookAt w lo bb Bs cur) :
    Calls Tryz.prog 11 #[.pointer (some ⟨bb, 0, none⟩), opV k o, .string keep] w fun e w' => e = .returned (.tuple #[]) ∧ DoP lo bb keep (Tch k) Bs cur w w' := by
  obtain ⟨⟨hE, hE1, hE2⟩, hs⟩ := hO
  obtain ⟨ia, ic, ei⟩ := hE.len
  unfold opV
  rw [ei]
  rw [ei] at hE
  obtain ⟨V, hV⟩ : ∃ V, w.alloc (.cells #[.int .i64 k, .int .i64 o.b, .int .i64 o.n, .string o.name, .slice ia o.In.length ic] 37) = V := ⟨_, rfl⟩
  have hb1 : Below w.heap.size w V := by rw [← hV]; exact (Below.refl _ _).alloc (Nat.le_refl _) _
  have hkl : lo ≤ V.heap.size := Nat.le_trans hl hb1.size
  have hk := h.later hb1
  have hD0 : V.heap[w.heap.size]? = some (.cells #[.int .i64 k, .int .i64 o.b, .int .i64 o.n, .string o.name, .slice ia o.In.length ic] 37 (0, 0)) := by rw [← hV]; exact heap_alloc_last w _
  have d0 := cell_of_row _ _ 0 _ _ _ hD0
  have d2 := cell_of_row _ _ 2 _ _ _ hD0
  have d3 := cell_of_row _ _ 3 _ _ _ hD0
  have d4 := cell_of_row _ _ 4 _ _ _ hD0
  simp at d0 d2 d3 d4
  clear hD0
  obtain ⟨n1, n2, n3, n9, n10, n11, n12, n17⟩ := hn
  replace n1 : (k == 1) = false := beq_eq_false_iff_ne.2 n1
  replace n2 : (k == 2) = false := beq_eq_false_iff_ne.2 n2
  replace n3 : (k == 3) = false := beq_eq_false_iff_ne.2 n3
  replace n9 : (k == 9) = false := beq_eq_false_iff_ne.2 n9
  replace n10 : (k == 10) = false := beq_eq_false_iff_ne.2 n10
  replace n11 : (k == 11) = false := beq_eq_false_iff_ne.2 n11
  replace n12 : (k == 12) = false := beq_eq_false_iff_ne.2 n12
  replace n17 : (k == 17) = false := beq_eq_false_iff_ne.2 n17
  clear h hE
  go_enter Tryz.func11, Tryz.ntmps11
  go_wp2
  go_end0
  exact ⟨rfl, (DoP.same hk hkl (Below.refl _ _)).behind hb1⟩

set_option maxRecDepth 4000 in
set_option maxHeartbeats 2000000 in
theorem do_9 (lo bb : Nat) (keep : ByteArray) (Bs : List Br) (cur : ByteArray) (o : OpR) (w : World) (hl : lo ≤ w.heap.size) (hO : OpIn w o) (h : BookAt w lo bb Bs cur) :
    Calls Tryz.prog 11 #[.pointer (some ⟨bb, 0, none⟩), opV 9 o, .string keep] w fun e w' => e = .returned (.tuple #[]) ∧ DoP lo bb keep (Tch 9) Bs cur w w' := by
  obtain ⟨⟨hE, hE1, hE2⟩, hs⟩ := hO
  obtain ⟨ia, ic, ei⟩ := hE.len
  unfold opV
  rw [ei]
  rw [ei] at hE
  obtain ⟨V, hV⟩ : ∃ V, w.alloc (.cells #[.int .i64 9, .int .i64 o.b, .int .i64 o.n, .string o.name, .slice ia o.In.length ic] 37) = V := ⟨_, rfl⟩
  have hb1 : Below w.heap.size w V := by rw [← hV]; exact (Below.refl _ _).alloc (Nat.le_refl _) _
  have hkl : lo ≤ V.heap.size := Nat.le_trans hl hb1.size
  have hk := h.later hb1
  have hD0 : V.heap[w.heap.size]? = some (.cells #[.int .i64 9, .int .i64 o.b, .int .i64 o.n, .string o.name, .slice ia o.In.length ic] 37 (0, 0)) := by rw [← hV]; exact heap_alloc_last w _
  have d0 := cell_of_row _ _ 0 _ _ _ hD0
  have d2 := cell_of_row _ _ 2 _ _ _ hD0
  have d3 := cell_of_row _ _ 3 _ _ _ hD0
  have d4 := cell_of_row _ _ 4 _ _ _ hD0
  simp at d0 d2 d3 d4
  clear hD0
  have hEV : EntB V (.slice ia o.In.length ic) o.In := EntB.later ⟨hE, hE1, hE2⟩ hb1
  have hBV : Below V.heap.size V V := Below.refl _ _
  have hBD := hBV.drew
  have hS : ∀ X, Below V.heap.size V X → X.cell? ⟨w.heap.size, 4, none⟩ = some (.slice ia o.In.length ic) := fun X hX => (hX.cell (p := ⟨w.heap.size, 4, none⟩) (by rw [← hV]; simp)).trans d4
  have hS1 := hS _ hBD
  clear h hE
  go_enter Tryz.func11, Tryz.ntmps11
  go_wp2
  go_region_with (first
      | (go_at_call 14; refine (empty_any _).mono ?_; rintro e w3 ⟨rfl, hM3, hb3⟩; have hB3 := below_step hBD hb3; have hm3 : MapE w3 _ [] := ⟨_, hM3, rfl⟩; have hS3 := hS _ hB3)
      | (go_at_call 13; refine (mapOf_any _ _ _ o.In _ hm3 (hEV.later hB3)).mono ?_; rintro e w4 ⟨m4, rfl, hm4, hb4⟩; have hB4 := below_step hB3 hb4; have hS4 := hS _ hB4)
      | (go_at_call 17; refine (change_do lo bb keep Bs cur m4 _ _ (Nat.le_trans hkl hB4.size) (hk.later hB4) hm4).mono ?_; rintro e w5 ⟨⟨n5, rfl⟩, hD5⟩))
  all_goals
    go_wp2
    go_end0
    exact ⟨rfl, ((hD5.behind hB4).behind hb1).weaken (fun _ => by unfold Tch; omega)⟩

set_option maxRecDepth 4000 in
set_option maxHeartbeats 2000000 in
theorem do_17 (lo bb : Nat) (keep : ByteArray) (Bs : List Br) (cur : ByteArray) (o : OpR) (w : World) (hl : lo ≤ w.heap.size) (hO : OpIn w o) (h : BookAt w lo bb Bs cur) :
    Calls Tryz.prog 11 #[.pointer (some ⟨bb, 0, none⟩), opV 17 o, .string keep] w fun e w' => e = .returned (.tuple #[]) ∧ DoP lo bb keep (Tch 17) Bs cur w w' := by
  obtain ⟨⟨hE, hE1, hE2⟩, hs⟩ := hO
  obtain ⟨ia, ic, ei⟩ := hE.len
  unfold opV
  rw [ei]
  rw [ei] at hE
  obtain ⟨V, hV⟩ : ∃ V, w.alloc (.cells #[.int .i64 17, .int .i64 o.b, .int .i64 o.n, .string o.name, .slice ia o.In.length ic] 37) = V := ⟨_, rfl⟩
  have hb1 : Below w.heap.size w V := by rw [← hV]; exact (Below.refl _ _).alloc (Nat.le_refl _) _
  have hkl : lo ≤ V.heap.size := Nat.le_trans hl hb1.size
  have hk := h.later hb1
  have hD0 : V.heap[w.heap.size]? = some (.cells #[.int .i64 17, .int .i64 o.b, .int .i64 o.n, .string o.name, .slice ia o.In.length ic] 37 (0, 0)) := by rw [← hV]; exact heap_alloc_last w _
  have d0 := cell_of_row _ _ 0 _ _ _ hD0
  have d2 := cell_of_row _ _ 2 _ _ _ hD0
  have d3 := cell_of_row _ _ 3 _ _ _ hD0
  have d4 := cell_of_row _ _ 4 _ _ _ hD0
  simp at d0 d2 d3 d4
  clear hD0
  obtain ⟨c, hc, rfl⟩ := h.here
  have hEV : EntB V (.slice ia o.In.length ic) o.In := EntB.later ⟨hE, hE1, hE2⟩ hb1
  have hBV : Below V.heap.size V V := Below.refl _ _
  have hBD := hBV.drew
  have hS : ∀ X, Below V.heap.size V X → X.cell? ⟨w.heap.size, 4, none⟩ = some (.slice ia o.In.length ic) := fun X hX => (hX.cell (p := ⟨w.heap.size, 4, none⟩) (by rw [← hV]; simp)).trans d4
  have hS1 := hS _ hBD
  clear h hE
  go_enter Tryz.func11, Tryz.ntmps11
  go_wp2
  go_region_with (first
      | (go_at_call 22; refine (inputs_any lo bb Bs c hc _ (hk.later hBD)).mono ?_; rintro e w3 ⟨m3, rfl, hm3, hb3⟩; have hB3 := below_step hBD hb3; have hS3 := hS _ hB3)
      | (go_at_call 13; refine (mapOf_any _ _ _ o.In _ hm3 (hEV.later hB3)).mono ?_; rintro e w4 ⟨m4, rfl, hm4, hb4⟩; have hB4 := below_step hB3 hb4; have hS4 := hS _ hB4)
      | (go_at_call 17; refine (change_do lo bb keep Bs c.nm m4 _ _ (Nat.le_trans hkl hB4.size) (hk.later hB4) hm4).mono ?_; rintro e w5 ⟨⟨n5, rfl⟩, hD5⟩))
  all_goals
    go_wp2
    go_end0
    exact ⟨rfl, ((hD5.behind hB4).behind hb1).weaken (fun _ => by unfold Tch; omega)⟩

end Go.Proofs.YtblfdjdhikfjhaaGreat
