import Derived.Test.YthnmjafoplfikaaGreatDoorTurnYM3
namespace Go.Proofs.YthnmjafoplfikaaGreatDoor
open Go.RowKit

def clVals : List Int := [1, 2, 3, 4, 0, 62, 6, 22, 22, 8, 8, 1]
/-- The table of the operators in memory: s + 29 its block, its closures' cells from s + 17 on. -/
def OpsAt (W : World) (s : Nat) : Prop := s + 30 ≤ W.heap.size ∧ (∀ k j, k < 42 → j < 15 → W.cell? ⟨s + 29, k * 15 + j, none⟩ = ((opTable s).getD k [])[j]?) ∧ ∀ i, i < 12 → W.cell? ⟨s + 17 + i, 0, none⟩ = some (.int .i64 (clVals.getD i 0))
theorem OpsAt.kept {W W' : World} {s : Nat} (h : OpsAt W s) (hb : ∀ b, s ≤ b → b < s + 30 → W'.heap[b]? = W.heap[b]?) (hs : W.heap.size ≤ W'.heap.size) : OpsAt W' s :=
  ⟨Nat.le_trans h.1 hs, fun k j hk hj => (World.cell?_of_block (a := ⟨s + 29, k * 15 + j, none⟩) (hb _ (by simp) (by simp))).trans (h.2.1 k j hk hj), fun i hi => (World.cell?_of_block (a := ⟨s + 17 + i, 0, none⟩) (hb _ (by simp; omega) (by simp; omega))).trans (h.2.2 i hi)⟩
theorem OpsAt.bel {W W' : World} {s n : Nat} (h : OpsAt W s) (hB : Below n W W') (hn : s + 30 ≤ n) : OpsAt W' s := h.kept (fun b _ hlt => hB.block b (Nat.lt_of_lt_of_le hlt hn)) hB.size
theorem flat_at : ∀ (l : List (List Value)) (n k j : Nat), (∀ r ∈ l, r.length = n) → k < l.length → j < n → l.flatten[k * n + j]? = (l.getD k [])[j]?
  | [], _, _, _, _, h, _ => by simp at h
  | r :: l, n, 0, j, hn, _, hj => by
    have := hn r (by simp)
    rw [Nat.zero_mul, Nat.zero_add, List.flatten_cons, List.getElem?_append_left (by omega)]
    rfl
  | r :: l, n, k + 1, j, hn, hk, hj => by
    have h0 := hn r (by simp)
    have := flat_at l n k j (fun x hx => hn x (List.mem_cons_of_mem _ hx)) (by simpa using hk) hj
    rw [List.flatten_cons, List.getElem?_append_right (by rw [h0, Nat.succ_mul]; omega), h0, show (k + 1) * n + j - n = k * n + j by rw [Nat.succ_mul]; omega, this]
    rfl
theorem table_rows (s : Nat) : ∀ r ∈ opTable s, r.length = 15 := by
  have h : (opTable s).map List.length = List.replicate 42 15 := by kernel_rfl
  intro r hr
  have : r.length ∈ (opTable s).map List.length := List.mem_map.2 ⟨r, hr, rfl⟩
  rw [h] at this
  exact (List.mem_replicate.1 this).2
theorem stW_below (W : World) : Below W.heap.size W (stW W 8) := (allocs_below lits _ _ (Nat.le_refl _)).trans ((Below.refl _ _).drew.trans (allocs_below _ _ _ (by rw [drew_size, allocs_size]; omega)))
theorem clits7 (s : Nat) : ((clits s).getD 7 (#[], 0)).1.toList = (opTable s).flatten := by kernel_rfl
theorem table_len (s : Nat) : (opTable s).length = 42 := by kernel_rfl
theorem lits_cl : ∀ i, i < 5 → ((lits.getD (17 + i) (#[], 0)).1.toList[0]? : Option Value) = some (.int .i64 (clVals.getD i 0))
  | 0, _ => by kernel_rfl
  | 1, _ => by kernel_rfl
  | 2, _ => by kernel_rfl
  | 3, _ => by kernel_rfl
  | 4, _ => by kernel_rfl
  | i + 5, h => absurd h (by omega)
theorem clits_cl (s : Nat) : ∀ i, i < 7 → (((clits s).getD i (#[], 0)).1.toList[0]? : Option Value) = some (.int .i64 (clVals.getD (i + 5) 0))
  | 0, _ => by kernel_rfl
  | 1, _ => by kernel_rfl
  | 2, _ => by kernel_rfl
  | 3, _ => by kernel_rfl
  | 4, _ => by kernel_rfl
  | 5, _ => by kernel_rfl
  | 6, _ => by kernel_rfl
  | i + 7, h => absurd h (by omega)
theorem stW_ops (W : World) : OpsAt (stW W 8) W.heap.size := by
  have hs : (allocs W lits).drew.heap.size = W.heap.size + 22 := by rw [drew_size, allocs_size]; rfl
  have h1 : Below (allocs W lits).drew.heap.size (allocs W lits).drew (stW W 8) := allocs_below _ _ _ (Nat.le_refl _)
  have hc : ∀ i j, i < 8 → (stW W 8).cell? ⟨W.heap.size + 22 + i, j, none⟩ = ((clits W.heap.size).getD i (#[], 0)).1.toList[j]? := fun i j hi => by
    have hi' : i < ((clits W.heap.size).take 8).length := by rw [List.length_take]; exact Nat.lt_of_lt_of_eq hi rfl
    have := allocs_cell ((clits W.heap.size).take 8) (allocs W lits).drew i j hi'
    rw [hs] at this
    refine this.trans ?_
    rw [List.getElem_take, List.getD_eq_getElem?_getD, List.getElem?_eq_getElem (show i < (clits W.heap.size).length from hi), Option.getD_some]
  refine ⟨by rw [stW_size W (Nat.le_refl _)]; omega, fun k j hk hj => ?_, fun i hi => ?_⟩
  · have := hc 7 (k * 15 + j) (by omega)
    rw [show W.heap.size + 22 + 7 = W.heap.size + 29 by omega, clits7] at this
    exact this.trans (flat_at _ 15 k j (table_rows _) (by rw [table_len]; exact hk) hj)
  · by_cases h5 : i < 5
    · have := stW_lc W 8 (17 + i) 0 (by omega)
      rw [← Nat.add_assoc, lits_cl i h5] at this
      exact this
    · have := hc (i - 5) 0 (by omega)
      rw [show W.heap.size + 22 + (i - 5) = W.heap.size + 17 + i by omega, clits_cl _ (i - 5) (by omega), show i - 5 + 5 = i by omega] at this
      exact this

set_option maxRecDepth 20000 in
set_option maxHeartbeats 2000000 in
theorem operators_any (W : World) : Calls Tryz.prog 72 #[] W fun e W' => e = .returned (.slice (some ⟨W.heap.size + 29, 0, none⟩) 42 42) ∧ Below W.heap.size W W' ∧ OpsAt W' W.heap.size := by
  obtain ⟨R, hR⟩ : ∃ R : Ending → World → Prop, (fun e W' => e = .returned (.slice (some ⟨W.heap.size + 29, 0, none⟩) 42 42) ∧ Below W.heap.size W W' ∧ OpsAt W' W.heap.size) = R := ⟨_, rfl⟩
  have hfin : R (.returned (.slice (some ⟨W.heap.size + 29, 0, none⟩) 42 42)) (stW W 8) := by
    rw [← hR]
    exact ⟨rfl, stW_below W, stW_ops W⟩
  rw [hR]
  clear hR
  go_enter Tryz.func72, Tryz.ntmps72
  go_wp2_with (first | (go_at_call 86; refine (likeFirst_any _ _).mono ?_; rintro e w1 ⟨rfl, rfl⟩) | (go_at_call 87; refine (always_any _ _).mono ?_; rintro e w1 ⟨rfl, rfl⟩) | (go_at_call 88; refine (ofArg_any _ _).mono ?_; rintro e w1 ⟨rfl, rfl⟩))
  refine wp_conv (ops' := opsOf 6 Tryz.f72) (a' := opBeg W.heap.size) (w' := allocs W lits) (by kernel_rfl) (by kernel_rfl) (by kernel_rfl) ?_
  refine ops_region W _ ?_
  rename_i K hK
  refine hK _ _ ?_
  exact wp_ret (bodyPost_ret (a := opFin W.heap.size) (v := .slice (some ⟨W.heap.size + 29, 0, none⟩) 42 42) (by kernel_rfl) (by kernel_rfl) hfin)
end Go.Proofs.YthnmjafoplfikaaGreatDoor
