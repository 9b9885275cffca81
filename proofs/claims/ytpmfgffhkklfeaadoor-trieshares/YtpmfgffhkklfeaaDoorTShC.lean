import Derived.Test.YtpmfgffhkklfeaaDoorTShN
namespace Go.Proofs.YtpmfgffhkklfeaaDoor
open Go.RowKit

theorem sumR_bound {f : Nat → Nat} {K : Nat} : ∀ n, (∀ i, i < n → f i ≤ K) → ((List.range n).map f).sum ≤ n * K
  | 0, _ => by simp
  | n + 1, h => by
    have ih := sumR_bound n (fun i hi => h i (by omega))
    have h1 := h n (by omega)
    rw [List.range_succ, List.map_append, List.sum_append, Nat.succ_mul]
    simp
    omega
theorem cnt_bound : ∀ (n : Nat) {t : Tr}, t.wf n → t.cnt ≤ 17 ^ (n + 1)
  | n, .nil, _ => Nat.zero_le _
  | n, .leaf _ _ _ _ _, h => by
    rw [h.1]
    show 1 ≤ 17 ^ (0 + 1)
    decide
  | 0, .node b kids, h => absurd h.1 (by omega)
  | n + 1, .node b kids, h => by
    have h1 : sum16 (fun i => (kids i).cnt) ≤ 16 * 17 ^ (n + 1) := sumR_bound 16 (fun i hi => cnt_bound n (h.2.1 i hi))
    have h2 : 0 < 17 ^ (n + 1) := Nat.pow_pos (by decide)
    rw [cnt_node, Nat.pow_succ 17 (n + 1)]
    omega
theorem nodes_any : ∀ (n : Nat), n ≤ 7 → ∀ (t : Tr), t.wf n → ∀ w, Lies w t → Calls Tryd.prog 27 #[t.ptr] w fun e w' => e = .returned (.int .i64 (t.cnt : Int)) ∧ Below w.heap.size w w'
  | n, _, .nil, _, w, _ => nodes_nil w
  | n, _, .leaf b s th vk vn, hw, w, h => by
    refine (nodes_at b (fun _ => .pointer none) _ (fun _ => 0) (fun _ => 1) rfl (fun _ _ => rfl) (fun _ _ => by omega) w h.1 (fun i _ W _ => nodes_nil W)).mono ?_
    rintro e w' ⟨rfl, hb⟩
    exact ⟨rfl, hb⟩
  | 0, _, .node b kids, hw, w, h => absurd hw.1 (by omega)
  | n + 1, hn, .node b kids, hw, w, h => by
    have hK : 17 ^ (n + 1) ≤ 17 ^ 8 := Nat.pow_le_pow_right (by decide) (by omega)
    have hb : ∀ i, i ≤ 16 → 1 + ((List.range i).map fun i => (kids i).cnt).sum < 4611686018427387904 := fun i hi => by
      have h1 : ((List.range i).map fun i => (kids i).cnt).sum ≤ i * 17 ^ 8 := sumR_bound i (fun j hj => Nat.le_trans (cnt_bound n (hw.2.1 j (by omega))) hK)
      have h2 : i * 17 ^ 8 ≤ 16 * 17 ^ 8 := Nat.mul_le_mul_right _ hi
      have h3 : 16 * 17 ^ 8 < 4611686018427387903 := by decide
      omega
    refine (nodes_at b (fun i => (kids i).ptr) _ (fun i => (kids i).cnt) (fun i => 1 + ((List.range i).map fun i => (kids i).cnt).sum) rfl (fun i _ => by
      rw [List.range_succ, List.map_append, List.sum_append]
      simp
      omega) hb w h.1 (fun i hi W hW => nodes_any n (by omega) (kids i) (hw.2.1 i hi) W ((h.2 i hi).later hW))).mono ?_
    rintro e w' ⟨rfl, hb⟩
    exact ⟨rfl, hb⟩

end Go.Proofs.YtpmfgffhkklfeaaDoor
