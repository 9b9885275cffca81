import Derived.Test.YtpmfgffhkklfeaaDoorTShS
namespace Go.Proofs.YtpmfgffhkklfeaaDoor
open Go.RowKit

theorem sme_none (t : Tr) : t.sme .nil = 0 := by
  have h := sme_frs t .nil
  rw [frs_none t .nil rfl] at h
  omega
theorem lies_node {W : World} {t : Tr} {b : Nat} (h : Lies W t) (hb : t.blk = some b) : ∃ sv, NodeAt W b (fun i => (t.kid i).ptr) sv := by
  cases t with
  | nil => cases hb
  | node c kids => obtain rfl : c = b := Option.some.inj hb; exact ⟨_, h.1⟩
  | leaf c s th vk vn => obtain rfl : c = b := Option.some.inj hb; exact ⟨_, h.1⟩
theorem blk_ptr {t : Tr} {b : Nat} (h : t.blk = some b) : t.ptr = .pointer (some ⟨b, 0, none⟩) := by
  cases t with
  | nil => cases h
  | node c kids => obtain rfl : c = b := Option.some.inj h; rfl
  | leaf c s th vk vn => obtain rfl : c = b := Option.some.inj h; rfl
theorem sme_cases {t a : Tr} (h : a.blk ≠ t.blk) : t.sme a = sum16 fun i => (t.kid i).sme (a.kid i) := by
  cases t with
  | nil => exact (sum16_zero (fun i _ => rfl)).symm
  | node b kids =>
    have h' : ¬ a.blk = some b := h
    rw [sme_node, if_neg h']
    rfl
  | leaf b s th vk vn =>
    have h' : ¬ a.blk = some b := h
    show (if a.blk = some b then 1 else 0) = _
    rw [if_neg h']
    exact (sum16_zero (fun i _ => rfl)).symm
theorem cnt_le (t a : Tr) : t.sme a ≤ t.cnt ∧ t.frs a ≤ t.cnt := by
  have := sme_frs t a
  omega
theorem wf_kid' {t : Tr} {n : Nat} (h : t.wf n) {i : Nat} (hi : i < 16) : (t.kid i).wf (n - 1) := by
  cases t with
  | nil => trivial
  | node b kids => exact h.2.1 i hi
  | leaf => trivial
theorem shared_down : ∀ (N n : Nat), n ≤ 7 → ∀ (b a : Tr), b.cnt ≤ N → b.wf n → ∀ w, Lies w b → Lies w a → Calls Tryd.prog 20 #[a.ptr, b.ptr] w fun e w' => e = .returned (.tuple #[.int .i64 (b.sme a : Int), .int .i64 (b.frs a : Int)]) ∧ Below w.heap.size w w' := by
  intro N
  induction N with
  | zero =>
    intro n _ b a hN _ w _ _
    rw [cnt_zero.1 (Nat.le_zero.1 hN)]
    obtain ⟨u, hu⟩ := ptr_pointer a
    rw [hu]
    exact shared_nil u w
  | succ N ih =>
    intro n hn b a hN hw w hb ha
    cases eb : b.blk with
    | none =>
      rw [blk_none eb]
      obtain ⟨u, hu⟩ := ptr_pointer a
      rw [hu]
      exact shared_nil u w
    | some c =>
      have hnod := fun W (hW : Below w.heap.size w W) => nodes_any n hn b hw W (hb.later hW)
      rw [blk_ptr eb] at hnod ⊢
      cases ea : a.blk with
      | none =>
        rw [blk_none ea, sme_none, frs_none b .nil rfl]
        exact shared_new c b.cnt w hnod
      | some c' =>
        rw [blk_ptr ea]
        by_cases hcc : c' = c
        · subst hcc
          have e0 : b.frs a = 0 := by rw [frs_cases, if_pos (.inr (ea.trans eb.symm))]
          have e1 : b.sme a = b.cnt := by
            have := sme_frs b a
            omega
          rw [e0, e1]
          exact shared_same c' b.cnt w hnod
        · obtain ⟨sa, hA⟩ := lies_node ha ea
          obtain ⟨sv, hB⟩ := lies_node hb eb
          have hne : a.blk ≠ b.blk := by rw [ea, eb]; exact fun e => hcc (Option.some.inj e)
          have hK : ∀ i, i < 16 → (b.kid i).cnt ≤ 17 ^ 8 := fun i hi => Nat.le_trans (cnt_bound _ (wf_kid' hw hi)) (Nat.pow_le_pow_right (by decide) (by omega))
          have hbd : ∀ i, i ≤ 16 → ((List.range i).map fun i => (b.kid i).sme (a.kid i)).sum < 4611686018427387904 ∧ 1 + ((List.range i).map fun i => (b.kid i).frs (a.kid i)).sum < 4611686018427387904 := fun i hi => by
            have h1 : ((List.range i).map fun i => (b.kid i).sme (a.kid i)).sum ≤ i * 17 ^ 8 := sumR_bound i (fun j hj => Nat.le_trans (cnt_le _ _).1 (hK j (by omega)))
            have h4 : ((List.range i).map fun i => (b.kid i).frs (a.kid i)).sum ≤ i * 17 ^ 8 := sumR_bound i (fun j hj => Nat.le_trans (cnt_le _ _).2 (hK j (by omega)))
            have h2 : i * 17 ^ 8 ≤ 16 * 17 ^ 8 := Nat.mul_le_mul_right _ hi
            have h3 : 16 * 17 ^ 8 < 4611686018427387903 := by decide
            omega
          have e1 := sme_cases hne
          have e2 : b.frs a = 1 + sum16 fun i => (b.kid i).frs (a.kid i) := by
            rw [frs_cases, if_neg (by rintro (h | h); rw [eb] at h; cases h; exact hne h)]
          rw [e1, e2]
          refine (shared_at c' c hcc (fun i => (a.kid i).ptr) (fun i => (b.kid i).ptr) sa sv (fun i => (b.kid i).sme (a.kid i)) (fun i => (b.kid i).frs (a.kid i)) (fun i => ((List.range i).map fun i => (b.kid i).sme (a.kid i)).sum) (fun i => 1 + ((List.range i).map fun i => (b.kid i).frs (a.kid i)).sum) rfl rfl
            (fun i _ => by rw [List.range_succ, List.map_append, List.sum_append]; simp)
            (fun i _ => by rw [List.range_succ, List.map_append, List.sum_append]; simp; omega) hbd w hA hB (fun i hi W hW => ?_)).mono ?_
          · rcases kid_cnt b i hi with h | h
            · exact ih (n - 1) (by omega) _ _ (by omega) (wf_kid' hw hi) W ((hb.kid hi).later hW) ((ha.kid hi).later hW)
            · have : b.kid i = .nil := h
              rw [this]
              obtain ⟨u, hu⟩ := ptr_pointer (a.kid i)
              rw [hu]
              exact shared_nil u W
          · rintro e w' ⟨rfl, hb'⟩
            exact ⟨rfl, hb'⟩
/-- What shared tells of two trees. -/
theorem shared_any (b a : Tr) (hw : b.wf 7) (w : World) (hb : Lies w b) (ha : Lies w a) : Calls Tryd.prog 20 #[a.ptr, b.ptr] w fun e w' => e = .returned (.tuple #[.int .i64 (b.sme a : Int), .int .i64 (b.frs a : Int)]) ∧ Below w.heap.size w w' :=
  shared_down b.cnt 7 (Nat.le_refl _) b a (Nat.le_refl _) hw w hb ha

end Go.Proofs.YtpmfgffhkklfeaaDoor
