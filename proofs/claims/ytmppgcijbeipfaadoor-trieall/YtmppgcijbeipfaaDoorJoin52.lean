import Derived.Test.YtmppgcijbeipfaaDoorJoin47
import Derived.Deep.RegionHeld3
import Derived.Deep.DeepCutAuto
import Derived.Deep.CutBlock
import Derived.Deep.QuietTactic
import Derived.BigQuiet
import Derived.Test.YtmppgcijbeipfaaDoorJoin51
import Derived.Test.YtmppgcijbeipfaaDoorTMap
import Derived.Test.YtmppgcijbeipfaaDoorJoin48
import Derived.Test.YtmppgcijbeipfaaDoorRsShr
import Derived.Test.YtmppgcijbeipfaaDoorTTake
import Derived.Test.YtmppgcijbeipfaaDoorRfNew
namespace Go.Proofs.YtmppgcijbeipfaaDoor
open Go.RowKit

theorem nodes_nil (w : World) : Calls Tryd.prog 53 #[.pointer none] w fun e w' => e = .returned (.int .i64 0) ∧ Below w.heap.size w w' := by
  go_enter Tryd.func53, Tryd.ntmps53
  go_wp2_with fail
  go_ret
  exact ⟨rfl, Below.refl _ _⟩

theorem idx16 (pv : Nat → Value) : ∀ j : Nat, j < 16 → ∀ W : World, (Instr.index 79 (.agg ((List.range 16).map pv).toArray) (.int .i64 (j : Int))).run Tryd.prog W = .ok (pv j) W
  | 0, _, W => by kernel_rfl
  | 1, _, W => by kernel_rfl
  | 2, _, W => by kernel_rfl
  | 3, _, W => by kernel_rfl
  | 4, _, W => by kernel_rfl
  | 5, _, W => by kernel_rfl
  | 6, _, W => by kernel_rfl
  | 7, _, W => by kernel_rfl
  | 8, _, W => by kernel_rfl
  | 9, _, W => by kernel_rfl
  | 10, _, W => by kernel_rfl
  | 11, _, W => by kernel_rfl
  | 12, _, W => by kernel_rfl
  | 13, _, W => by kernel_rfl
  | 14, _, W => by kernel_rfl
  | 15, _, W => by kernel_rfl
  | n + 16, h, _ => absurd h (by omega)

set_option maxRecDepth 4000 in
set_option maxHeartbeats 1000000 in
theorem nodes_at (b : Nat) (pv : Nat → Value) (sv : Value) (c s : Nat → Nat) (hs0 : s 0 = 1) (hs : ∀ i, i < 16 → s (i + 1) = s i + c i) (hb : ∀ i, i ≤ 16 → s i < 4611686018427387904) (w : World) (h : NodeAt w b pv sv)
    (hk : ∀ i, i < 16 → ∀ W, Below w.heap.size w W → Calls Tryd.prog 53 #[pv i] W fun e w' => e = .returned (.int .i64 (c i : Int)) ∧ Below W.heap.size W w') :
    Calls Tryd.prog 53 #[.pointer (some ⟨b, 0, none⟩)] w fun e w' => e = .returned (.int .i64 (s 16 : Int)) ∧ Below w.heap.size w w' := by
  go_enter Tryd.func53, Tryd.ntmps53
  obtain ⟨A, hA, hlen, hrange⟩ : ∃ A : List Value, (∀ j : Nat, j < 16 → ∀ W : World, (Instr.index 79 (.agg A.toArray) (.int .i64 (j : Int))).run Tryd.prog W = .ok (pv j) W) ∧ A.length = 16 ∧ w.rangeAt b 0 A := ⟨(List.range 16).map pv, idx16 pv, by simp, fun j v hv => by
    have hj : j < 16 := by
      have := (List.getElem?_eq_some_iff.1 hv).1
      simpa using this
    have hv' : v = pv j := by
      simp [hj] at hv
      exact hv.symm
    rw [hv', Nat.zero_add]
    exact h.kid hj⟩
  have hinfo : (Tryd.prog.info? 79).map (·.size) = some A.length := by rw [hlen]; kernel_rfl
  have hlenI : (A.toArray.size : Int) = 16 := by simp [hlen]
  go_upto_block 0 with (refine wpList_load_mid rfl 79 _ rfl b 0 rfl A _ hrange Tryd.underlying79 rfl hinfo ?_)
  go_wp2_with fail
  go_loopw [3, 12] (fun cv iv W => ∃ j : Nat, j ≤ 16 ∧ iv = .int .i64 j ∧ cv = .int .i64 (s j : Int) ∧ Below w.heap.size w W) (fun _ i _ => 16 - (intOf i).toNat)
  case atStart => exact ⟨0, by omega, rfl, by rw [hs0]; rfl, Below.refl _ _⟩
  case round =>
    obtain ⟨j, hj, rfl, rfl, hB⟩ := hrel
    by_cases hlt : j < 16
    · have hlt' : (j : Int) < 16 := by omega
      have hj0 : (0 : Int) ≤ (j : Int) := by omega
      have hAj := hA j hlt
      have hkj := hk j hlt
      have h1 := hs j hlt
      have h2 := hb (j + 1) (by omega)
      have h3 := hb j (by omega)
      go_wp2_with (first | (go_at_call 53; refine (hkj _ hB).mono ?_; rintro e w1 ⟨rfl, hb1⟩))
      go_roundw
      case rel => exact ⟨j + 1, by omega, by go_num, by rw [h1]; go_num, below_step hB hb1⟩
      case measure => simp [intOf]; omega
    · obtain rfl : j = 16 := by omega
      go_wp2_with fail
      go_ret
      exact ⟨rfl, hB⟩

end Go.Proofs.YtmppgcijbeipfaaDoor


namespace Go.Proofs.YtmppgcijbeipfaaDoor
open Go.RowKit

theorem sumR_bound {f : Nat → Nat} {K : Nat} : ∀ n, (∀ i, i < n → f i ≤ K) → ((List.range n).map f).sum ≤ n * K
  | 0, _ => by simp
  | n + 1, h => by
    have ih := sumR_bound n (fun i hi => h i (by omega))
    have h1 := h n (by omega)
    rw [List.range_succ, List.map_append, List.sum_append, Nat.succ_mul]
    simp
    omega
theorem cnt_bound : ∀ (n : Nat) {t : Tr}, t.wf n → t.cnt ≤ 17 ^ (n + 1)
  | n, .nil, _ => Nat.zero_le _
  | n, .leaf _ _ _ _ _, h => by
    rw [h.1]
    show 1 ≤ 17 ^ (0 + 1)
    decide
  | 0, .node b kids, h => absurd h.1 (by omega)
  | n + 1, .node b kids, h => by
    have h1 : sum16 (fun i => (kids i).cnt) ≤ 16 * 17 ^ (n + 1) := sumR_bound 16 (fun i hi => cnt_bound n (h.2.1 i hi))
    have h2 : 0 < 17 ^ (n + 1) := Nat.pow_pos (by decide)
    rw [cnt_node, Nat.pow_succ 17 (n + 1)]
    omega
theorem nodes_any : ∀ (n : Nat), n ≤ 7 → ∀ (t : Tr), t.wf n → ∀ w, Lies w t → Calls Tryd.prog 53 #[t.ptr] w fun e w' => e = .returned (.int .i64 (t.cnt : Int)) ∧ Below w.heap.size w w'
  | n, _, .nil, _, w, _ => nodes_nil w
  | n, _, .leaf b s th vk vn, hw, w, h => by
    refine (nodes_at b (fun _ => .pointer none) _ (fun _ => 0) (fun _ => 1) rfl (fun _ _ => rfl) (fun _ _ => by omega) w h.1 (fun i _ W _ => nodes_nil W)).mono ?_
    rintro e w' ⟨rfl, hb⟩
    exact ⟨rfl, hb⟩
  | 0, _, .node b kids, hw, w, h => absurd hw.1 (by omega)
  | n + 1, hn, .node b kids, hw, w, h => by
    have hK : 17 ^ (n + 1) ≤ 17 ^ 8 := Nat.pow_le_pow_right (by decide) (by omega)
    have hb : ∀ i, i ≤ 16 → 1 + ((List.range i).map fun i => (kids i).cnt).sum < 4611686018427387904 := fun i hi => by
      have h1 : ((List.range i).map fun i => (kids i).cnt).sum ≤ i * 17 ^ 8 := sumR_bound i (fun j hj => Nat.le_trans (cnt_bound n (hw.2.1 j (by omega))) hK)
      have h2 : i * 17 ^ 8 ≤ 16 * 17 ^ 8 := Nat.mul_le_mul_right _ hi
      have h3 : 16 * 17 ^ 8 < 4611686018427387903 := by decide
      omega
    refine (nodes_at b (fun i => (kids i).ptr) _ (fun i => (kids i).cnt) (fun i => 1 + ((List.range i).map fun i => (kids i).cnt).sum) rfl (fun i _ => by
      rw [List.range_succ, List.map_append, List.sum_append]
      simp
      omega) hb w h.1 (fun i hi W hW => nodes_any n (by omega) (kids i) (hw.2.1 i hi) W ((h.2 i hi).later hW))).mono ?_
    rintro e w' ⟨rfl, hb⟩
    exact ⟨rfl, hb⟩

end Go.Proofs.YtmppgcijbeipfaaDoor


namespace Go.Proofs.YtmppgcijbeipfaaDoor
open Go.RowKit

theorem shared_nil (u : Option Addr) (w : World) : Calls Tryd.prog 42 #[.pointer u, .pointer none] w fun e w' => e = .returned (.tuple #[.int .i64 0, .int .i64 0]) ∧ Below w.heap.size w w' := by
  go_enter Tryd.func42, Tryd.ntmps42
  go_wp2_with fail
  exact bodyPost_ret (v := .tuple #[.int .i64 0, .int .i64 0]) (by simp [results, Tryd.results42, go_sem]) rfl ⟨rfl, Below.refl _ _⟩
theorem shared_new (b : Nat) (c : Nat) (w : World) (hk : ∀ W, Below w.heap.size w W → Calls Tryd.prog 53 #[.pointer (some ⟨b, 0, none⟩)] W fun e w' => e = .returned (.int .i64 (c : Int)) ∧ Below W.heap.size W w') : Calls Tryd.prog 42 #[.pointer none, .pointer (some ⟨b, 0, none⟩)] w fun e w' => e = .returned (.tuple #[.int .i64 0, .int .i64 (c : Int)]) ∧ Below w.heap.size w w' := by
  go_enter Tryd.func42, Tryd.ntmps42
  go_wp2_with (go_at_call 53; refine (hk _ (Below.refl _ _)).mono ?_; rintro e w1 ⟨rfl, hb1⟩)
  exact bodyPost_ret (v := .tuple #[.int .i64 0, .int .i64 (c : Int)]) (by simp [results, Tryd.results42, go_sem]) rfl ⟨rfl, hb1⟩
theorem shared_same (b : Nat) (c : Nat) (w : World) (hk : ∀ W, Below w.heap.size w W → Calls Tryd.prog 53 #[.pointer (some ⟨b, 0, none⟩)] W fun e w' => e = .returned (.int .i64 (c : Int)) ∧ Below W.heap.size W w') : Calls Tryd.prog 42 #[.pointer (some ⟨b, 0, none⟩), .pointer (some ⟨b, 0, none⟩)] w fun e w' => e = .returned (.tuple #[.int .i64 (c : Int), .int .i64 0]) ∧ Below w.heap.size w w' := by
  have hq := eql_same w ⟨b, 0, none⟩
  go_enter Tryd.func42, Tryd.ntmps42
  go_wp2_with (go_at_call 53; refine (hk _ (Below.refl _ _)).mono ?_; rintro e w1 ⟨rfl, hb1⟩)
  exact bodyPost_ret (v := .tuple #[.int .i64 (c : Int), .int .i64 0]) (by simp [results, Tryd.results42, go_sem]) rfl ⟨rfl, hb1⟩

set_option maxRecDepth 4000 in
set_option maxHeartbeats 1000000 in
theorem shared_at (a b : Nat) (hab : a ≠ b) (qv pv : Nat → Value) (sa sv : Value) (c d s f : Nat → Nat) (hs0 : s 0 = 0) (hf0 : f 0 = 1) (hs : ∀ i, i < 16 → s (i + 1) = s i + c i) (hf : ∀ i, i < 16 → f (i + 1) = f i + d i) (hb : ∀ i, i ≤ 16 → s i < 4611686018427387904 ∧ f i < 4611686018427387904) (w : World) (ha : NodeAt w a qv sa) (h : NodeAt w b pv sv)
    (hk : ∀ i, i < 16 → ∀ W, Below w.heap.size w W → Calls Tryd.prog 42 #[qv i, pv i] W fun e w' => e = .returned (.tuple #[.int .i64 (c i : Int), .int .i64 (d i : Int)]) ∧ Below W.heap.size W w') :
    Calls Tryd.prog 42 #[.pointer (some ⟨a, 0, none⟩), .pointer (some ⟨b, 0, none⟩)] w fun e w' => e = .returned (.tuple #[.int .i64 (s 16 : Int), .int .i64 (f 16 : Int)]) ∧ Below w.heap.size w w' := by
  have hq := eql_other w a b hab ha h
  go_enter Tryd.func42, Tryd.ntmps42
  obtain ⟨A, hA, hlen, hrange⟩ : ∃ A : List Value, (∀ j : Nat, j < 16 → ∀ W : World, (Instr.index 79 (.agg A.toArray) (.int .i64 (j : Int))).run Tryd.prog W = .ok (pv j) W) ∧ A.length = 16 ∧ w.rangeAt b 0 A := ⟨(List.range 16).map pv, idx16 pv, by simp, fun j v hv => by
    have hj : j < 16 := by
      have := (List.getElem?_eq_some_iff.1 hv).1
      simpa using this
    have hv' : v = pv j := by
      simp [hj] at hv
      exact hv.symm
    rw [hv', Nat.zero_add]
    exact h.kid hj⟩
  have hinfo : (Tryd.prog.info? 79).map (·.size) = some A.length := by rw [hlen]; kernel_rfl
  go_wp2_with (refine wpList_load_mid rfl 79 _ rfl b 0 rfl A _ hrange Tryd.underlying79 rfl hinfo ?_)
  go_loopw [4, 5, 28] (fun cv fv iv W => ∃ j : Nat, j ≤ 16 ∧ iv = .int .i64 j ∧ cv = .int .i64 (s j : Int) ∧ fv = .int .i64 (f j : Int) ∧ Below w.heap.size w W) (fun _ _ i _ => 16 - (intOf i).toNat)
  case atStart => exact ⟨0, by omega, rfl, by rw [hs0]; rfl, by rw [hf0]; rfl, Below.refl _ _⟩
  case round =>
    obtain ⟨j, hj, rfl, rfl, rfl, hB⟩ := hrel
    by_cases hlt : j < 16
    · have hlt' : (j : Int) < 16 := by omega
      have hj0 : (0 : Int) ≤ (j : Int) := by omega
      have hAj := hA j hlt
      have hkj := hk j hlt
      have h1 := hs j hlt
      have g1 := hf j hlt
      have h2 := hb (j + 1) (by omega)
      have h3 := hb j (by omega)
      have hqc := (hB.cell (p := ⟨a, j, none⟩) ha.lt).trans (ha.kid hlt)
      go_wp2_with (first | (go_at_call 42; refine (hkj _ hB).mono ?_; rintro e w1 ⟨rfl, hb1⟩))
      go_roundw
      case rel => exact ⟨j + 1, by omega, by go_num, by rw [h1]; go_num, by rw [g1]; go_num, below_step hB hb1⟩
      case measure => simp [intOf]; omega
    · obtain rfl : j = 16 := by omega
      go_wp2_with fail
      exact bodyPost_ret (v := .tuple #[.int .i64 (s 16 : Int), .int .i64 (f 16 : Int)]) (by simp [results, Tryd.results42, go_sem]) rfl ⟨rfl, hB⟩

end Go.Proofs.YtmppgcijbeipfaaDoor


namespace Go.Proofs.YtmppgcijbeipfaaDoor
open Go.RowKit

theorem sme_none (t : Tr) : t.sme .nil = 0 := by
  have h := sme_frs t .nil
  rw [frs_none t .nil rfl] at h
  omega
theorem lies_node {W : World} {t : Tr} {b : Nat} (h : Lies W t) (hb : t.blk = some b) : ∃ sv, NodeAt W b (fun i => (t.kid i).ptr) sv := by
  cases t with
  | nil => cases hb
  | node c kids => obtain rfl : c = b := Option.some.inj hb; exact ⟨_, h.1⟩
  | leaf c s th vk vn => obtain rfl : c = b := Option.some.inj hb; exact ⟨_, h.1⟩
theorem blk_ptr {t : Tr} {b : Nat} (h : t.blk = some b) : t.ptr = .pointer (some ⟨b, 0, none⟩) := by
  cases t with
  | nil => cases h
  | node c kids => obtain rfl : c = b := Option.some.inj h; rfl
  | leaf c s th vk vn => obtain rfl : c = b := Option.some.inj h; rfl
theorem sme_cases {t a : Tr} (h : a.blk ≠ t.blk) : t.sme a = sum16 fun i => (t.kid i).sme (a.kid i) := by
  cases t with
  | nil => exact (sum16_zero (fun i _ => rfl)).symm
  | node b kids =>
    have h' : ¬ a.blk = some b := h
    rw [sme_node, if_neg h']
    rfl
  | leaf b s th vk vn =>
    have h' : ¬ a.blk = some b := h
    show (if a.blk = some b then 1 else 0) = _
    rw [if_neg h']
    exact (sum16_zero (fun i _ => rfl)).symm
theorem cnt_le (t a : Tr) : t.sme a ≤ t.cnt ∧ t.frs a ≤ t.cnt := by
  have := sme_frs t a
  omega
theorem wf_kid' {t : Tr} {n : Nat} (h : t.wf n) {i : Nat} (hi : i < 16) : (t.kid i).wf (n - 1) := by
  cases t with
  | nil => trivial
  | node b kids => exact h.2.1 i hi
  | leaf => trivial
theorem shared_down : ∀ (N n : Nat), n ≤ 7 → ∀ (b a : Tr), b.cnt ≤ N → b.wf n → ∀ w, Lies w b → Lies w a → Calls Tryd.prog 42 #[a.ptr, b.ptr] w fun e w' => e = .returned (.tuple #[.int .i64 (b.sme a : Int), .int .i64 (b.frs a : Int)]) ∧ Below w.heap.size w w' := by
  intro N
  induction N with
  | zero =>
    intro n _ b a hN _ w _ _
    rw [cnt_zero.1 (Nat.le_zero.1 hN)]
    obtain ⟨u, hu⟩ := ptr_pointer a
    rw [hu]
    exact shared_nil u w
  | succ N ih =>
    intro n hn b a hN hw w hb ha
    cases eb : b.blk with
    | none =>
      rw [blk_none eb]
      obtain ⟨u, hu⟩ := ptr_pointer a
      rw [hu]
      exact shared_nil u w
    | some c =>
      have hnod := fun W (hW : Below w.heap.size w W) => nodes_any n hn b hw W (hb.later hW)
      rw [blk_ptr eb] at hnod ⊢
      cases ea : a.blk with
      | none =>
        rw [blk_none ea, sme_none, frs_none b .nil rfl]
        exact shared_new c b.cnt w hnod
      | some c' =>
        rw [blk_ptr ea]
        by_cases hcc : c' = c
        · subst hcc
          have e0 : b.frs a = 0 := by rw [frs_cases, if_pos (.inr (ea.trans eb.symm))]
          have e1 : b.sme a = b.cnt := by
            have := sme_frs b a
            omega
          rw [e0, e1]
          exact shared_same c' b.cnt w hnod
        · obtain ⟨sa, hA⟩ := lies_node ha ea
          obtain ⟨sv, hB⟩ := lies_node hb eb
          have hne : a.blk ≠ b.blk := by rw [ea, eb]; exact fun e => hcc (Option.some.inj e)
          have hK : ∀ i, i < 16 → (b.kid i).cnt ≤ 17 ^ 8 := fun i hi => Nat.le_trans (cnt_bound _ (wf_kid' hw hi)) (Nat.pow_le_pow_right (by decide) (by omega))
          have hbd : ∀ i, i ≤ 16 → ((List.range i).map fun i => (b.kid i).sme (a.kid i)).sum < 4611686018427387904 ∧ 1 + ((List.range i).map fun i => (b.kid i).frs (a.kid i)).sum < 4611686018427387904 := fun i hi => by
            have h1 : ((List.range i).map fun i => (b.kid i).sme (a.kid i)).sum ≤ i * 17 ^ 8 := sumR_bound i (fun j hj => Nat.le_trans (cnt_le _ _).1 (hK j (by omega)))
            have h4 : ((List.range i).map fun i => (b.kid i).frs (a.kid i)).sum ≤ i * 17 ^ 8 := sumR_bound i (fun j hj => Nat.le_trans (cnt_le _ _).2 (hK j (by omega)))
            have h2 : i * 17 ^ 8 ≤ 16 * 17 ^ 8 := Nat.mul_le_mul_right _ hi
            have h3 : 16 * 17 ^ 8 < 4611686018427387903 := by decide
            omega
          have e1 := sme_cases hne
          have e2 : b.frs a = 1 + sum16 fun i => (b.kid i).frs (a.kid i) := by
            rw [frs_cases, if_neg (by rintro (h | h); rw [eb] at h; cases h; exact hne h)]
          rw [e1, e2]
          refine (shared_at c' c hcc (fun i => (a.kid i).ptr) (fun i => (b.kid i).ptr) sa sv (fun i => (b.kid i).sme (a.kid i)) (fun i => (b.kid i).frs (a.kid i)) (fun i => ((List.range i).map fun i => (b.kid i).sme (a.kid i)).sum) (fun i => 1 + ((List.range i).map fun i => (b.kid i).frs (a.kid i)).sum) rfl rfl
            (fun i _ => by rw [List.range_succ, List.map_append, List.sum_append]; simp)
            (fun i _ => by rw [List.range_succ, List.map_append, List.sum_append]; simp; omega) hbd w hA hB (fun i hi W hW => ?_)).mono ?_
          · rcases kid_cnt b i hi with h | h
            · exact ih (n - 1) (by omega) _ _ (by omega) (wf_kid' hw hi) W ((hb.kid hi).later hW) ((ha.kid hi).later hW)
            · have : b.kid i = .nil := h
              rw [this]
              obtain ⟨u, hu⟩ := ptr_pointer (a.kid i)
              rw [hu]
              exact shared_nil u W
          · rintro e w' ⟨rfl, hb'⟩
            exact ⟨rfl, hb'⟩
/-- What shared tells of two trees. -/
theorem shared_any (b a : Tr) (hw : b.wf 7) (w : World) (hb : Lies w b) (ha : Lies w a) : Calls Tryd.prog 42 #[a.ptr, b.ptr] w fun e w' => e = .returned (.tuple #[.int .i64 (b.sme a : Int), .int .i64 (b.frs a : Int)]) ∧ Below w.heap.size w w' :=
  shared_down b.cnt 7 (Nat.le_refl _) b a (Nat.le_refl _) hw w hb ha

end Go.Proofs.YtmppgcijbeipfaaDoor


namespace Go.Proofs.YtmppgcijbeipfaaDoor
open Go.RowKit

set_option maxHeartbeats 1000000 in
/-- P3.7: what Shared tells of two maps. -/
theorem mshared_any (ma mb : Nat) (a t : Tr) (w : World) (hA : MapT w ma a) (hM : MapT w mb t) : Calls Tryd.prog 30 #[.pointer (some ⟨ma, 0, none⟩), .pointer (some ⟨mb, 0, none⟩)] w fun e w' => e = .returned (.tuple #[.int .i64 (t.sme a : Int), .int .i64 (t.frs a : Int)]) ∧ Below w.heap.size w w' := by
  obtain ⟨u, hu⟩ := ptr_pointer a
  obtain ⟨v, hv⟩ := ptr_pointer t
  have hd := (Below.refl w.heap.size w).drew
  have hA1 := hA.later hd
  have hM1 := hM.later hd
  have hs := shared_any t a hM1.2.2.2.2 w.drew hM1.2.2.2.1 hA1.2.2.2.1
  rw [hu, hv] at hs
  obtain ⟨p, hp⟩ : ∃ p : Int, p = (t.sme a : Int) := ⟨_, rfl⟩
  obtain ⟨q, hq⟩ : ∃ q : Int, q = (t.frs a : Int) := ⟨_, rfl⟩
  rw [← hp, ← hq] at hs ⊢
  clear hp hq
  have hmk : ∀ X, Below w.heap.size w X → X.cell? ⟨ma, 0, none⟩ = some (.pointer u) ∧ X.cell? ⟨mb, 0, none⟩ = some (.pointer v) := fun X hX => ⟨by rw [← hu]; exact (hA.later hX).2.1, by rw [← hv]; exact (hM.later hX).2.1⟩
  have hS := hmk _ hd
  go_enter Tryd.func30, Tryd.ntmps30
  go_wp2_with fail
  go_region_held3 (fun X => X.cell? ⟨ma, 0, none⟩ = some (.pointer u) ∧ X.cell? ⟨mb, 0, none⟩ = some (.pointer v)) (with_reducible assumption)
    (first | (go_at_call 42; refine hs.mono ?_; rintro e w1 ⟨rfl, hb1⟩; have hS1 := hmk _ (below_step hd hb1)))
  go_wp2_with fail
  exact bodyPost_ret (v := .tuple #[.int .i64 p, .int .i64 q]) (by simp [results, Tryd.results30, go_sem]) rfl ⟨rfl, below_step hd hb1⟩

end Go.Proofs.YtmppgcijbeipfaaDoor


namespace Go.Proofs.YtmppgcijbeipfaaDoor
open Go.RowKit

/-- The play, as it is read: two rows of pointers. -/
def PlayR (W : World) (pb : Nat) (vs : List Pv) : Prop := pb < W.heap.size ∧ ∃ gg gw cg cw, gg < W.heap.size ∧ gw < W.heap.size ∧ W.cell? ⟨pb, 0, none⟩ = some (.slice (some ⟨gg, 0, none⟩) vs.length cg) ∧ W.cell? ⟨pb, 1, none⟩ = some (.slice (some ⟨gw, 0, none⟩) vs.length cw) ∧ ∀ i (h : i < vs.length), W.cell? ⟨gg, i, none⟩ = some (.pointer (some ⟨vs[i].1, 0, none⟩)) ∧ W.cell? ⟨gw, i, none⟩ = some (.pointer (some ⟨vs[i].2.2.1, 0, none⟩))
theorem PlayR.later {W W' : World} {pb : Nat} {vs : List Pv} (h : PlayR W pb vs) (hb : Below W.heap.size W W') : PlayR W' pb vs := by
  obtain ⟨h0, gg, gw, cg, cw, h1, h2, h3, h4, h5⟩ := h
  exact ⟨Nat.lt_of_lt_of_le h0 hb.size, gg, gw, cg, cw, Nat.lt_of_lt_of_le h1 hb.size, Nat.lt_of_lt_of_le h2 hb.size, (hb.cell (p := ⟨pb, 0, none⟩) h0).trans h3, (hb.cell (p := ⟨pb, 1, none⟩) h0).trans h4, fun i hi => ⟨(hb.cell (p := ⟨gg, i, none⟩) h1).trans (h5 i hi).1, (hb.cell (p := ⟨gw, i, none⟩) h2).trans (h5 i hi).2⟩⟩

/-- An op, as a value. -/
def opV (k m n : Int) (id : Nat) (x y : Int) : Value := .agg #[.int .i64 k, .int .i64 m, .int .i64 n, .int .u32 (id : Int), .int .i64 x, .int .i64 y]

set_option maxRecDepth 4000 in
set_option maxHeartbeats 2000000 in
/-- A version that isn't there. -/
theorem step_out (pb : Nat) (vs : List Pv) (k m n : Int) (id : Nat) (x y a : Int) (hm : m < 0 ∨ (vs.length : Int) ≤ m) (w : World) (hP : PlayR w pb vs) : Calls Tryd.prog 6 #[.pointer (some ⟨pb, 0, none⟩), opV k m n id x y, .int .i64 a] w fun e w' => e = .returned (.bool true) ∧ Below w.heap.size w w' := by
  have hb0 := (Below.refl w.heap.size w).alloc (Nat.le_refl _) (.cells #[.int .i64 k, .int .i64 m, .int .i64 n, .int .u32 (id : Int), .int .i64 x, .int .i64 y] 31)
  obtain ⟨h0, gg, gw, cg, cw, h1, h2, c0, -, -⟩ := hP.later hb0
  unfold opV
  go_enter Tryd.func6, Tryd.ntmps6
  by_cases hneg : m < 0
  · go_wp2_with fail
    go_quiet (fail)
    have hB := below_drewN hb0 nq
    go_wp2
    go_ret
    exact ⟨rfl, hB⟩
  · have hge : m ≥ (vs.length : Int) := by omega
    go_wp2_with fail
    go_quiet (fail)
    have hB := below_drewN hb0 nq
    go_wp2
    go_ret
    exact ⟨rfl, hB⟩

end Go.Proofs.YtmppgcijbeipfaaDoor


namespace Go.Proofs.YtmppgcijbeipfaaDoor
open Go.RowKit

theorem pv_keys {W : World} {x : Pv} (h : PvAt W x) : ∀ e ∈ x.2.1.ents 7 0, e.1 < 4294967296 := fun e he => by
  have := (ents_range h.1.2.2.2.2 he).2
  simpa using this
theorem pv_len {W : World} {x : Pv} (h : PvAt W x) : (x.2.1.ents 7 0).length ≤ 4294967296 := rises_len (ents_rises 7 h.1.2.2.2.2 0) (pv_keys h)

set_option maxRecDepth 4000 in
set_option maxHeartbeats 4000000 in
/-- Shared. -/
theorem step_shared (pb : Nat) (vs : List Pv) (i j : Nat) (hi : i < vs.length) (hj : j < vs.length) (id : Nat) (x y a s : Int) (w : World) (hP : PlayR w pb vs) (hV : Pvs w s vs) : Calls Tryd.prog 6 #[.pointer (some ⟨pb, 0, none⟩), opV 8 (i : Int) (j : Int) id x y, .int .i64 a] w fun e w' => e = .returned (.bool true) ∧ Below w.heap.size w w' := by
  have hb0 := (Below.refl w.heap.size w).alloc (Nat.le_refl _) (.cells #[.int .i64 8, .int .i64 (i : Int), .int .i64 (j : Int), .int .u32 (id : Int), .int .i64 x, .int .i64 y] 31)
  obtain ⟨h0, gg, gw, cg, cw, h1, h2, c0, c1, hc⟩ := hP.later hb0
  obtain ⟨c2, c3⟩ := hc i hi
  obtain ⟨c4, c5⟩ := hc j hj
  have hi0 : (0 : Int) ≤ (i : Int) := Int.natCast_nonneg _
  have hi1 : (i : Int) < (vs.length : Int) := Int.ofNat_lt.2 hi
  have hi2 : ¬ (i : Int) < 0 := by omega
  have hi3 : ¬ (i : Int) ≥ (vs.length : Int) := by omega
  have hj0 : (0 : Int) ≤ (j : Int) := Int.natCast_nonneg _
  have hj1 : (j : Int) < (vs.length : Int) := Int.ofNat_lt.2 hj
  have hj2 : ¬ (j : Int) < 0 := by omega
  have hj3 : ¬ (j : Int) ≥ (vs.length : Int) := by omega
  have hUU : Hid (∀ X, Below w.heap.size w X → PvAt X vs[i]) := fun X hX => (hV.at' _ (List.getElem_mem hi)).later hX
  have hVV : Hid (∀ X, Below w.heap.size w X → PvAt X vs[j]) := fun X hX => (hV.at' _ (List.getElem_mem hj)).later hX
  have hsh : Hid (_ = _) := hV.shared (List.getElem_mem hi) (List.getElem_mem hj)
  clear hc hV hP
  generalize vs[i] = u at *
  generalize vs[j] = v at *
  unfold opV
  go_enter Tryd.func6, Tryd.ntmps6
  go_wp2_with fail
  go_quiet (fail)
  go_wp2_with fail
  go_quiet (fail)
  go_wp2_with fail
  go_quiet (fail)
  go_wp2_with fail
  go_quiet (fail)
  go_wp2_with fail
  go_quiet (fail)
  go_wp2_with fail
  go_quiet (fail)
  go_wp2_with (go_at_call 30; fail)
  refine (mshared_any _ _ _ _ _ (hUU.out _ (below_drewN hb0 _)).1 (hVV.out _ (below_drewN hb0 _)).1).mono ?_
  rintro e w5 ⟨rfl, hb5⟩
  have hB5 := below_step (below_drewN hb0 _) hb5
  have hu := hUU.out _ hB5
  have hv := hVV.out _ hB5
  have hs := shared_rs _ _ _ _ _ _ (pv_keys hu) (pv_keys hv) (Nat.le_trans (pv_len hu) (by decide)) (Nat.le_trans (pv_len hv) (by decide)) _ hu.2 hv.2
  rw [hsh.out] at hs
  clear hUU hVV hsh hu hv
  generalize ((v.2.1.sme u.2.1 : Nat) : Int) = p at *
  generalize ((v.2.1.frs u.2.1 : Nat) : Int) = q at *
  go_wp2_with (go_at_call 31; fail)
  refine hs.mono ?_
  rintro e w6 ⟨rfl, hb6⟩
  have hB6 := below_step hB5 hb6
  clear hs hB5
  go_wp2
  go_ret
  exact ⟨by simp, hB6⟩

end Go.Proofs.YtmppgcijbeipfaaDoor


/- The versions of a play, as it owns them; a version joins. -/
namespace Go.Proofs.YtmppgcijbeipfaaDoor
open Go.RowKit

def gotC (vs : List Pv) : List Value := vs.map fun x => .pointer (some ⟨x.1, 0, none⟩)
def wantC (vs : List Pv) : List Value := vs.map fun x => .pointer (some ⟨x.2.2.1, 0, none⟩)
theorem gotC_app (vs : List Pv) (x : Pv) : gotC (vs ++ [x]) = gotC vs ++ [.pointer (some ⟨x.1, 0, none⟩)] := by simp [gotC]
theorem wantC_app (vs : List Pv) (x : Pv) : wantC (vs ++ [x]) = wantC vs ++ [.pointer (some ⟨x.2.2.1, 0, none⟩)] := by simp [wantC]
theorem own_ne {W : World} {b k n r : Nat} {t t' : TypeId} {v : Value} {xs : List Value} {cs : Array Value} {f : Nat × Nat} (h : W.ownsRow b t k v n xs) (hr : W.heap[r]? = some (.cells cs t' f)) (hne : t ≠ t') : v.ownBlock ≠ some r := by
  obtain ⟨_, ⟨rfl, _⟩ | ⟨g, c, cur, rfl, _, r1, _⟩⟩ := h
  · simp [Value.ownBlock]
  · intro e
    have e' : g = r := Option.some.inj e
    subst e'
    rw [r1] at hr
    cases hr
    exact hne rfl
theorem own_tagged {W : World} {b k n r : Nat} {t : TypeId} {v : Value} {xs : List Value} (h : W.ownsRow b t k v n xs) (e : v.ownBlock = some r) : ∃ cs f, W.heap[r]? = some (.cells cs t f) := by
  obtain ⟨_, ⟨rfl, _⟩ | ⟨g, c, cur, rfl, _, r1, _⟩⟩ := h
  · simp [Value.ownBlock] at e
  · have e' : g = r := Option.some.inj e
    subst e'
    exact ⟨_, _, r1⟩
/-- The play, as it owns its two rows. -/
structure PlayO (W : World) (lo pb : Nat) (vg vw : Value) (vs : List Pv) : Prop where
  row : W.heap[pb]? = some (.cells #[vg, vw] 40 (0, 0))
  got : W.ownsRow lo 33 1 vg vs.length (gotC vs)
  want : W.ownsRow lo 36 1 vw vs.length (wantC vs)
  low : lo ≤ pb
  off : ∀ x ∈ vs, x.1 ≠ pb ∧ vg.ownBlock ≠ some x.1 ∧ vw.ownBlock ≠ some x.1
theorem PlayO.lt {W : World} {lo pb : Nat} {vg vw : Value} {vs : List Pv} (h : PlayO W lo pb vg vw vs) : pb < W.heap.size := (Array.getElem?_eq_some_iff.1 h.row).1
theorem PlayO.later {W W' : World} {lo pb : Nat} {vg vw : Value} {vs : List Pv} (h : PlayO W lo pb vg vw vs) (hB : Below W.heap.size W W') : PlayO W' lo pb vg vw vs :=
  ⟨(hB.block _ h.lt).trans h.row, own_laterB h.got hB, own_laterB h.want hB, h.low, h.off⟩
theorem PlayO.read {W : World} {lo pb : Nat} {vg vw : Value} {vs : List Pv} (h : PlayO W lo pb vg vw vs) (hn : 0 < vs.length) : PlayR W pb vs := by
  obtain ⟨gg, cg, rfl⟩ := own_some h.got hn
  obtain ⟨gw, cw, rfl⟩ := own_some h.want hn
  refine ⟨h.lt, gg, gw, cg, cw, (h.got.lt gg rfl).2, (h.want.lt gw rfl).2, cell_of_row _ _ 0 _ _ _ h.row, cell_of_row _ _ 1 _ _ _ h.row, fun i hi => ⟨?_, ?_⟩⟩
  · rw [h.got.cellAt i (by omega)]
    simp [gotC, hi]
  · rw [h.want.cellAt i (by omega)]
    simp [wantC, hi]
/-- A version stays while a block of another kind is turned. -/
theorem PvAt.gr {W W' : World} {x : Pv} {r : Option Nat} (h : PvAt W x) (hg : W.grownBy W' r) (ht : ∀ k, r = some k → ∃ cs t f, W.heap[k]? = some (.cells cs t f) ∧ (t = 40 ∨ t = 33 ∨ t = 36)) (hne : r ≠ some x.1) : PvAt W' x := by
  have hk : ∀ (k : Nat) (cs : Array Value) (t : TypeId) (f : Nat × Nat), W.heap[k]? = some (.cells cs t f) → t ≠ 40 → t ≠ 33 → t ≠ 36 → W'.heap[k]? = some (.cells cs t f) := fun k cs t f hr n1 n2 n3 => by
    refine (hg.block k (Array.getElem?_eq_some_iff.1 hr).1 (fun e => ?_)).trans hr
    obtain ⟨cs', t', f', hr', e'⟩ := ht k e.symm
    rw [hr] at hr'
    cases hr'
    rcases e' with e' | e' | e'
    · exact n1 e'
    · exact n2 e'
    · exact n3 e'
  have hL : ∀ {t : Tr}, Lies W t → Lies W' t := by
    intro t
    induction t with
    | nil => intro _; trivial
    | node b kids ih => intro h; exact ⟨hk _ _ _ _ h.1 (by decide) (by decide) (by decide), fun i hi => ih i (h.2 i hi)⟩
    | leaf b s th vk vn => intro h; exact ⟨hk _ _ _ _ h.1 (by decide) (by decide) (by decide), hk _ _ _ _ h.2 (by decide) (by decide) (by decide)⟩
  have hO : ∀ {b t k n : Nat} {v : Value} {xs : List Value}, t ≠ 40 → t ≠ 33 → t ≠ 36 → W.ownsRow b t k v n xs → W'.ownsRow b t k v n xs := fun n1 n2 n3 ho => by
    obtain ⟨q1, q2 | ⟨g, cap, cur, e, hb, r, rest⟩⟩ := ho
    · exact ⟨q1, .inl q2⟩
    · exact ⟨q1, .inr ⟨g, cap, cur, e, hb, hk _ _ _ _ r n1 n2 n3, rest⟩⟩
  have hc : ∀ o, W'.cell? ⟨x.1, o, none⟩ = W.cell? ⟨x.1, o, none⟩ := fun o => World.cell?_of_block (hg.block x.1 h.1.1 (fun e => hne e.symm))
  obtain ⟨⟨a1, a2, a3, a4, a5⟩, vi, vv, vs, st, b1, b2, b3, b4, b5⟩ := h
  exact ⟨⟨Nat.lt_of_lt_of_le a1 hg.size, (hc 0).trans a2, (hc 1).trans a3, hL a4, a5⟩, vi, vv, vs, st, hk _ _ _ _ b1 (by decide) (by decide) (by decide), hO (by decide) (by decide) (by decide) b2, hO (by decide) (by decide) (by decide) b3, hO (by decide) (by decide) (by decide) b4, b5⟩
theorem infoG : (Tryd.prog.info? 33).map (fun i => (i.zero, i.size, i.bytes)) = some (some (.pointer none), 1, 8) := by kernel_rfl
theorem infoW : (Tryd.prog.info? 36).map (fun i => (i.zero, i.size, i.bytes)) = some (some (.pointer none), 1, 8) := by kernel_rfl
def StopJ (P : Prop) : Prop := P
theorem stopJ {P : Prop} (h : StopJ P) : P := h
/-- What joins leaves. -/
def JoinP (lo pb : Nat) (vg vw : Value) (vs : List Pv) (x : Pv) (w w' : World) : Prop := (∃ vg' vw', PlayO w' lo pb vg' vw' (vs ++ [x])) ∧ (∀ y, PvAt w y → y.1 ≠ pb → vg.ownBlock ≠ some y.1 → vw.ownBlock ≠ some y.1 → PvAt w' y) ∧ (∀ k, k < w.heap.size → k ≠ pb → vg.ownBlock ≠ some k → vw.ownBlock ≠ some k → w'.heap[k]? = w.heap[k]?) ∧ Below lo w w'
theorem own_new {W : World} {v v' : Value} {y : Nat} (h : v'.ownBlock = v.ownBlock ∨ v'.ownBlock = some W.heap.size) (hv : v.ownBlock ≠ some y) (hy : y < W.heap.size) : v'.ownBlock ≠ some y := by
  rcases h with h | h
  · rw [h]; exact hv
  · rw [h]; intro e; have := Option.some.inj e; omega

set_option maxRecDepth 4000 in
set_option maxHeartbeats 2000000 in
theorem joins_any (lo pb : Nat) (vg vw : Value) (vs : List Pv) (x : Pv) (hl : (vs.length + 1) * 8 ≤ 140737488355328) (w : World) (h : PlayO w lo pb vg vw vs) (hlo : lo ≤ w.heap.size) (hA : ∀ y ∈ vs ++ [x], y.1 < w.heap.size) (hx : x.1 ≠ pb ∧ vg.ownBlock ≠ some x.1 ∧ vw.ownBlock ≠ some x.1) : Calls Tryd.prog 14 #[.pointer (some ⟨pb, 0, none⟩), .pointer (some ⟨x.1, 0, none⟩), .pointer (some ⟨x.2.2.1, 0, none⟩)] w fun e w' => e = .returned (.bool true) ∧ JoinP lo pb vg vw vs x w w' := by
  obtain ⟨i0, hi0, hz0, hz1, hz2⟩ := info_parts infoG
  obtain ⟨j0, hj0, hy0, hy1, hy2⟩ := info_parts infoW
  obtain ⟨ga, gl, gc, rfl⟩ := own_slice h.got
  obtain ⟨wa, wl, wc, rfl⟩ := own_slice h.want
  have c0 : w.cell? ⟨pb, 0, none⟩ = some (.slice ga gl gc) := cell_of_row _ _ 0 _ _ _ h.row
  have hb1 := (Below.refl w.heap.size w).alloc (Nat.le_refl _) (.cells #[.pointer (some ⟨x.1, 0, none⟩)] 33)
  have h1 := h.later hb1
  have hs1 : (w.alloc (.cells #[.pointer (some ⟨x.1, 0, none⟩)] 33)).heap.size = w.heap.size + 1 := by simp
  have hn1 := cell_one_new w (.pointer (some ⟨x.1, 0, none⟩)) 33
  have hL := h.lt
  go_enter Tryd.func14, Tryd.ntmps14
  go_wp2_with (at_builtin; refine wpList_append_own_at (P := Tryd.prog) _ rfl _ _ 35 rfl lo 33 i0 _ 1 8 Tryd.underlying35 hi0 hz0 hz1 hz2 rfl (by decide) _ vs.length (gotC vs) rfl h1.got ⟨w.heap.size, 0, none⟩ 1 1 [.pointer (some ⟨x.1, 0, none⟩)] rfl rfl hn1 (by simp [Value.oneCell']) (by unfold maxLen; omega) (by omega) (by omega) ?_; intro v2 w2 hown2 hgrow2' _h hat2'; refine stopJ ?_)
  clear _h
  have hgrow2 : (w.alloc (.cells #[.pointer (some ⟨x.1, 0, none⟩)] 33)).grownBy w2 (Value.slice ga gl gc).ownBlock := hgrow2'
  have hat2 : v2.ownBlock = (Value.slice ga gl gc).ownBlock ∨ v2.ownBlock = some (w.alloc (.cells #[.pointer (some ⟨x.1, 0, none⟩)] 33)).heap.size := hat2'
  clear hgrow2' hat2'
  have hk1 : Hid (∀ y, PvAt w y → (Value.slice ga gl gc).ownBlock ≠ some y.1 → PvAt w2 y) := fun y hy hn => (hy.later hb1).gr hgrow2 (fun k e => by obtain ⟨cs, f, hr⟩ := own_tagged h1.got e; exact ⟨cs, _, f, hr, .inr (.inl rfl)⟩) hn
  have hkb2 : Hid (∀ k, k < w.heap.size → (Value.slice ga gl gc).ownBlock ≠ some k → w2.heap[k]? = w.heap[k]?) := fun k hk hn => (hgrow2.block k (by omega) (fun e => hn e.symm)).trans (hb1.block k hk)
  have hrow2 := rf_keep h1.row hgrow2 (.inr (own_ne h1.got h1.row (by decide)))
  have hwant2 := h1.want.kept hgrow2 (own_tags h1.got h1.want (by decide))
  have hB2 := (hb1.mono hlo).grown hgrow2 (by omega) (fun j hj => (h1.got.lt j hj).1)
  have hoff2 : Hid (∀ y, y < w.heap.size → (Value.slice ga gl gc).ownBlock ≠ some y → v2.ownBlock ≠ some y) := fun y hy hn => own_new hat2 hn (by omega)
  have hs2 := hgrow2.size
  obtain ⟨g2, cap2, rfl⟩ := own_some hown2 (by omega)
  clear hgrow2 hat2 h1 hb1 c0 hn1 hi0 hz0 hz1 hz2
  have c2 : w2.cell? ⟨pb, 0, none⟩ = some (.slice ga gl gc) := cell_of_row _ _ 0 _ _ _ hrow2
  have f2 := frozen_of_row hrow2 0
  have hrow3 := heap_setCell_same w2 pb 0 _ _ (.slice (some ⟨g2, 0, none⟩) (vs.length + 1) cap2) hrow2
  have hg3 := grown_set w2 pb 0 (.slice (some ⟨g2, 0, none⟩) (vs.length + 1) cap2)
  have hown3 := hown2.kept hg3 (.inr (own_ne hown2 hrow2 (by decide)))
  have hwant3 := hwant2.kept hg3 (.inr (own_ne hwant2 hrow2 (by decide)))
  have hB3 := hB2.grown hg3 (by omega) (fun j hj => by rw [← Option.some.inj hj]; exact h.low)
  have hk3 : Hid (∀ y, PvAt w y → y.1 ≠ pb → (Value.slice ga gl gc).ownBlock ≠ some y.1 → PvAt (w2.setCell ⟨pb, 0, none⟩ (.slice (some ⟨g2, 0, none⟩) (vs.length + 1) cap2)) y) := fun y hy hn1 hn2 => (hk1.out y hy hn2).gr hg3 (fun k e => by obtain rfl := Option.some.inj e; exact ⟨_, _, _, hrow2, .inl rfl⟩) (fun e => hn1 (Option.some.inj e).symm)
  have hkb3 : Hid (∀ k, k < w.heap.size → k ≠ pb → (Value.slice ga gl gc).ownBlock ≠ some k → (w2.setCell ⟨pb, 0, none⟩ (.slice (some ⟨g2, 0, none⟩) (vs.length + 1) cap2)).heap[k]? = w.heap[k]?) := fun k hk n1 n2 => (hg3.block k (by omega) (fun e => n1 (Option.some.inj e))).trans (hkb2.out k hk n2)
  unfold StopJ
  have hs3 : lo ≤ (w2.setCell ⟨pb, 0, none⟩ (.slice (some ⟨g2, 0, none⟩) (vs.length + 1) cap2)).heap.size ∧ w.heap.size ≤ (w2.setCell ⟨pb, 0, none⟩ (.slice (some ⟨g2, 0, none⟩) (vs.length + 1) cap2)).heap.size := by simp; omega
  clear hk1 hkb2 hrow2 hown2 hwant2 hB2 hs1 hs2
  have e3 : (w2.setCell ⟨pb, 0, none⟩ (.slice (some ⟨g2, 0, none⟩) (vs.length + 1) cap2)).cell? ⟨pb, 1, none⟩ = some (.slice wa wl wc) := cell_of_row _ _ 1 _ _ _ hrow3
  refine stopJ ?_
  generalize hX : w2.setCell ⟨pb, 0, none⟩ (.slice (some ⟨g2, 0, none⟩) (vs.length + 1) cap2) = X at *
  have hb4 := (Below.refl X.heap.size X).alloc (Nat.le_refl _) (.cells #[.pointer (some ⟨x.2.2.1, 0, none⟩)] 36)
  have hn4 := cell_one_new X (.pointer (some ⟨x.2.2.1, 0, none⟩)) 36
  obtain ⟨hs3, hs5⟩ := hs3
  have hs4 : lo ≤ (X.alloc (.cells #[.pointer (some ⟨x.2.2.1, 0, none⟩)] 36)).heap.size := Nat.le_trans hs3 hb4.size
  have hrow4 := (hb4.block _ (Array.getElem?_eq_some_iff.1 hrow3).1).trans hrow3
  have hown4 := own_laterB hown3 hb4
  have hwant4 := own_laterB hwant3 hb4
  unfold StopJ
  go_wp2_with (at_builtin; refine stopJ ?_)
  unfold StopJ
  refine wpList_append_own_at (P := Tryd.prog) _ rfl _ _ 38 rfl lo 36 j0 _ 1 8 Tryd.underlying38 hj0 hy0 hy1 hy2 rfl (by decide) _ vs.length (wantC vs) rfl hwant4 ⟨X.heap.size, 0, none⟩ 1 1 [.pointer (some ⟨x.2.2.1, 0, none⟩)] rfl rfl hn4 (by simp [Value.oneCell']) (by unfold maxLen; omega) (by omega) hs4 ?_
  intro v5 w5 hown5 hgrow5' _h hat5'
  have hgrow5 : (X.alloc (.cells #[.pointer (some ⟨x.2.2.1, 0, none⟩)] 36)).grownBy w5 (Value.slice wa wl wc).ownBlock := hgrow5'
  have hat5 : v5.ownBlock = (Value.slice wa wl wc).ownBlock ∨ v5.ownBlock = some (X.alloc (.cells #[.pointer (some ⟨x.2.2.1, 0, none⟩)] 36)).heap.size := hat5'
  clear _h hgrow5' hat5'
  have hrow5 := rf_keep hrow4 hgrow5 (.inr (own_ne hwant4 hrow4 (by decide)))
  have hgot5 := hown4.kept hgrow5 (own_tags hwant4 hown4 (by decide))
  have hB5 := (hB3.alloc hs3 (.cells #[.pointer (some ⟨x.2.2.1, 0, none⟩)] 36)).grown hgrow5 hs4 (fun j hj => (hwant4.lt j hj).1)
  have hs6 := hgrow5.size
  have hk5 : Hid (∀ y, PvAt w y → y.1 ≠ pb → (Value.slice ga gl gc).ownBlock ≠ some y.1 → (Value.slice wa wl wc).ownBlock ≠ some y.1 → PvAt w5 y) := fun y hy n1 n2 n3 => ((hk3.out y hy n1 n2).later hb4).gr hgrow5 (fun k e => by obtain ⟨cs, f, hr⟩ := own_tagged hwant4 e; exact ⟨cs, _, f, hr, .inr (.inr rfl)⟩) n3
  have hkb5 : Hid (∀ k, k < w.heap.size → k ≠ pb → (Value.slice ga gl gc).ownBlock ≠ some k → (Value.slice wa wl wc).ownBlock ≠ some k → w5.heap[k]? = w.heap[k]?) := fun k hk n1 n2 n3 => (hgrow5.block k (by have := hb4.size; omega) (fun e => n3 e.symm)).trans ((hb4.block k (by omega)).trans (hkb3.out k hk n1 n2))
  have hoff5 : Hid (∀ y, y < w.heap.size → (Value.slice wa wl wc).ownBlock ≠ some y → v5.ownBlock ≠ some y) := fun y hy hn => own_new hat5 hn (by have := hb4.size; omega)
  obtain ⟨g5, cap5, rfl⟩ := own_some hown5 (by omega)
  have c5 : w5.cell? ⟨pb, 1, none⟩ = some (.slice wa wl wc) := cell_of_row _ _ 1 _ _ _ hrow5
  have f5 := frozen_of_row hrow5 1
  have hrow6 := heap_setCell_same w5 pb 1 _ _ (.slice (some ⟨g5, 0, none⟩) (vs.length + 1) cap5) hrow5
  have hg6 := grown_set w5 pb 1 (.slice (some ⟨g5, 0, none⟩) (vs.length + 1) cap5)
  have hgot6 := hgot5.kept hg6 (.inr (own_ne hgot5 hrow5 (by decide)))
  have hwant6 := hown5.kept hg6 (.inr (own_ne hown5 hrow5 (by decide)))
  have hB6 := hB5.grown hg6 (by omega) (fun j hj => by rw [← Option.some.inj hj]; exact h.low)
  have hfin : Hid (JoinP lo pb (.slice ga gl gc) (.slice wa wl wc) vs x w (w5.setCell ⟨pb, 1, none⟩ (.slice (some ⟨g5, 0, none⟩) (vs.length + 1) cap5))) := by
    refine ⟨⟨_, _, hrow6, by rw [List.length_append, gotC_app]; exact hgot6, by rw [List.length_append, wantC_app]; exact hwant6, h.low, fun y hy => ?_⟩, fun y hy n1 n2 n3 => ?_, fun k hk n1 n2 n3 => (hg6.block k (by have := hb4.size; omega) (fun e => n1 (Option.some.inj e))).trans (hkb5.out k hk n1 n2 n3), hB6⟩
    · have ho : y.1 ≠ pb ∧ (Value.slice ga gl gc).ownBlock ≠ some y.1 ∧ (Value.slice wa wl wc).ownBlock ≠ some y.1 := by
        rcases List.mem_append.1 hy with e | e
        · exact h.off y e
        · rw [List.mem_singleton.1 e]; exact hx
      exact ⟨ho.1, hoff2.out _ (hA y hy) ho.2.1, hoff5.out _ (hA y hy) ho.2.2⟩
    · exact (hk5.out y hy n1 n2 n3).gr hg6 (fun k e => by obtain rfl := Option.some.inj e; exact ⟨_, _, _, hrow5, .inl rfl⟩) (fun e => n1 (Option.some.inj e).symm)
  clear hrow3 hrow4 hrow5 hrow6 hgot5 hgot6 hwant3 hwant4 hwant6 hown3 hown4 hown5 hB3 hB5 hB6 hk3 hk5 hkb3 hkb5 hoff2 hoff5 hg3 hg6 hgrow5 hat5 hb4 hn4 hs3 hs4 hs5 hs6 h hA hx e3 hX c2 f2 hj0 hy0 hy1 hy2
  go_wp2
  go_ret
  exact ⟨rfl, hfin.out⟩

end Go.Proofs.YtmppgcijbeipfaaDoor
