import Derived.Test.YtblfdjdhikfjhaaGreatJoin5
namespace Go.Proofs.YtblfdjdhikfjhaaGreat
open Go.RowKit

theorem drop_mono {B C id : Nat} (h : C ≤ B) : ∀ (n : Nat) {t' t : Tr}, DropR B id n t' t → DropR C id n t' t
  | 0, t', t, hp => by
    rcases hp with hp | ⟨c, s, th, vk, vn, rfl, h0, h1, h2, h3⟩
    · exact .inl hp
    · exact .inr ⟨c, s, th, vk, vn, rfl, h0, by omega, by omega, h3⟩
  | n + 1, t', t, hp => by
    obtain ⟨c, hc, hp⟩ := hp
    refine ⟨c, drop_mono h n hc, ?_⟩
    rcases hp with hp | ⟨b, kids, rfl, h0, h1, hk⟩
    · exact .inl hp
    · exact .inr ⟨b, kids, rfl, h0, by omega, hk⟩
theorem drop_avoid {B id b : Nat} (hb : b < B) : ∀ (n : Nat) {t' t : Tr}, DropR B id n t' t → t.avoid b → t'.avoid b
  | 0, t', t, h, _ => by
    rcases h with ⟨rfl, -⟩ | ⟨c, s, th, vk, vn, rfl, -, h1, h2, -⟩
    · trivial
    · exact ⟨by omega, by omega⟩
  | n + 1, t', t, h, ha => by
    obtain ⟨c, hc, h⟩ := h
    rcases h with ⟨rfl, -, -⟩ | ⟨b0, kids, rfl, -, h1, hd, hk⟩
    · trivial
    · refine ⟨by omega, fun i hi => ?_⟩
      by_cases e : i = dg id (n + 1)
      · rw [e, hd]; exact drop_avoid hb n hc (avoid_kid ha (dg_lt _ _))
      · rw [hk i hi e]; exact avoid_kid ha hi

/-- What holds while a node is made that is to have a key less. -/
abbrev LessS (w : World) (d : Nat) (t : Tr) (u : Option Addr) (X : World) : Prop := X.cell? ⟨w.heap.size, d, none⟩ = some (.pointer u) ∧ X.frozen? ⟨w.heap.size, d, none⟩ = false ∧ w.heap.size + 1 ≤ X.heap.size ∧ NodeAt X w.heap.size (fun i => (t.kid i).ptr) (.pointer none) ∧ Lies X t ∧ Below w.heap.size w X
theorem LessS.later {w : World} {d : Nat} {t : Tr} {u : Option Addr} {X Y : World} (h : LessS w d t u X) (hb : Below X.heap.size X Y) : LessS w d t u Y := by
  obtain ⟨h1, h2, h5, h6, h7, h8⟩ := h
  exact ⟨(hb.cell (p := ⟨w.heap.size, d, none⟩) (by simp; omega)).trans h1, (hb.frozen (p := ⟨w.heap.size, d, none⟩) (by simp; omega)).trans h2, Nat.le_trans h5 hb.size, h6.later hb, h7.later hb, below_step h8 hb⟩

theorem held_without {id n l : Nat} (ih : ∀ (t : Tr) (w : World), Lies w t → t.wf n → Calls Tryz.prog 118 #[t.ptr, .int .i64 ((l + 1 : Nat) : Int), .int .u32 (id : Int)] w fun e w' => ∃ t', e = .returned t'.ptr ∧ Lies w' t' ∧ DropR w.heap.size id n t' t ∧ Below w.heap.size w w')
    {w X : World} {t : Tr} {u : Option Addr} (hw : t.wf (n + 1)) (hu : (t.kid (dg id (n + 1))).ptr = .pointer u) (h : LessS w (dg id (n + 1)) t u X) :
    Calls Tryz.prog 118 #[.pointer u, .int .i64 ((l : Int) + 1), .int .u32 (id : Int)] X fun e Y => ∃ t1 u1, e = .returned (.pointer u1) ∧ t1.ptr = .pointer u1 ∧ Lies Y t1 ∧ DropR (w.heap.size + 1) id n t1 (t.kid (dg id (n + 1))) ∧ LessS w (dg id (n + 1)) t u Y := by
  have hd := dg_lt id (n + 1)
  have := ih (t.kid (dg id (n + 1))) X (h.2.2.2.2.1.kid hd) (wf_kid hw hd)
  rw [hu, show (((l + 1 : Nat)) : Int) = (l : Int) + 1 from by omega] at this
  refine this.mono ?_
  rintro e Y ⟨t1, rfl, hL, hP, hb⟩
  obtain ⟨u1, hu1⟩ := ptr_pointer t1
  exact ⟨t1, u1, by rw [hu1], hu1, hL, drop_mono h.2.2.1 n hP, h.later hb⟩

theorem ptr_none {t : Tr} (h : t.ptr = .pointer none) : t = .nil := by
  cases t with
  | nil => rfl
  | node b kids => cases h
  | leaf b => cases h

/-- What is left of a node that has a key less. -/
theorem drop_made {w X : World} {t t1 : Tr} {u u1 : Option Addr} {id n : Nat} (h : Lies w t) (hu1 : t1.ptr = .pointer u1) (hL1 : Lies X t1) (hP : DropR (w.heap.size + 1) id n t1 (t.kid (dg id (n + 1)))) (hS : LessS w (dg id (n + 1)) t u X) :
    NodeAt (X.setCell ⟨w.heap.size, dg id (n + 1), none⟩ (.pointer u1)) w.heap.size (fun i => (kidsWith t (dg id (n + 1)) t1 i).ptr) (.pointer none) ∧ Lies (X.setCell ⟨w.heap.size, dg id (n + 1), none⟩ (.pointer u1)) (.node w.heap.size (kidsWith t (dg id (n + 1)) t1)) ∧ Below w.heap.size w (X.setCell ⟨w.heap.size, dg id (n + 1), none⟩ (.pointer u1)) ∧
    ((∀ i, i < 16 → (kidsWith t (dg id (n + 1)) t1 i).ptr = .pointer none) → DropR w.heap.size id (n + 1) .nil t) ∧ ((∃ i, i < 16 ∧ (kidsWith t (dg id (n + 1)) t1 i).ptr ≠ .pointer none) → DropR w.heap.size id (n + 1) (.node w.heap.size (kidsWith t (dg id (n + 1)) t1)) t) := by
  have hd := dg_lt id (n + 1)
  have ha : t1.avoid w.heap.size := drop_avoid (by omega) n hP (lies_avoid (by omega) (h.kid hd))
  have hL := lies_made hd h (Nat.le_refl _) hS.2.2.2.1 hS.2.2.2.2.1 hu1 hL1 ha
  refine ⟨hL.1, hL, hS.2.2.2.2.2.setCell (Nat.le_refl _) _, fun hall => ?_, fun hne => ?_⟩
  · refine ⟨t1, drop_mono (by omega) n hP, .inl ⟨rfl, ?_, fun i hi e => ?_⟩⟩
    · have := hall _ hd
      rw [kidsWith_same] at this
      exact ptr_none this
    · have := hall i hi
      rw [kidsWith_other _ _ e] at this
      exact ptr_none this
  · obtain ⟨i, hi, hne⟩ := hne
    refine ⟨t1, drop_mono (by omega) n hP, .inr ⟨_, _, rfl, ⟨i, hi, fun e => hne (by rw [e]; rfl)⟩, Nat.le_refl _, kidsWith_same _ _ _, fun i _ e => kidsWith_other _ _ e⟩⟩

set_option maxRecDepth 4000 in
set_option maxHeartbeats 1000000 in
theorem without_up (id n l : Nat) (hn : l + (n + 1) = 7) (ih : ∀ (t : Tr) (w : World), Lies w t → t.wf n → Calls Tryz.prog 118 #[t.ptr, .int .i64 ((l + 1 : Nat) : Int), .int .u32 (id : Int)] w fun e w' => ∃ t', e = .returned t'.ptr ∧ Lies w' t' ∧ DropR w.heap.size id n t' t ∧ Below w.heap.size w w')
    (t : Tr) (w : World) (h : Lies w t) (hw : t.wf (n + 1)) : Calls Tryz.prog 118 #[t.ptr, .int .i64 (l : Int), .int .u32 (id : Int)] w fun e w' => ∃ t', e = .returned t'.ptr ∧ Lies w' t' ∧ DropR w.heap.size id (n + 1) t' t ∧ Below w.heap.size w w' := by
  have hl7 : ((l : Int) == 7) = false := by simp; omega
  have hd := dg_lt id (n + 1)
  have hd0 : (0 : Int) ≤ (dg id (n + 1) : Int) := by omega
  have hd1 : (dg id (n + 1) : Int) < 16 := by omega
  have hwr : IntKind.i64.wrap ((l : Int) + 1) = (l : Int) + 1 := by rw [IntKind.wrap_i64]; omega
  obtain ⟨u, hu⟩ := ptr_pointer (t.kid (dg id (n + 1)))
  go_enter Tryz.func118, Tryz.ntmps118
  go_wp2_with (go_at_call 78; fail)
  refine (twin_up t n l hn _ h hw).mono ?_
  rintro e w1 ⟨rfl, hw1⟩
  have hb2 : Below w.heap.size w w1 := by rw [hw1]; exact (Below.refl _ _).alloc (Nat.le_refl _) _
  have hN := node_new w (fun i => (t.kid i).ptr) (.pointer none)
  rw [← hw1] at hN
  have hs2 : w1.heap.size = w.heap.size + 1 := by rw [hw1]; simp
  have c0 := hN.kid hd
  rw [hu] at c0
  have hS2 : LessS w (dg id (n + 1)) t u w1 := ⟨c0, frozen_of_row hN _, by omega, hN, h.later hb2, hb2⟩
  have hS3 := hS2.later (Below.refl _ _).drew
  clear hS2 c0 hb2 hN hw1
  go_wp2_with (first | (go_at_call 76; refine (digit_any (n + 1) l hn id _).mono ?_; rintro e w2 ⟨rfl, rfl⟩) | (go_at_call 118; fail))
  have hq3 := hS3
  obtain ⟨c0, c1, -⟩ := hq3
  go_region_with (first | (go_at_call 118; refine (held_without (w := w) (t := t) (u := u) ih hw hu hS3).mono ?_; rintro e w5 ⟨t1, u1, rfl, hu1, hL1, hP1, hS5⟩; have hq5 := hS5; obtain ⟨e0, e1, -⟩ := hq5))
  all_goals
    obtain ⟨hN6, hL6, hB6, hnil, hnode⟩ := drop_made h hu1 hL1 hP1 hS5
    go_wp2_with (go_at_call 120; fail)
    generalize w5.setCell ⟨w.heap.size, dg id (n + 1), none⟩ (.pointer u1) = X at *
    by_cases hall : ∀ i, i < 16 → (kidsWith t (dg id (n + 1)) t1 i).ptr = .pointer none
    · refine (bare_kids w.heap.size _ (fun i _ => ptr_pointer _) X hN6 true ⟨fun _ => hall, fun _ => rfl⟩).mono ?_
      rintro e w7 ⟨rfl, hb7⟩
      go_wp2
      go_ret
      exact ⟨.nil, rfl, trivial, hnil hall, below_step hB6 hb7⟩
    · refine (bare_kids w.heap.size _ (fun i _ => ptr_pointer _) X hN6 false ⟨fun e => (by cases e), fun e => absurd e hall⟩).mono ?_
      rintro e w7 ⟨rfl, hb7⟩
      have hne : ∃ i, i < 16 ∧ (kidsWith t (dg id (n + 1)) t1 i).ptr ≠ .pointer none := by
        refine Classical.byContradiction fun hno => hall fun i hi => Classical.byContradiction fun e => hno ⟨i, hi, e⟩
      go_wp2
      go_ret
      exact ⟨_, rfl, hL6.later hb7, hnode hne, below_step hB6 hb7⟩

theorem drop_bottom {w X : World} {id : Nat} {t : Tr} (hN : NodeAt X w.heap.size (fun _ => .pointer none) (.pointer (some ⟨w.heap.size + 1, 0, none⟩))) (hS : ShelfAt X (w.heap.size + 1) t.th t.vk t.vn) (hB : Below w.heap.size w X) :
    ∃ th vk vn, NodeAt (((X.setCell ⟨w.heap.size + 1, dg id 0, none⟩ (.bool false)).setCell ⟨w.heap.size + 1, 16 + dg id 0 * 2, none⟩ (.int .i64 0)).setCell ⟨w.heap.size + 1, 16 + dg id 0 * 2 + 1, none⟩ (.int .i64 0)).drew w.heap.size (fun _ => .pointer none) (.pointer (some ⟨w.heap.size + 1, 0, none⟩)) ∧ ShelfAt (((X.setCell ⟨w.heap.size + 1, dg id 0, none⟩ (.bool false)).setCell ⟨w.heap.size + 1, 16 + dg id 0 * 2, none⟩ (.int .i64 0)).setCell ⟨w.heap.size + 1, 16 + dg id 0 * 2 + 1, none⟩ (.int .i64 0)).drew (w.heap.size + 1) th vk vn ∧
      Below w.heap.size w (((X.setCell ⟨w.heap.size + 1, dg id 0, none⟩ (.bool false)).setCell ⟨w.heap.size + 1, 16 + dg id 0 * 2, none⟩ (.int .i64 0)).setCell ⟨w.heap.size + 1, 16 + dg id 0 * 2 + 1, none⟩ (.int .i64 0)).drew ∧
      ((∀ i, i < 16 → th i = false) → DropR w.heap.size id 0 .nil t) ∧ ((∃ i, i < 16 ∧ th i = true) → DropR w.heap.size id 0 (.leaf w.heap.size (w.heap.size + 1) th vk vn) t) := by
  have hle : w.heap.size ≤ w.heap.size + 1 := by omega
  have hL := (lies_turned (by omega) hN hS (dg_lt id 0) false 0 0).later (Below.refl _ _).drew
  refine ⟨_, _, _, hL.1, hL.2, (((hB.setCell hle _).setCell hle _).setCell hle _).drew, fun hall => .inl ⟨rfl, fun i hi e => ?_⟩, fun hne => .inr ⟨_, _, _, _, _, rfl, hne, Nat.le_refl _, by omega, fun i _ => ?_⟩⟩
  · have := hall i hi
    rwa [if_neg e] at this
  · by_cases e : i = dg id 0 <;> simp [e]

set_option maxRecDepth 4000 in
set_option maxHeartbeats 1000000 in
theorem without_down (id : Nat) (t : Tr) (w : World) (h : Lies w t) (hw : t.wf 0) : Calls Tryz.prog 118 #[t.ptr, .int .i64 7, .int .u32 (id : Int)] w fun e w' => ∃ t', e = .returned t'.ptr ∧ Lies w' t' ∧ DropR w.heap.size id 0 t' t ∧ Below w.heap.size w w' := by
  have hd := dg_lt id 0
  have hd0 : (0 : Int) ≤ (dg id 0 : Int) := by omega
  have hd1 : (dg id 0 : Int) < 16 := by omega
  go_enter Tryz.func118, Tryz.ntmps118
  go_wp2_with (go_at_call 78; fail)
  refine (twin_down t w h hw).mono ?_
  rintro e w1 ⟨rfl, hN, hS, hs2, hb2⟩
  have c0 := hN.shelf
  have d0 := hS.th hd
  have d1 := (hS.val hd).1
  have d2 := (hS.val hd).2
  have f0 := frozen_of_row hS (dg id 0)
  have f1 := frozen_of_row hS (16 + dg id 0 * 2)
  have f2 := frozen_of_row hS (16 + dg id 0 * 2 + 1)
  obtain ⟨th, vk, vn, hN6, hS6, hB6, hnil, hleaf⟩ := drop_bottom (id := id) hN hS hb2
  go_wp2_with (first | (go_at_call 76; refine (digit_any 0 7 rfl id _).mono ?_; rintro e w2 ⟨rfl, rfl⟩))
  go_region_with (fail)
  all_goals
    go_wp2_with (go_at_call 120; fail)
    generalize (((w2.setCell ⟨w.heap.size + 1, dg id 0, none⟩ (.bool false)).setCell ⟨w.heap.size + 1, 16 + dg id 0 * 2, none⟩ (.int .i64 0)).setCell ⟨w.heap.size + 1, 16 + dg id 0 * 2 + 1, none⟩ (.int .i64 0)).drew = X at *
    by_cases hall : ∀ i, i < 16 → th i = false
    · refine (bare_shelf w.heap.size (w.heap.size + 1) th vk vn _ X hN6 hS6 true ⟨fun _ => hall, fun _ => rfl⟩).mono ?_
      rintro e w7 ⟨rfl, hb7⟩
      go_wp2
      go_ret
      exact ⟨.nil, rfl, trivial, hnil hall, below_step hB6 hb7⟩
    · refine (bare_shelf w.heap.size (w.heap.size + 1) th vk vn _ X hN6 hS6 false ⟨fun e => (by cases e), fun e => absurd e hall⟩).mono ?_
      rintro e w7 ⟨rfl, hb7⟩
      have hne : ∃ i, i < 16 ∧ th i = true := by
        refine Classical.byContradiction fun hno => hall fun i hi => ?_
        cases ht : th i with
        | false => rfl
        | true => exact absurd ⟨i, hi, ht⟩ hno
      go_wp2
      go_ret
      exact ⟨.leaf w.heap.size (w.heap.size + 1) th vk vn, rfl, ⟨hN6.later hb7, hS6.later hb7⟩, hleaf hne, below_step hB6 hb7⟩

/-- P3.3, P3.8: Drop's inner call, at every height. -/
theorem without_any (id : Nat) : ∀ (n l : Nat), l + n = 7 → ∀ (t : Tr) (w : World), Lies w t → t.wf n → Calls Tryz.prog 118 #[t.ptr, .int .i64 (l : Int), .int .u32 (id : Int)] w fun e w' => ∃ t', e = .returned t'.ptr ∧ Lies w' t' ∧ DropR w.heap.size id n t' t ∧ Below w.heap.size w w'
  | 0, l, hl, t, w, h, hw => by
    obtain rfl : l = 7 := by omega
    exact without_down id t w h hw
  | n + 1, l, hl, t, w, h, hw => without_up id n l hl (without_any id n (l + 1) (by omega)) t w h hw

end Go.Proofs.YtblfdjdhikfjhaaGreat
