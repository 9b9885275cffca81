import Derived.Test.YtmppgcijbeipfaaDoorTPut
namespace Go.Proofs.YtmppgcijbeipfaaDoor
open Go.RowKit

set_option maxRecDepth 4000 in
set_option maxHeartbeats 1000000 in
theorem put_other (mb id : Nat) (v : Int × Int) (t : Tr) (w : World) (h : MapT w mb t) (x : Int × Int) (hx : x ≠ v) (hg : t.get 7 id = some x) : Calls Tryd.prog 9 #[.pointer (some ⟨mb, 0, none⟩), .int .u32 (id : Int), .agg #[.int .i64 v.1, .int .i64 v.2]] w (NewMap w (t.ents 7 0).length (fun t' => PutR w.heap.size id v 7 t' t)) := by
  have hb1 := (Below.refl w.heap.size w).alloc (Nat.le_refl _) (.cells #[.int .i64 v.1, .int .i64 v.2] 29)
  have hB := Box2.new w (.int .i64 v.1) (.int .i64 v.2) 29
  have hm := mget_any mb id t _ (h.later hb1)
  rw [hg] at hm
  obtain ⟨u, hu⟩ := ptr_pointer t
  have hne : (x.1 == v.1) = false ∨ ((x.1 == v.1) = true ∧ (x.2 == v.2) = false) := by
    by_cases e1 : x.1 = v.1
    · exact .inr ⟨by simpa using e1, by simp; intro e2; exact hx (Prod.ext e1 e2)⟩
    · exact .inl (by simpa using e1)
  clear hx
  rcases hne with hne | ⟨hne, hne2⟩
  all_goals
    go_enter Tryd.func9, Tryd.ntmps9
    go_wp2_with (first | (go_at_call 10; refine hm.mono ?_; rintro e w2 ⟨rfl, hb2⟩; have hV2 := hB.later hb2; have hO := Box2.new w2 (.int .i64 x.1) (.int .i64 x.2) 29; have hb3 := (Below.refl w2.heap.size w2).alloc (Nat.le_refl _) (.cells #[.int .i64 x.1, .int .i64 x.2] 29); have hM3 := ((h.later hb1).later hb2).later hb3; have hV3 := hV2.later hb3; obtain ⟨v0, v1, -, -⟩ := hV3; obtain ⟨o0, o1, -, -⟩ := hO; have m0 := hM3.2.1; have m1 := hM3.2.2.1; rw [hu] at m0) | (go_at_call 32; fail))
    have hM4 := hM3.later (Below.refl _ _).drew
    go_region_with (first | (go_at_call 32; refine (with_root id v t u hu _ hM4.2.2.2.1 hM4.2.2.2.2).mono ?_; rintro e w5 ⟨t1, b1, rfl, hu1, hL1, hP1, hb5⟩))
    all_goals
      go_wp2
      exact bodyPost_ret (v := .pointer (some ⟨w5.heap.size, 0, none⟩)) (by simp [results, Tryd.results9, go_sem]) rfl (newMap_of hu1 hL1 (put_mono (below_step (below_step hb1 hb2) hb3).size 7 hP1) (below_step (below_step (below_step hb1 hb2) hb3) (below_step ((Below.refl _ _).drew) hb5)) rfl)

set_option maxRecDepth 4000 in
set_option maxHeartbeats 1000000 in
theorem drop_none (mb id : Nat) (t : Tr) (w : World) (h : MapT w mb t) (hg : t.get 7 id = none) : Calls Tryd.prog 16 #[.pointer (some ⟨mb, 0, none⟩), .int .u32 (id : Int)] w fun e w' => e = .returned (.pointer (some ⟨mb, 0, none⟩)) ∧ Below w.heap.size w w' := by
  have hm := mget_any mb id t w h
  rw [hg] at hm
  go_enter Tryd.func16, Tryd.ntmps16
  go_wp2_with (go_at_call 10; refine hm.mono ?_; rintro e w2 ⟨rfl, hb2⟩)
  go_ret
  exact ⟨rfl, below_step hb2 ((Below.refl _ _).alloc (Nat.le_refl _) _)⟩

theorem without_root (id : Nat) (t : Tr) (u : Option Addr) (hu : t.ptr = .pointer u) (w : World) (h : Lies w t) (hw : t.wf 7) : Calls Tryd.prog 37 #[.pointer u, .int .i64 0, .int .u32 (id : Int)] w fun e w' => ∃ t' u', e = .returned (.pointer u') ∧ t'.ptr = .pointer u' ∧ Lies w' t' ∧ DropR w.heap.size id 7 t' t ∧ Below w.heap.size w w' := by
  rw [← hu]
  refine (without_any id 7 0 rfl t w h hw).mono ?_
  rintro e w' ⟨t', rfl, h1, h2, h3⟩
  obtain ⟨b, hb⟩ := ptr_pointer t'
  exact ⟨t', b, by rw [hb], hb, h1, h2, h3⟩

set_option maxRecDepth 4000 in
set_option maxHeartbeats 1000000 in
theorem drop_some (mb id N : Nat) (t : Tr) (w : World) (h : MapT w mb t) (x : Int × Int) (hg : t.get 7 id = some x) (hN : (t.ents 7 0).length = N + 1) : Calls Tryd.prog 16 #[.pointer (some ⟨mb, 0, none⟩), .int .u32 (id : Int)] w (NewMap w N (fun t' => DropR w.heap.size id 7 t' t)) := by
  have hm := mget_any mb id t w h
  rw [hg] at hm
  have hl := map_len h
  obtain ⟨u, hu⟩ := ptr_pointer t
  have hw64 : wrap64 ((((N + 1 : Nat)) : Int) - 1) = (N : Int) := by unfold wrap64; omega
  have hi64 : IntKind.i64.wrap ((((N + 1 : Nat)) : Int) - 1) = (N : Int) := by rw [IntKind.wrap_i64]; omega
  have hn64 : IntKind.i64.wrap (N : Int) = (N : Int) := by rw [IntKind.wrap_i64]; omega
  go_enter Tryd.func16, Tryd.ntmps16
  go_wp2_with (first | (go_at_call 10; refine hm.mono ?_; rintro e w2 ⟨rfl, hb2⟩; have hb3 := (Below.refl w2.heap.size w2).alloc (Nat.le_refl _) (.cells #[.int .i64 x.1, .int .i64 x.2] 29); have hM3 := (h.later hb2).later hb3; have m0 := hM3.2.1; have m1 := hM3.2.2.1; rw [hu] at m0; rw [hN] at m1) | (go_at_call 37; fail))
  have hM4 := hM3.later (Below.refl _ _).drew
  go_region_with (first | (go_at_call 37; refine (without_root id t u hu _ hM4.2.2.2.1 hM4.2.2.2.2).mono ?_; rintro e w5 ⟨t1, u1, rfl, hu1, hL1, hP1, hb5⟩; have n1 := (hM4.later hb5).2.2.1; rw [hN] at n1))
  all_goals
    go_wp2
    exact bodyPost_ret (v := .pointer (some ⟨w5.heap.size, 0, none⟩)) (by simp [results, Tryd.results16, go_sem]) rfl (newMap_of hu1 hL1 (drop_mono (below_step hb2 hb3).size 7 hP1) (below_step (below_step hb2 hb3) (below_step ((Below.refl _ _).drew) hb5)) (by first | rfl | rw [hn64]))

theorem ins_same {L : List (Nat × (Int × Int))} (hL : Rises L) {id : Nat} {v : Int × Int} (h : (id, v) ∈ L) : ins L id v = L := by
  refine rises_ext (rises_ins hL id v) hL fun e => ?_
  rw [mem_ins]
  constructor
  · rintro (rfl | ⟨-, h⟩)
    · exact h
    · exact h
  · intro he
    by_cases e1 : e.1 = id
    · refine .inl ?_
      rcases Classical.em (e = (id, v)) with h1 | h1
      · exact h1
      · exfalso
        have := List.pairwise_iff_getElem.1 hL
        obtain ⟨i, hi, ei⟩ := List.mem_iff_getElem.1 he
        obtain ⟨j, hj, ej⟩ := List.mem_iff_getElem.1 h
        rcases Nat.lt_trichotomy i j with hij | hij | hij
        · have := this i j hi hj hij
          rw [ei, ej] at this
          simp at this; omega
        · subst hij
          exact h1 (ei.symm.trans ej)
        · have := this j i hj hi hij
          rw [ei, ej] at this
          simp at this; omega
    · exact .inr ⟨e1, he⟩
theorem del_none {L : List (Nat × (Int × Int))} {id : Nat} (h : ∀ v, (id, v) ∉ L) : del L id = L := by
  unfold del
  rw [List.filter_eq_self]
  intro a ha
  simp only [decide_eq_true_eq]
  intro e
  exact h a.2 (by rw [← e]; exact ha)

theorem mem_of_get {t : Tr} (hw : t.wf 7) {id : Nat} (hi : id < 4294967296) {v : Int × Int} : (id, v) ∈ t.ents 7 0 ↔ t.get 7 id = some v := by
  rw [mem_all hw]
  constructor
  · exact fun h => h.2
  · exact fun h => ⟨hi, h⟩

/-- P3.3: what a Put answers: a map with the value at the key; all that lay before is as it was. -/
theorem mput_any (mb id : Nat) (hi : id < 4294967296) (v : Int × Int) (t : Tr) (w : World) (h : MapT w mb t) : Calls Tryd.prog 9 #[.pointer (some ⟨mb, 0, none⟩), .int .u32 (id : Int), .agg #[.int .i64 v.1, .int .i64 v.2]] w fun e w' => ∃ mb' t', e = .returned (.pointer (some ⟨mb', 0, none⟩)) ∧ MapT w' mb' t' ∧ t'.ents 7 0 = ins (t.ents 7 0) id v ∧ Below w.heap.size w w' := by
  have hw := h.2.2.2.2
  have hlen := length_ins (t.ents 7 0) id v
  cases hg : t.get 7 id with
  | none =>
    refine (put_none mb id v t w h hg).mono ?_
    rintro e w' ⟨mb', t', rfl, -, h1, h2, h3, h4, h5, h6⟩
    have he := ents_put h5 hw hi
    have hf : (t.ents 7 0).filter (fun e => decide (e.1 = id)) = [] := filter_none fun x hx => by rw [mem_of_get hw hi, hg] at hx; cases hx
    rw [hf] at hlen
    refine ⟨mb', t', rfl, ⟨h1, h2, ?_, h4, put_wf 7 h5 hw⟩, he, h6⟩
    rw [h3, he, ← hlen]
    simp
  | some x =>
    have hf := filter_one (ents_rises 7 hw 0) ((mem_of_get hw hi).2 hg)
    by_cases hx : x = v
    · subst hx
      refine (put_same mb id x t w h hg).mono ?_
      rintro e w' ⟨rfl, hb⟩
      exact ⟨mb, t, rfl, h.later hb, (ins_same (ents_rises 7 hw 0) ((mem_of_get hw hi).2 hg)).symm, hb⟩
    · refine (put_other mb id v t w h x hx hg).mono ?_
      rintro e w' ⟨mb', t', rfl, -, h1, h2, h3, h4, h5, h6⟩
      have he := ents_put h5 hw hi
      refine ⟨mb', t', rfl, ⟨h1, h2, ?_, h4, put_wf 7 h5 hw⟩, he, h6⟩
      rw [h3, he]
      congr 3
      omega

/-- P3.3: what a Drop answers. -/
theorem mdrop_any (mb id : Nat) (hi : id < 4294967296) (t : Tr) (w : World) (h : MapT w mb t) : Calls Tryd.prog 16 #[.pointer (some ⟨mb, 0, none⟩), .int .u32 (id : Int)] w fun e w' => ∃ mb' t', e = .returned (.pointer (some ⟨mb', 0, none⟩)) ∧ MapT w' mb' t' ∧ t'.ents 7 0 = del (t.ents 7 0) id ∧ Below w.heap.size w w' := by
  have hw := h.2.2.2.2
  have hlen := length_del (t.ents 7 0) id
  cases hg : t.get 7 id with
  | none =>
    refine (drop_none mb id t w h hg).mono ?_
    rintro e w' ⟨rfl, hb⟩
    exact ⟨mb, t, rfl, h.later hb, (del_none fun x hx => by rw [mem_of_get hw hi, hg] at hx; cases hx).symm, hb⟩
  | some x =>
    have hf := filter_one (ents_rises 7 hw 0) ((mem_of_get hw hi).2 hg)
    refine (drop_some mb id (del (t.ents 7 0) id).length t w h x hg (by omega)).mono ?_
    rintro e w' ⟨mb', t', rfl, -, h1, h2, h3, h4, h5, h6⟩
    have he := ents_drop h5 hw hi
    refine ⟨mb', t', rfl, ⟨h1, h2, ?_, h4, drop_wf 7 h5 hw⟩, he, h6⟩
    rw [h3, he]

end Go.Proofs.YtmppgcijbeipfaaDoor
