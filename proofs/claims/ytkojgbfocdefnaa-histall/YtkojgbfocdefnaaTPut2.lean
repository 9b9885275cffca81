import Derived.Test.YtkojgbfocdefnaaTPut
namespace Go.Proofs.Ytkojgbfocdefnaa
open Go.RowKit

set_option maxRecDepth 4000 in
set_option maxHeartbeats 1000000 in
theorem put_other (mb id : Nat) (v : Int × Int) (t : Tr) (w : World) (h : MapT w mb t) (x : Int × Int) (hx : x ≠ v) (hg : t.get 7 id = some x) : Calls Try.prog 44 #[.pointer (some ⟨mb, 0, none⟩), .int .u32 (id : Int), .agg #[.int .i64 v.1, .int .i64 v.2]] w (NewMap w (t.ents 7 0).length (fun t' => PutR w.heap.size id v 7 t' t)) := by
  have hb1 := (Below.refl w.heap.size w).alloc (Nat.le_refl _) (.cells #[.int .i64 v.1, .int .i64 v.2] 58)
  have hB := Box2.new w (.int .i64 v.1) (.int .i64 v.2) 58
  have hm := mget_any mb id t _ (h.later hb1)
  rw [hg] at hm
  obtain ⟨u, hu⟩ := ptr_pointer t
  have hne : (x.1 == v.1) = false ∨ ((x.1 == v.1) = true ∧ (x.2 == v.2) = false) := by
    by_cases e1 : x.1 = v.1
    · exact .inr ⟨by simpa using e1, by simp; intro e2; exact hx (Prod.ext e1 e2)⟩
    · exact .inl (by simpa using e1)
  clear hx
  rcases hne with hne | ⟨hne, hne2⟩
  all_goals
    go_enter Try.func44, Try.ntmps44
    go_wp2_with (first | (go_at_call 55; refine hm.mono ?_; rintro e w2 ⟨rfl, hb2⟩; have hV2 := hB.later hb2; have hO := Box2.new w2 (.int .i64 x.1) (.int .i64 x.2) 58; have hb3 := (Below.refl w2.heap.size w2).alloc (Nat.le_refl _) (.cells #[.int .i64 x.1, .int .i64 x.2] 58); have hM3 := ((h.later hb1).later hb2).later hb3; have hV3 := hV2.later hb3; obtain ⟨v0, v1, -, -⟩ := hV3; obtain ⟨o0, o1, -, -⟩ := hO; have m0 := hM3.2.1; have m1 := hM3.2.2.1; rw [hu] at m0) | (go_at_call 56; fail))
    have hM4 := hM3.later (Below.refl _ _).drew
    go_region_with (first | (go_at_call 56; refine (with_root id v t u hu _ hM4.2.2.2.1 hM4.2.2.2.2).mono ?_; rintro e w5 ⟨t1, b1, rfl, hu1, hL1, hP1, hb5⟩))
    all_goals
      go_wp2
      exact bodyPost_ret (v := .pointer (some ⟨w5.heap.size, 0, none⟩)) (by simp [results, Try.results44, go_sem]) rfl (newMap_of hu1 hL1 (put_mono (below_step (below_step hb1 hb2) hb3).size 7 hP1) (below_step (below_step (below_step hb1 hb2) hb3) (below_step ((Below.refl _ _).drew) hb5)) rfl)

theorem ins_same {L : List (Nat × (Int × Int))} (hL : Rises L) {id : Nat} {v : Int × Int} (h : (id, v) ∈ L) : ins L id v = L := by
  refine rises_ext (rises_ins hL id v) hL fun e => ?_
  rw [mem_ins]
  constructor
  · rintro (rfl | ⟨-, h⟩)
    · exact h
    · exact h
  · intro he
    by_cases e1 : e.1 = id
    · refine .inl ?_
      rcases Classical.em (e = (id, v)) with h1 | h1
      · exact h1
      · exfalso
        have := List.pairwise_iff_getElem.1 hL
        obtain ⟨i, hi, ei⟩ := List.mem_iff_getElem.1 he
        obtain ⟨j, hj, ej⟩ := List.mem_iff_getElem.1 h
        rcases Nat.lt_trichotomy i j with hij | hij | hij
        · have := this i j hi hj hij
          rw [ei, ej] at this
          simp at this; omega
        · subst hij
          exact h1 (ei.symm.trans ej)
        · have := this j i hj hi hij
          rw [ei, ej] at this
          simp at this; omega
    · exact .inr ⟨e1, he⟩
theorem del_none {L : List (Nat × (Int × Int))} {id : Nat} (h : ∀ v, (id, v) ∉ L) : del L id = L := by
  unfold del
  rw [List.filter_eq_self]
  intro a ha
  simp only [decide_eq_true_eq]
  intro e
  exact h a.2 (by rw [← e]; exact ha)

theorem mem_of_get {t : Tr} (hw : t.wf 7) {id : Nat} (hi : id < 4294967296) {v : Int × Int} : (id, v) ∈ t.ents 7 0 ↔ t.get 7 id = some v := by
  rw [mem_all hw]
  constructor
  · exact fun h => h.2
  · exact fun h => ⟨hi, h⟩

/-- P3.3: what a Put answers: a map with the value at the key; all that lay before is as it was. -/
theorem mput_any (mb id : Nat) (hi : id < 4294967296) (v : Int × Int) (t : Tr) (w : World) (h : MapT w mb t) : Calls Try.prog 44 #[.pointer (some ⟨mb, 0, none⟩), .int .u32 (id : Int), .agg #[.int .i64 v.1, .int .i64 v.2]] w fun e w' => ∃ mb' t', e = .returned (.pointer (some ⟨mb', 0, none⟩)) ∧ MapT w' mb' t' ∧ t'.ents 7 0 = ins (t.ents 7 0) id v ∧ Below w.heap.size w w' := by
  have hw := h.2.2.2.2
  have hlen := length_ins (t.ents 7 0) id v
  cases hg : t.get 7 id with
  | none =>
    refine (put_none mb id v t w h hg).mono ?_
    rintro e w' ⟨mb', t', rfl, -, h1, h2, h3, h4, h5, h6⟩
    have he := ents_put h5 hw hi
    have hf : (t.ents 7 0).filter (fun e => decide (e.1 = id)) = [] := filter_none fun x hx => by rw [mem_of_get hw hi, hg] at hx; cases hx
    rw [hf] at hlen
    refine ⟨mb', t', rfl, ⟨h1, h2, ?_, h4, put_wf 7 h5 hw⟩, he, h6⟩
    rw [h3, he, ← hlen]
    simp
  | some x =>
    have hf := filter_one (ents_rises 7 hw 0) ((mem_of_get hw hi).2 hg)
    by_cases hx : x = v
    · subst hx
      refine (put_same mb id x t w h hg).mono ?_
      rintro e w' ⟨rfl, hb⟩
      exact ⟨mb, t, rfl, h.later hb, (ins_same (ents_rises 7 hw 0) ((mem_of_get hw hi).2 hg)).symm, hb⟩
    · refine (put_other mb id v t w h x hx hg).mono ?_
      rintro e w' ⟨mb', t', rfl, -, h1, h2, h3, h4, h5, h6⟩
      have he := ents_put h5 hw hi
      refine ⟨mb', t', rfl, ⟨h1, h2, ?_, h4, put_wf 7 h5 hw⟩, he, h6⟩
      rw [h3, he]
      congr 3
      omega

end Go.Proofs.Ytkojgbfocdefnaa
