import Derived.Test.YtblfdjdhikfjhaaGreatTurnTDrop2
namespace Go.Proofs.YtblfdjdhikfjhaaGreat
open Go.RowKit

/-- A map in the world, by its tree. -/
def MapT (W : World) (mb : Nat) (t : Tr) : Prop := mb < W.heap.size ∧ W.cell? ⟨mb, 0, none⟩ = some t.ptr ∧ W.cell? ⟨mb, 1, none⟩ = some (.int .i64 ((t.ents 7 0).length : Int)) ∧ Lies W t ∧ t.wf 7
theorem MapT.later {W W' : World} {mb : Nat} {t : Tr} (h : MapT W mb t) (hb : Below W.heap.size W W') : MapT W' mb t :=
  ⟨Nat.lt_of_lt_of_le h.1 hb.size, (hb.cell (p := ⟨mb, 0, none⟩) h.1).trans h.2.1, (hb.cell (p := ⟨mb, 1, none⟩) h.1).trans h.2.2.1, h.2.2.2.1.later hb, h.2.2.2.2⟩

theorem empty_any (w : World) : Calls Tryz.prog 14 #[] w fun e w' => e = .returned (.pointer (some ⟨w.heap.size, 0, none⟩)) ∧ MapT w' w.heap.size .nil ∧ Below w.heap.size w w' := by
  go_enter Tryz.func14, Tryz.ntmps14
  go_wp2
  go_ret
  exact ⟨rfl, ⟨by simp, by simp [Tr.ptr], by simp [Tr.ents], trivial, trivial⟩, (Below.refl _ _).alloc (Nat.le_refl _) _⟩

theorem mget_any (mb id : Nat) (t : Tr) (w : World) (h : MapT w mb t) : Calls Tryz.prog 62 #[.pointer (some ⟨mb, 0, none⟩), .int .u32 (id : Int)] w fun e w' => e = .returned (.tuple #[.agg #[.int .i64 ((t.get 7 id).getD (0, 0)).1, .int .i64 ((t.get 7 id).getD (0, 0)).2], .bool (t.get 7 id).isSome]) ∧ Below w.heap.size w w' :=
  get_any mb id t w h.2.2.2.1 h.2.2.2.2 h.1 h.2.1

set_option maxRecDepth 4000 in
set_option maxHeartbeats 1000000 in
theorem put_same (mb id : Nat) (v : Int × Int) (t : Tr) (w : World) (h : MapT w mb t) (hg : t.get 7 id = some v) : Calls Tryz.prog 34 #[.pointer (some ⟨mb, 0, none⟩), .int .u32 (id : Int), .agg #[.int .i64 v.1, .int .i64 v.2]] w fun e w' => e = .returned (.pointer (some ⟨mb, 0, none⟩)) ∧ Below w.heap.size w w' := by
  have hb1 := (Below.refl w.heap.size w).alloc (Nat.le_refl _) (.cells #[.int .i64 v.1, .int .i64 v.2] 47)
  have hB := Box2.new w (.int .i64 v.1) (.int .i64 v.2) 47
  have hm := mget_any mb id t _ (h.later hb1)
  rw [hg] at hm
  go_enter Tryz.func34, Tryz.ntmps34
  go_wp2_with (go_at_call 62; refine hm.mono ?_; rintro e w2 ⟨rfl, hb2⟩; have hV2 := hB.later hb2; have hO := Box2.new w2 (.int .i64 v.1) (.int .i64 v.2) 47; have hb3 := (Below.refl w2.heap.size w2).alloc (Nat.le_refl _) (.cells #[.int .i64 v.1, .int .i64 v.2] 47); have hV3 := hV2.later hb3; obtain ⟨v0, v1, -, -⟩ := hV3; obtain ⟨o0, o1, -, -⟩ := hO)
  go_ret
  exact ⟨rfl, below_step (below_step hb1 hb2) hb3⟩

theorem map_len {W : World} {mb : Nat} {t : Tr} (h : MapT W mb t) : (t.ents 7 0).length ≤ 4294967296 := ents_length 7 h.2.2.2.2 0

theorem with_root (id : Nat) (v : Int × Int) (t : Tr) (u : Option Addr) (hu : t.ptr = .pointer u) (w : World) (h : Lies w t) (hw : t.wf 7) : Calls Tryz.prog 63 #[.pointer u, .int .i64 0, .int .u32 (id : Int), .agg #[.int .i64 v.1, .int .i64 v.2]] w fun e w' => ∃ t' b, e = .returned (.pointer (some ⟨b, 0, none⟩)) ∧ t'.ptr = .pointer (some ⟨b, 0, none⟩) ∧ Lies w' t' ∧ PutR w.heap.size id v 7 t' t ∧ Below w.heap.size w w' := by
  rw [← hu]
  refine (with_any id v 7 0 rfl t w h hw).mono ?_
  rintro e w' ⟨t', rfl, h1, h2, h3⟩
  obtain ⟨b, hb⟩ := ptr_some (put_ne h2)
  exact ⟨t', b, by rw [hb], hb, h1, h2, h3⟩

/-- A new map of a new tree. -/
def NewMap (w : World) (N : Nat) (R : Tr → Prop) (e : Ending) (w' : World) : Prop := ∃ mb' t', e = .returned (.pointer (some ⟨mb', 0, none⟩)) ∧ (w.heap.size ≤ mb' ∧ ∃ cs, w'.heap[mb']? = some (.cells cs 83 (0, 0))) ∧ mb' < w'.heap.size ∧ w'.cell? ⟨mb', 0, none⟩ = some t'.ptr ∧ w'.cell? ⟨mb', 1, none⟩ = some (.int .i64 (N : Int)) ∧ Lies w' t' ∧ R t' ∧ Below w.heap.size w w'

theorem newMap_of {w X Y : World} {N : Nat} {R : Tr → Prop} {t' : Tr} {u : Option Addr} (hu : t'.ptr = .pointer u) (hL : Lies X t') (hR : R t') (hB : Below w.heap.size w X) (hY : Y = X.alloc (.cells #[.pointer u, .int .i64 (N : Int)] 83)) : NewMap w N R (.returned (.pointer (some ⟨X.heap.size, 0, none⟩))) Y := by
  have hb : Below X.heap.size X Y := by rw [hY]; exact (Below.refl _ _).alloc (Nat.le_refl _) _
  have h2 := Box2.new X (.pointer u) (.int .i64 (N : Int)) 83
  rw [← hY] at h2
  refine ⟨X.heap.size, t', rfl, ⟨hB.size, _, by rw [hY]; exact heap_alloc_last X _⟩, by rw [hY]; simp, by rw [hu]; exact h2.1, h2.2.1, hL.later hb, hR, below_step hB hb⟩

end Go.Proofs.YtblfdjdhikfjhaaGreat


namespace Go.Proofs.YtblfdjdhikfjhaaGreat
open Go.RowKit

set_option maxRecDepth 4000 in
set_option maxHeartbeats 1000000 in
theorem put_none (mb id : Nat) (v : Int × Int) (t : Tr) (w : World) (h : MapT w mb t) (hg : t.get 7 id = none) : Calls Tryz.prog 34 #[.pointer (some ⟨mb, 0, none⟩), .int .u32 (id : Int), .agg #[.int .i64 v.1, .int .i64 v.2]] w (NewMap w ((t.ents 7 0).length + 1) (fun t' => PutR w.heap.size id v 7 t' t)) := by
  have hb1 := (Below.refl w.heap.size w).alloc (Nat.le_refl _) (.cells #[.int .i64 v.1, .int .i64 v.2] 47)
  have hB := Box2.new w (.int .i64 v.1) (.int .i64 v.2) 47
  have hm := mget_any mb id t _ (h.later hb1)
  rw [hg] at hm
  obtain ⟨u, hu⟩ := ptr_pointer t
  have hl := map_len h
  have hw64 : wrap64 (((t.ents 7 0).length : Int) + 1) = ((t.ents 7 0).length : Int) + 1 := by unfold wrap64; omega
  have hcast : (((t.ents 7 0).length + 1 : Nat) : Int) = ((t.ents 7 0).length : Int) + 1 := by omega
  go_enter Tryz.func34, Tryz.ntmps34
  go_wp2_with (first | (go_at_call 62; refine hm.mono ?_; rintro e w2 ⟨rfl, hb2⟩; have hV2 := hB.later hb2; have hO := Box2.new w2 (.int .i64 0) (.int .i64 0) 47; have hb3 := (Below.refl w2.heap.size w2).alloc (Nat.le_refl _) (.cells #[.int .i64 0, .int .i64 0] 47); have hM3 := ((h.later hb1).later hb2).later hb3; have hV3 := hV2.later hb3; obtain ⟨v0, v1, -, -⟩ := hV3; obtain ⟨o0, o1, -, -⟩ := hO; have m0 := hM3.2.1; have m1 := hM3.2.2.1; rw [hu] at m0) | (go_at_call 63; fail))
  have hM4 := hM3.later (Below.refl _ _).drew
  go_region_with (first | (go_at_call 63; refine (with_root id v t u hu _ hM4.2.2.2.1 hM4.2.2.2.2).mono ?_; rintro e w5 ⟨t1, b1, rfl, hu1, hL1, hP1, hb5⟩))
  all_goals
    go_wp2
    exact bodyPost_ret (v := .pointer (some ⟨w5.heap.size, 0, none⟩)) (by simp [results, Tryz.results34, go_sem]) rfl (newMap_of hu1 hL1 (put_mono (below_step (below_step hb1 hb2) hb3).size 7 hP1) (below_step (below_step (below_step hb1 hb2) hb3) (below_step ((Below.refl _ _).drew) hb5)) (by rw [hcast]))

end Go.Proofs.YtblfdjdhikfjhaaGreat


namespace Go.Proofs.YtblfdjdhikfjhaaGreat
open Go.RowKit

set_option maxRecDepth 4000 in
set_option maxHeartbeats 1000000 in
theorem put_other (mb id : Nat) (v : Int × Int) (t : Tr) (w : World) (h : MapT w mb t) (x : Int × Int) (hx : x ≠ v) (hg : t.get 7 id = some x) : Calls Tryz.prog 34 #[.pointer (some ⟨mb, 0, none⟩), .int .u32 (id : Int), .agg #[.int .i64 v.1, .int .i64 v.2]] w (NewMap w (t.ents 7 0).length (fun t' => PutR w.heap.size id v 7 t' t)) := by
  have hb1 := (Below.refl w.heap.size w).alloc (Nat.le_refl _) (.cells #[.int .i64 v.1, .int .i64 v.2] 47)
  have hB := Box2.new w (.int .i64 v.1) (.int .i64 v.2) 47
  have hm := mget_any mb id t _ (h.later hb1)
  rw [hg] at hm
  obtain ⟨u, hu⟩ := ptr_pointer t
  have hne : (x.1 == v.1) = false ∨ ((x.1 == v.1) = true ∧ (x.2 == v.2) = false) := by
    by_cases e1 : x.1 = v.1
    · exact .inr ⟨by simpa using e1, by simp; intro e2; exact hx (Prod.ext e1 e2)⟩
    · exact .inl (by simpa using e1)
  clear hx
  rcases hne with hne | ⟨hne, hne2⟩
  all_goals
    go_enter Tryz.func34, Tryz.ntmps34
    go_wp2_with (first | (go_at_call 62; refine hm.mono ?_; rintro e w2 ⟨rfl, hb2⟩; have hV2 := hB.later hb2; have hO := Box2.new w2 (.int .i64 x.1) (.int .i64 x.2) 47; have hb3 := (Below.refl w2.heap.size w2).alloc (Nat.le_refl _) (.cells #[.int .i64 x.1, .int .i64 x.2] 47); have hM3 := ((h.later hb1).later hb2).later hb3; have hV3 := hV2.later hb3; obtain ⟨v0, v1, -, -⟩ := hV3; obtain ⟨o0, o1, -, -⟩ := hO; have m0 := hM3.2.1; have m1 := hM3.2.2.1; rw [hu] at m0) | (go_at_call 63; fail))
    have hM4 := hM3.later (Below.refl _ _).drew
    go_region_with (first | (go_at_call 63; refine (with_root id v t u hu _ hM4.2.2.2.1 hM4.2.2.2.2).mono ?_; rintro e w5 ⟨t1, b1, rfl, hu1, hL1, hP1, hb5⟩))
    all_goals
      go_wp2
      exact bodyPost_ret (v := .pointer (some ⟨w5.heap.size, 0, none⟩)) (by simp [results, Tryz.results34, go_sem]) rfl (newMap_of hu1 hL1 (put_mono (below_step (below_step hb1 hb2) hb3).size 7 hP1) (below_step (below_step (below_step hb1 hb2) hb3) (below_step ((Below.refl _ _).drew) hb5)) rfl)

set_option maxRecDepth 4000 in
set_option maxHeartbeats 1000000 in
theorem drop_none (mb id : Nat) (t : Tr) (w : World) (h : MapT w mb t) (hg : t.get 7 id = none) : Calls Tryz.prog 107 #[.pointer (some ⟨mb, 0, none⟩), .int .u32 (id : Int)] w fun e w' => e = .returned (.pointer (some ⟨mb, 0, none⟩)) ∧ Below w.heap.size w w' := by
  have hm := mget_any mb id t w h
  rw [hg] at hm
  go_enter Tryz.func107, Tryz.ntmps107
  go_wp2_with (go_at_call 62; refine hm.mono ?_; rintro e w2 ⟨rfl, hb2⟩)
  go_ret
  exact ⟨rfl, below_step hb2 ((Below.refl _ _).alloc (Nat.le_refl _) _)⟩

theorem without_root (id : Nat) (t : Tr) (u : Option Addr) (hu : t.ptr = .pointer u) (w : World) (h : Lies w t) (hw : t.wf 7) : Calls Tryz.prog 118 #[.pointer u, .int .i64 0, .int .u32 (id : Int)] w fun e w' => ∃ t' u', e = .returned (.pointer u') ∧ t'.ptr = .pointer u' ∧ Lies w' t' ∧ DropR w.heap.size id 7 t' t ∧ Below w.heap.size w w' := by
  rw [← hu]
  refine (without_any id 7 0 rfl t w h hw).mono ?_
  rintro e w' ⟨t', rfl, h1, h2, h3⟩
  obtain ⟨b, hb⟩ := ptr_pointer t'
  exact ⟨t', b, by rw [hb], hb, h1, h2, h3⟩

set_option maxRecDepth 4000 in
set_option maxHeartbeats 1000000 in
theorem drop_some (mb id N : Nat) (t : Tr) (w : World) (h : MapT w mb t) (x : Int × Int) (hg : t.get 7 id = some x) (hN : (t.ents 7 0).length = N + 1) : Calls Tryz.prog 107 #[.pointer (some ⟨mb, 0, none⟩), .int .u32 (id : Int)] w (NewMap w N (fun t' => DropR w.heap.size id 7 t' t)) := by
  have hm := mget_any mb id t w h
  rw [hg] at hm
  have hl := map_len h
  obtain ⟨u, hu⟩ := ptr_pointer t
  have hw64 : wrap64 ((((N + 1 : Nat)) : Int) - 1) = (N : Int) := by unfold wrap64; omega
  have hi64 : IntKind.i64.wrap ((((N + 1 : Nat)) : Int) - 1) = (N : Int) := by rw [IntKind.wrap_i64]; omega
  have hn64 : IntKind.i64.wrap (N : Int) = (N : Int) := by rw [IntKind.wrap_i64]; omega
  go_enter Tryz.func107, Tryz.ntmps107
  go_wp2_with (first | (go_at_call 62; refine hm.mono ?_; rintro e w2 ⟨rfl, hb2⟩; have hb3 := (Below.refl w2.heap.size w2).alloc (Nat.le_refl _) (.cells #[.int .i64 x.1, .int .i64 x.2] 47); have hM3 := (h.later hb2).later hb3; have m0 := hM3.2.1; have m1 := hM3.2.2.1; rw [hu] at m0; rw [hN] at m1) | (go_at_call 118; fail))
  have hM4 := hM3.later (Below.refl _ _).drew
  go_region_with (first | (go_at_call 118; refine (without_root id t u hu _ hM4.2.2.2.1 hM4.2.2.2.2).mono ?_; rintro e w5 ⟨t1, u1, rfl, hu1, hL1, hP1, hb5⟩; have n1 := (hM4.later hb5).2.2.1; rw [hN] at n1))
  all_goals
    go_wp2
    exact bodyPost_ret (v := .pointer (some ⟨w5.heap.size, 0, none⟩)) (by simp [results, Tryz.results107, go_sem]) rfl (newMap_of hu1 hL1 (drop_mono (below_step hb2 hb3).size 7 hP1) (below_step (below_step hb2 hb3) (below_step ((Below.refl _ _).drew) hb5)) (by first | rfl | rw [hn64]))

theorem ins_same {L : List (Nat × (Int × Int))} (hL : Rises L) {id : Nat} {v : Int × Int} (h : (id, v) ∈ L) : ins L id v = L := by
  refine rises_ext (rises_ins hL id v) hL fun e => ?_
  rw [mem_ins]
  constructor
  · rintro (rfl | ⟨-, h⟩)
    · exact h
    · exact h
  · intro he
    by_cases e1 : e.1 = id
    · refine .inl ?_
      rcases Classical.em (e = (id, v)) with h1 | h1
      · exact h1
      · exfalso
        have := List.pairwise_iff_getElem.1 hL
        obtain ⟨i, hi, ei⟩ := List.mem_iff_getElem.1 he
        obtain ⟨j, hj, ej⟩ := List.mem_iff_getElem.1 h
        rcases Nat.lt_trichotomy i j with hij | hij | hij
        · have := this i j hi hj hij
          rw [ei, ej] at this
          simp at this; omega
        · subst hij
          exact h1 (ei.symm.trans ej)
        · have := this j i hj hi hij
          rw [ei, ej] at this
          simp at this; omega
    · exact .inr ⟨e1, he⟩
theorem del_none {L : List (Nat × (Int × Int))} {id : Nat} (h : ∀ v, (id, v) ∉ L) : del L id = L := by
  unfold del
  rw [List.filter_eq_self]
  intro a ha
  simp only [decide_eq_true_eq]
  intro e
  exact h a.2 (by rw [← e]; exact ha)

theorem mem_of_get {t : Tr} (hw : t.wf 7) {id : Nat} (hi : id < 4294967296) {v : Int × Int} : (id, v) ∈ t.ents 7 0 ↔ t.get 7 id = some v := by
  rw [mem_all hw]
  constructor
  · exact fun h => h.2
  · exact fun h => ⟨hi, h⟩

/-- P3.3: what a Put answers: a map with the value at the key; all that lay before is as it was. -/
theorem mput_any (mb id : Nat) (hi : id < 4294967296) (v : Int × Int) (t : Tr) (w : World) (h : MapT w mb t) : Calls Tryz.prog 34 #[.pointer (some ⟨mb, 0, none⟩), .int .u32 (id : Int), .agg #[.int .i64 v.1, .int .i64 v.2]] w fun e w' => ∃ mb' t', e = .returned (.pointer (some ⟨mb', 0, none⟩)) ∧ MapT w' mb' t' ∧ t'.ents 7 0 = ins (t.ents 7 0) id v ∧ Below w.heap.size w w' := by
  have hw := h.2.2.2.2
  have hlen := length_ins (t.ents 7 0) id v
  cases hg : t.get 7 id with
  | none =>
    refine (put_none mb id v t w h hg).mono ?_
    rintro e w' ⟨mb', t', rfl, -, h1, h2, h3, h4, h5, h6⟩
    have he := ents_put h5 hw hi
    have hf : (t.ents 7 0).filter (fun e => decide (e.1 = id)) = [] := filter_none fun x hx => by rw [mem_of_get hw hi, hg] at hx; cases hx
    rw [hf] at hlen
    refine ⟨mb', t', rfl, ⟨h1, h2, ?_, h4, put_wf 7 h5 hw⟩, he, h6⟩
    rw [h3, he, ← hlen]
    simp
  | some x =>
    have hf := filter_one (ents_rises 7 hw 0) ((mem_of_get hw hi).2 hg)
    by_cases hx : x = v
    · subst hx
      refine (put_same mb id x t w h hg).mono ?_
      rintro e w' ⟨rfl, hb⟩
      exact ⟨mb, t, rfl, h.later hb, (ins_same (ents_rises 7 hw 0) ((mem_of_get hw hi).2 hg)).symm, hb⟩
    · refine (put_other mb id v t w h x hx hg).mono ?_
      rintro e w' ⟨mb', t', rfl, -, h1, h2, h3, h4, h5, h6⟩
      have he := ents_put h5 hw hi
      refine ⟨mb', t', rfl, ⟨h1, h2, ?_, h4, put_wf 7 h5 hw⟩, he, h6⟩
      rw [h3, he]
      congr 3
      omega

/-- P3.3: what a Drop answers. -/
theorem mdrop_any (mb id : Nat) (hi : id < 4294967296) (t : Tr) (w : World) (h : MapT w mb t) : Calls Tryz.prog 107 #[.pointer (some ⟨mb, 0, none⟩), .int .u32 (id : Int)] w fun e w' => ∃ mb' t', e = .returned (.pointer (some ⟨mb', 0, none⟩)) ∧ MapT w' mb' t' ∧ t'.ents 7 0 = del (t.ents 7 0) id ∧ Below w.heap.size w w' := by
  have hw := h.2.2.2.2
  have hlen := length_del (t.ents 7 0) id
  cases hg : t.get 7 id with
  | none =>
    refine (drop_none mb id t w h hg).mono ?_
    rintro e w' ⟨rfl, hb⟩
    exact ⟨mb, t, rfl, h.later hb, (del_none fun x hx => by rw [mem_of_get hw hi, hg] at hx; cases hx).symm, hb⟩
  | some x =>
    have hf := filter_one (ents_rises 7 hw 0) ((mem_of_get hw hi).2 hg)
    refine (drop_some mb id (del (t.ents 7 0) id).length t w h x hg (by omega)).mono ?_
    rintro e w' ⟨mb', t', rfl, -, h1, h2, h3, h4, h5, h6⟩
    have he := ents_drop h5 hw hi
    refine ⟨mb', t', rfl, ⟨h1, h2, ?_, h4, drop_wf 7 h5 hw⟩, he, h6⟩
    rw [h3, he]

end Go.Proofs.YtblfdjdhikfjhaaGreat


namespace Go.Proofs.YtblfdjdhikfjhaaGreat
open Go.RowKit

/-- The entries from a key on, as search goes through them. -/
def Tr.fromL : Tr → Nat → Nat → Nat → List (Nat × (Int × Int))
  | .nil, _, _, _ => []
  | .node _ kids, n, p, low => ((List.range 16).drop (dg low n)).flatMap fun i => (kids i).fromL (n - 1) (p + i * 16 ^ n) (if i = dg low n then low else 0)
  | .leaf _ _ th vk vn, _, p, low => ((List.range 16).drop (dg low 0)).filterMap fun i => if th i = true then some (p + i, (vk i, vn i)) else none

theorem dg_none (n : Nat) : dg 0 n = 0 := by simp [dg]
theorem fromL_all : ∀ (t : Tr) (n p : Nat), t.fromL n p 0 = t.ents n p := by
  intro t
  induction t with
  | nil => intros; rfl
  | node b kids ih =>
    intro n p
    show ((List.range 16).drop (dg 0 n)).flatMap _ = (List.range 16).flatMap _
    rw [dg_none, List.drop_zero]
    congr 1
    funext i
    rw [← ih i]
    split <;> rfl
  | leaf b s th vk vn =>
    intro n p
    show ((List.range 16).drop (dg 0 0)).filterMap _ = (List.range 16).filterMap _
    rw [dg_none, List.drop_zero]

/-- What is asked of the function that an iterator hands its entries to: J: what holds while it goes on, by what was given; Jx: what holds once it was told to stop. -/
structure Takes (f : Nat) (T : Addr) (t : Tr) (J Jx : List (Nat × (Int × Int)) → World → Prop) : Prop where
  lies : ∀ done X, J done X → Lies X t
  liesx : ∀ done X, Jx done X → Lies X t
  draw : ∀ done X n, J done X → J done (X.drewN n)
  call : ∀ done X (k : Nat) (x y : Int), k < 4294967296 → J done X → Calls Tryz.prog f #[.pointer (some T), .int .u32 (k : Int), .agg #[.int .i64 x, .int .i64 y]] X fun e X' => ∃ o : Bool, e = .returned (.bool o) ∧ (o = true → J (done ++ [(k, (x, y))]) X') ∧ (o = false → Jx (done ++ [(k, (x, y))]) X')

theorem takes_lies {f : Nat} {T : Addr} {t : Tr} {J Jx : List (Nat × (Int × Int)) → World → Prop} (hT : Takes f T t J Jx) {d : List (Nat × (Int × Int))} {X : World} (o : Bool) (h1 : o = true → J d X) (h2 : o = false → Jx d X) : Lies X t := by
  cases o with
  | true => exact hT.lies _ _ (h1 rfl)
  | false => exact hT.liesx _ _ (h2 rfl)

/-- The entries of a shelf's places from first on and below j. -/
def seg (th : Nat → Bool) (vk vn : Nat → Int) (p first j : Nat) : List (Nat × (Int × Int)) := ((List.range j).drop first).filterMap fun i => if th i = true then some (p + i, (vk i, vn i)) else none
theorem drop_range_succ {a j : Nat} (h : a ≤ j) : (List.range (j + 1)).drop a = (List.range j).drop a ++ [j] := by
  rw [List.range_succ, List.drop_append_of_le_length (by simpa using h)]
theorem seg_yes {th : Nat → Bool} {vk vn : Nat → Int} {p first j : Nat} (h : first ≤ j) (ht : th j = true) : seg th vk vn p first (j + 1) = seg th vk vn p first j ++ [(p + j, (vk j, vn j))] := by
  unfold seg
  rw [drop_range_succ h, List.filterMap_append]
  simp [ht]
theorem seg_no {th : Nat → Bool} {vk vn : Nat → Int} {p first j : Nat} (h : first ≤ j) (ht : th j = false) : seg th vk vn p first (j + 1) = seg th vk vn p first j := by
  unfold seg
  rw [drop_range_succ h, List.filterMap_append]
  simp [ht]
theorem seg_first (th : Nat → Bool) (vk vn : Nat → Int) (p first : Nat) : seg th vk vn p first first = [] := by
  unfold seg
  rw [List.drop_of_length_le (by simp)]
  rfl
theorem seg_prefix {th : Nat → Bool} {vk vn : Nat → Int} {p first : Nat} {j : Nat} : ∀ {k : Nat}, first ≤ j → j ≤ k → seg th vk vn p first j <+: seg th vk vn p first k := by
  intro k h1 h2
  obtain ⟨m, rfl⟩ : ∃ m, k = j + m := ⟨k - j, by omega⟩
  clear h2
  induction m with
  | zero => exact List.prefix_refl _
  | succ m ih =>
    refine List.IsPrefix.trans ih ?_
    cases ht : th (j + m) with
    | true => rw [show j + (m + 1) = (j + m) + 1 from rfl, seg_yes (by omega) ht]; exact List.prefix_append _ _
    | false => rw [show j + (m + 1) = (j + m) + 1 from rfl, seg_no (by omega) ht]; exact List.prefix_refl _

/-- How a search ends: it went through all of the list, or was told to stop. -/
def Ends (J Jx : List (Nat × (Int × Int)) → World → Prop) (done L : List (Nat × (Int × Int))) (e : Ending) (w' : World) : Prop := ∃ o : Bool, e = .returned (.bool o) ∧ (o = true → J (done ++ L) w') ∧ (o = false → ∃ pre, pre <+: L ∧ Jx (done ++ pre) w')

theorem head_bottom (p a k : Nat) (hk : p + a = k) (hp : p < 4294967296) (hm : p % 16 = 0) (ha : a < 16) (w : World) : Calls Tryz.prog 92 #[.int .u32 (p : Int), .int .i64 7, .int .i64 (a : Int)] w fun e w' => e = .returned (.int .u32 (k : Int)) ∧ w' = w := by
  have := head_any 0 7 rfl p a hp (by simpa using hm) ha w
  rw [Nat.pow_zero, Nat.mul_one, hk] at this
  exact this

theorem fromL_leaf (b s : Nat) (th : Nat → Bool) (vk vn : Nat → Int) (n p low : Nat) : (Tr.leaf b s th vk vn).fromL n p low = seg th vk vn p (dg low 0) 16 := rfl

/-- The entries of a node's children from first on and below j. -/
def segs (kids : Nat → Tr) (n p low j : Nat) : List (Nat × (Int × Int)) := ((List.range j).drop (dg low (n + 1))).flatMap fun i => (kids i).fromL n (p + i * 16 ^ (n + 1)) (if i = dg low (n + 1) then low else 0)
theorem segs_step {kids : Nat → Tr} {n p low j : Nat} (h : dg low (n + 1) ≤ j) : segs kids n p low (j + 1) = segs kids n p low j ++ (kids j).fromL n (p + j * 16 ^ (n + 1)) (if j = dg low (n + 1) then low else 0) := by
  unfold segs
  rw [drop_range_succ h, List.flatMap_append]
  simp
theorem segs_first (kids : Nat → Tr) (n p low : Nat) : segs kids n p low (dg low (n + 1)) = [] := by
  unfold segs
  rw [List.drop_of_length_le (by simp)]
  rfl
theorem segs_prefix {kids : Nat → Tr} {n p low j : Nat} : ∀ {k : Nat}, dg low (n + 1) ≤ j → j ≤ k → segs kids n p low j <+: segs kids n p low k := by
  intro k h1 h2
  obtain ⟨m, rfl⟩ : ∃ m, k = j + m := ⟨k - j, by omega⟩
  clear h2
  induction m with
  | zero => exact List.prefix_refl _
  | succ m ih =>
    refine List.IsPrefix.trans ih ?_
    rw [show j + (m + 1) = (j + m) + 1 from rfl, segs_step (by omega)]
    exact List.prefix_append _ _
theorem fromL_node (b : Nat) (kids : Nat → Tr) (n p low : Nat) : (Tr.node b kids).fromL (n + 1) p low = segs kids n p low 16 := rfl

theorem Takes.kid {f : Nat} {T : Addr} {t : Tr} {J Jx : List (Nat × (Int × Int)) → World → Prop} (hT : Takes f T t J Jx) {i : Nat} (hi : i < 16) : Takes f T (t.kid i) J Jx :=
  ⟨fun d X h => (hT.lies d X h).kid hi, fun d X h => (hT.liesx d X h).kid hi, hT.draw, hT.call⟩

theorem digit_low (low : Nat) (w : World) : Calls Tryz.prog 76 #[.int .u32 (low : Int), .int .i64 7] w fun e w' => e = .returned (.int .i64 (dg low 0 : Int)) ∧ w' = w := digit_any 0 7 rfl low w

theorem search_nil (l : Nat) (J Jx : List (Nat × (Int × Int)) → World → Prop) (p low n : Nat) (done : List (Nat × (Int × Int))) (w : World) (h : J done w) (f : Value) :
    Calls Tryz.prog 80 #[.pointer none, .int .i64 (l : Int), .int .u32 (p : Int), .int .u32 (low : Int), f] w (Ends J Jx done (Tr.nil.fromL n p low)) := by
  go_enter Tryz.func80, Tryz.ntmps80
  go_wp2
  go_ret
  exact ⟨true, rfl, fun _ => by rw [show Tr.nil.fromL n p low = [] from rfl, List.append_nil]; exact h, fun e => (by cases e)⟩

theorem head_at (n l : Nat) (hl : l + (n + 1) = 7) (p a k : Nat) (hk : p + a * 16 ^ (n + 1) = k) (hp : p < 4294967296) (hm : p % 16 ^ (n + 1 + 1) = 0) (ha : a < 16) (w : World) : Calls Tryz.prog 92 #[.int .u32 (p : Int), .int .i64 (l : Int), .int .i64 (a : Int)] w fun e w' => e = .returned (.int .u32 (k : Int)) ∧ w' = w := by
  have := head_any (n + 1) l hl p a hp hm ha w
  rw [hk] at this
  exact this

end Go.Proofs.YtblfdjdhikfjhaaGreat
