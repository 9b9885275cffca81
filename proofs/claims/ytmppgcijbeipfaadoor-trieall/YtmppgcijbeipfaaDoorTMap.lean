import Derived.Test.YtmppgcijbeipfaaDoorTDrop2
namespace Go.Proofs.YtmppgcijbeipfaaDoor
open Go.RowKit

/-- A map in the world, by its tree. -/
def MapT (W : World) (mb : Nat) (t : Tr) : Prop := mb < W.heap.size ∧ W.cell? ⟨mb, 0, none⟩ = some t.ptr ∧ W.cell? ⟨mb, 1, none⟩ = some (.int .i64 ((t.ents 7 0).length : Int)) ∧ Lies W t ∧ t.wf 7
theorem MapT.later {W W' : World} {mb : Nat} {t : Tr} (h : MapT W mb t) (hb : Below W.heap.size W W') : MapT W' mb t :=
  ⟨Nat.lt_of_lt_of_le h.1 hb.size, (hb.cell (p := ⟨mb, 0, none⟩) h.1).trans h.2.1, (hb.cell (p := ⟨mb, 1, none⟩) h.1).trans h.2.2.1, h.2.2.2.1.later hb, h.2.2.2.2⟩

theorem empty_any (w : World) : Calls Tryd.prog 7 #[] w fun e w' => e = .returned (.pointer (some ⟨w.heap.size, 0, none⟩)) ∧ MapT w' w.heap.size .nil ∧ Below w.heap.size w w' := by
  go_enter Tryd.func7, Tryd.ntmps7
  go_wp2
  go_ret
  exact ⟨rfl, ⟨by simp, by simp [Tr.ptr], by simp [Tr.ents], trivial, trivial⟩, (Below.refl _ _).alloc (Nat.le_refl _) _⟩

theorem len_any (mb : Nat) (t : Tr) (w : World) (h : MapT w mb t) : Calls Tryd.prog 13 #[.pointer (some ⟨mb, 0, none⟩)] w fun e w' => e = .returned (.int .i64 ((t.ents 7 0).length : Int)) ∧ w' = w := by
  have c1 := h.2.2.1
  go_enter Tryd.func13, Tryd.ntmps13
  go_wp2
  go_ret
  exact ⟨rfl, rfl⟩

theorem mget_any (mb id : Nat) (t : Tr) (w : World) (h : MapT w mb t) : Calls Tryd.prog 10 #[.pointer (some ⟨mb, 0, none⟩), .int .u32 (id : Int)] w fun e w' => e = .returned (.tuple #[.agg #[.int .i64 ((t.get 7 id).getD (0, 0)).1, .int .i64 ((t.get 7 id).getD (0, 0)).2], .bool (t.get 7 id).isSome]) ∧ Below w.heap.size w w' :=
  get_any mb id t w h.2.2.2.1 h.2.2.2.2 h.1 h.2.1

set_option maxRecDepth 4000 in
set_option maxHeartbeats 1000000 in
theorem put_same (mb id : Nat) (v : Int × Int) (t : Tr) (w : World) (h : MapT w mb t) (hg : t.get 7 id = some v) : Calls Tryd.prog 9 #[.pointer (some ⟨mb, 0, none⟩), .int .u32 (id : Int), .agg #[.int .i64 v.1, .int .i64 v.2]] w fun e w' => e = .returned (.pointer (some ⟨mb, 0, none⟩)) ∧ Below w.heap.size w w' := by
  have hb1 := (Below.refl w.heap.size w).alloc (Nat.le_refl _) (.cells #[.int .i64 v.1, .int .i64 v.2] 29)
  have hB := Box2.new w (.int .i64 v.1) (.int .i64 v.2) 29
  have hm := mget_any mb id t _ (h.later hb1)
  rw [hg] at hm
  go_enter Tryd.func9, Tryd.ntmps9
  go_wp2_with (go_at_call 10; refine hm.mono ?_; rintro e w2 ⟨rfl, hb2⟩; have hV2 := hB.later hb2; have hO := Box2.new w2 (.int .i64 v.1) (.int .i64 v.2) 29; have hb3 := (Below.refl w2.heap.size w2).alloc (Nat.le_refl _) (.cells #[.int .i64 v.1, .int .i64 v.2] 29); have hV3 := hV2.later hb3; obtain ⟨v0, v1, -, -⟩ := hV3; obtain ⟨o0, o1, -, -⟩ := hO)
  go_ret
  exact ⟨rfl, below_step (below_step hb1 hb2) hb3⟩

theorem map_len {W : World} {mb : Nat} {t : Tr} (h : MapT W mb t) : (t.ents 7 0).length ≤ 4294967296 := ents_length 7 h.2.2.2.2 0

theorem with_root (id : Nat) (v : Int × Int) (t : Tr) (u : Option Addr) (hu : t.ptr = .pointer u) (w : World) (h : Lies w t) (hw : t.wf 7) : Calls Tryd.prog 32 #[.pointer u, .int .i64 0, .int .u32 (id : Int), .agg #[.int .i64 v.1, .int .i64 v.2]] w fun e w' => ∃ t' b, e = .returned (.pointer (some ⟨b, 0, none⟩)) ∧ t'.ptr = .pointer (some ⟨b, 0, none⟩) ∧ Lies w' t' ∧ PutR w.heap.size id v 7 t' t ∧ Below w.heap.size w w' := by
  rw [← hu]
  refine (with_any id v 7 0 rfl t w h hw).mono ?_
  rintro e w' ⟨t', rfl, h1, h2, h3⟩
  obtain ⟨b, hb⟩ := ptr_some (put_ne h2)
  exact ⟨t', b, by rw [hb], hb, h1, h2, h3⟩

/-- A new map of a new tree. -/
def NewMap (w : World) (N : Nat) (R : Tr → Prop) (e : Ending) (w' : World) : Prop := ∃ mb' t', e = .returned (.pointer (some ⟨mb', 0, none⟩)) ∧ w.heap.size ≤ mb' ∧ mb' < w'.heap.size ∧ w'.cell? ⟨mb', 0, none⟩ = some t'.ptr ∧ w'.cell? ⟨mb', 1, none⟩ = some (.int .i64 (N : Int)) ∧ Lies w' t' ∧ R t' ∧ Below w.heap.size w w'

theorem newMap_of {w X Y : World} {N : Nat} {R : Tr → Prop} {t' : Tr} {u : Option Addr} (hu : t'.ptr = .pointer u) (hL : Lies X t') (hR : R t') (hB : Below w.heap.size w X) (hY : Y = X.alloc (.cells #[.pointer u, .int .i64 (N : Int)] 72)) : NewMap w N R (.returned (.pointer (some ⟨X.heap.size, 0, none⟩))) Y := by
  have hb : Below X.heap.size X Y := by rw [hY]; exact (Below.refl _ _).alloc (Nat.le_refl _) _
  have h2 := Box2.new X (.pointer u) (.int .i64 (N : Int)) 72
  rw [← hY] at h2
  refine ⟨X.heap.size, t', rfl, hB.size, by rw [hY]; simp, by rw [hu]; exact h2.1, h2.2.1, hL.later hb, hR, below_step hB hb⟩

end Go.Proofs.YtmppgcijbeipfaaDoor
