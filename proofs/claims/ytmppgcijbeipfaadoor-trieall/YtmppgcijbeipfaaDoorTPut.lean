import Derived.Test.YtmppgcijbeipfaaDoorTMap
namespace Go.Proofs.YtmppgcijbeipfaaDoor
open Go.RowKit

set_option maxRecDepth 4000 in
set_option maxHeartbeats 1000000 in
theorem put_none (mb id : Nat) (v : Int × Int) (t : Tr) (w : World) (h : MapT w mb t) (hg : t.get 7 id = none) : Calls Tryd.prog 9 #[.pointer (some ⟨mb, 0, none⟩), .int .u32 (id : Int), .agg #[.int .i64 v.1, .int .i64 v.2]] w (NewMap w ((t.ents 7 0).length + 1) (fun t' => PutR w.heap.size id v 7 t' t)) := by
  have hb1 := (Below.refl w.heap.size w).alloc (Nat.le_refl _) (.cells #[.int .i64 v.1, .int .i64 v.2] 29)
  have hB := Box2.new w (.int .i64 v.1) (.int .i64 v.2) 29
  have hm := mget_any mb id t _ (h.later hb1)
  rw [hg] at hm
  obtain ⟨u, hu⟩ := ptr_pointer t
  have hl := map_len h
  have hw64 : wrap64 (((t.ents 7 0).length : Int) + 1) = ((t.ents 7 0).length : Int) + 1 := by unfold wrap64; omega
  have hcast : (((t.ents 7 0).length + 1 : Nat) : Int) = ((t.ents 7 0).length : Int) + 1 := by omega
  go_enter Tryd.func9, Tryd.ntmps9
  go_wp2_with (first | (go_at_call 10; refine hm.mono ?_; rintro e w2 ⟨rfl, hb2⟩; have hV2 := hB.later hb2; have hO := Box2.new w2 (.int .i64 0) (.int .i64 0) 29; have hb3 := (Below.refl w2.heap.size w2).alloc (Nat.le_refl _) (.cells #[.int .i64 0, .int .i64 0] 29); have hM3 := ((h.later hb1).later hb2).later hb3; have hV3 := hV2.later hb3; obtain ⟨v0, v1, -, -⟩ := hV3; obtain ⟨o0, o1, -, -⟩ := hO; have m0 := hM3.2.1; have m1 := hM3.2.2.1; rw [hu] at m0) | (go_at_call 32; fail))
  have hM4 := hM3.later (Below.refl _ _).drew
  go_region_with (first | (go_at_call 32; refine (with_root id v t u hu _ hM4.2.2.2.1 hM4.2.2.2.2).mono ?_; rintro e w5 ⟨t1, b1, rfl, hu1, hL1, hP1, hb5⟩))
  all_goals
    go_wp2
    exact bodyPost_ret (v := .pointer (some ⟨w5.heap.size, 0, none⟩)) (by simp [results, Tryd.results9, go_sem]) rfl (newMap_of hu1 hL1 (put_mono (below_step (below_step hb1 hb2) hb3).size 7 hP1) (below_step (below_step (below_step hb1 hb2) hb3) (below_step ((Below.refl _ _).drew) hb5)) (by rw [hcast]))

end Go.Proofs.YtmppgcijbeipfaaDoor
