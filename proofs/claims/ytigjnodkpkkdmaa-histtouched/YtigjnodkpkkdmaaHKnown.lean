import Derived.Test.YtigjnodkpkkdmaaHPlay
namespace Go.Proofs.Ytigjnodkpkkdmaa
open Go.RowKit

theorem own_lenH {w : World} {base n size : Nat} {e : TypeId} {v : Value} {xs : List Value} (h : w.ownsRow base e size v n xs) : ∃ a cap, v = .slice a n cap := by
  obtain ⟨_, ⟨h, h0⟩ | ⟨g, cap, cur, rfl, _⟩⟩ := h
  · subst h0; exact ⟨none, 0, h⟩
  · exact ⟨_, _, rfl⟩
/-- entries, and what is asked of its answer. -/
theorem ents_map (mb : Nat) (L : Es) (n : Nat) (hn : L.length = n) (hl : n ≤ 200) (w : World) (h : MapE w mb L) :
    Calls Try.prog 15 #[.pointer (some ⟨mb, 0, none⟩)] w fun e w' => ∃ a cap, e = .returned (.slice a n cap) ∧ EntsAt w' (.slice a n cap) L ∧ Below w.heap.size w w' := by
  subst hn
  refine (entries_any mb L (by omega) w h).mono ?_
  rintro e w' ⟨ev, rfl, ho, hb⟩
  have he := ents_of_own ho
  obtain ⟨a, cap, rfl⟩ := own_lenH ho
  exact ⟨a, cap, rfl, he, hb⟩
theorem entA_nil (w : World) : EntA w (.slice none 0 0) [] := ⟨none, 0, rfl, by simp, by simp, by simp, .inl rfl⟩
theorem entA_one (w : World) (k : Nat) (hk : k < 4294967296) (ki : Int) (hki : ki = (k : Int)) (x y : Int) : EntA (w.alloc (.cells #[.int .u32 ki, .int .i64 x, .int .i64 y] 43)) (.slice (some ⟨w.heap.size, 0, none⟩) 1 1) [(k, (x, y))] := by
  subst hki
  have h := heap_alloc_last w (.cells #[.int .u32 (k : Int), .int .i64 x, .int .i64 y] 43)
  refine ⟨_, 1, rfl, by simp, by simp, ?_, .inr ⟨w.heap.size, 0, rfl, by simp, fun i hi => ?_⟩⟩
  · intro e he
    rw [List.mem_singleton.1 he]
    exact hk
  · obtain rfl : i = 0 := by simp at hi; omega
    exact ⟨cell_of_row _ _ 0 _ _ _ h, cell_of_row _ _ 1 _ _ _ h, cell_of_row _ _ 2 _ _ _ h⟩
theorem mkE_one (k : Nat) (v : Int × Int) : mkE [(k, v)] = [(k, v)] := rfl

set_option maxRecDepth 4000 in
set_option maxHeartbeats 4000000 in
theorem known_hist (w : World) : Calls Try.prog 4 #[] w fun e w' => e = .returned (.bool true) ∧ Below w.heap.size w w' := by
  go_enter Try.func4, Try.ntmps4
  go_wp2_with (first
    | (go_at_call_of 13 (Value.slice none 0 0); refine (build_any _ [] _ (entA_nil _)).mono ?_; rintro e w1 ⟨mb1, rfl, hm1, hb1⟩; have hq2 := build_any _ _ _ (entA_one w1 3 (by decide) 3 rfl 1 7); have hbA := (Below.refl w1.heap.size w1).alloc (Nat.le_refl _) (.cells #[.int .u32 3, .int .i64 1, .int .i64 7] 43))
    | (go_at_call 13; refine hq2.mono ?_; rintro e w2 ⟨mb2, rfl, hm2, hb2⟩; rw [mkE_one] at hm2; have hq3 := new_any mb1 [] (by simp) _ ((hm1.later hbA).later hb2))
    | (go_at_call 5; refine hq3.mono ?_; rintro e w3 ⟨hb, rfl, hlo, hH3, hb3⟩; have hq4 := push_some hb mb2 [[]] 0 (by decide) [(3, (1, 7))] (by decide) _ hH3 (hm2.later hb3); have hB3 := below_step (below_step (below_step hb1 hbA) hb2) hb3)
    | (go_at_call 14; refine hq4.mono ?_; rintro e w4 ⟨rfl, hH4, hg4⟩; have hq5 := now_any hb [[], [(3, (1, 7))]] 1 _ hH4)
    | (go_at_call 16; refine hq5.mono ?_; rintro e w5 ⟨mb5, rfl, hm5, -, hb5⟩; have hq6 := ents_map mb5 [(3, (1, 7))] 1 rfl (by decide) _ hm5)
    | (go_at_call_of 15 (Value.pointer (some ⟨mb5, 0, none⟩)); refine hq6.mono ?_; rintro e w6 ⟨a6, c6, rfl, -, hb6⟩; have hq7 := undo_some hb [[], [(3, (1, 7))]] 0 _ ((HistAt.later (p := 1) hH4 hb5).later hb6))
    | (go_at_call 17; refine hq7.mono ?_; rintro e w7 ⟨mb7, rfl, hm7, -, hH7, hg7⟩; have hq8 := redo_some hb [[], [(3, (1, 7))]] 0 (by decide) _ hH7; obtain ⟨z1, z2, z3, z4, z5, zz, z6, z7⟩ := hH7)
    | (go_at_call 18; refine hq8.mono ?_; rintro e w8 ⟨mb8, rfl, hm8, -, hH8, hg8⟩; have hm7' := hm7.kept zz hg8; have hq9 := depth_any hb [[], [(3, (1, 7))]] 1 0 rfl _ hH8)
    | (go_at_call 8; refine hq9.mono ?_; rintro e w9 ⟨rfl, hb9⟩; have hq10 := ents_map mb7 [] 0 rfl (by decide) _ (hm7'.later hb9))
    | (go_at_call_of 15 (Value.pointer (some ⟨mb7, 0, none⟩)); refine hq10.mono ?_; rintro e w10 ⟨a10, c10, rfl, -, hb10⟩; have hq11 := ents_map mb8 [(3, (1, 7))] 1 rfl (by decide) _ ((hm8.later hb9).later hb10))
    | (go_at_call_of 15 (Value.pointer (some ⟨mb8, 0, none⟩)); refine hq11.mono ?_; rintro e w11 ⟨a11, c11, rfl, -, hb11⟩))
  go_ret
  refine ⟨rfl, ?_⟩
  have hlo' : w.heap.size ≤ hb := by have := (below_step (below_step hb1 hbA) hb2).size; omega
  have h4 := grown_below hB3 hg4 hlo'
  have h7 := grown_below (below_step (below_step h4 hb5) hb6) hg7 hlo'
  have h8 := grown_below h7 hg8 hlo'
  exact below_step (below_step (below_step h8 hb9) hb10) hb11

end Go.Proofs.Ytigjnodkpkkdmaa
