import Derived.Test.YtkojgbfocdefnaaHPlay
namespace Go.Proofs.Ytkojgbfocdefnaa
open Go.RowKit

theorem own_lenH {w : World} {base n size : Nat} {e : TypeId} {v : Value} {xs : List Value} (h : w.ownsRow base e size v n xs) : ∃ a cap, v = .slice a n cap := by
  obtain ⟨_, ⟨h, h0⟩ | ⟨g, cap, cur, rfl, _⟩⟩ := h
  · subst h0; exact ⟨none, 0, h⟩
  · exact ⟨_, _, rfl⟩
/-- entries, and what is asked of its answer. -/
theorem ents_map (mb : Nat) (L : Es) (n : Nat) (hn : L.length = n) (hl : n ≤ 200) (w : World) (h : MapE w mb L) :
    Calls Try.prog 50 #[.pointer (some ⟨mb, 0, none⟩)] w fun e w' => ∃ a cap, e = .returned (.slice a n cap) ∧ EntsAt w' (.slice a n cap) L ∧ Below w.heap.size w w' := by
  subst hn
  refine (entries_any mb L (by omega) w h).mono ?_
  rintro e w' ⟨ev, rfl, ho, hb⟩
  have he := ents_of_own ho
  obtain ⟨a, cap, rfl⟩ := own_lenH ho
  exact ⟨a, cap, rfl, he, hb⟩
theorem entA_nil (w : World) : EntA w (.slice none 0 0) [] := ⟨none, 0, rfl, by simp, by simp, by simp, .inl rfl⟩
theorem entA_one (w : World) (k : Nat) (hk : k < 4294967296) (ki : Int) (hki : ki = (k : Int)) (x y : Int) : EntA (w.alloc (.cells #[.int .u32 ki, .int .i64 x, .int .i64 y] 98)) (.slice (some ⟨w.heap.size, 0, none⟩) 1 1) [(k, (x, y))] := by
  subst hki
  have h := heap_alloc_last w (.cells #[.int .u32 (k : Int), .int .i64 x, .int .i64 y] 98)
  refine ⟨_, 1, rfl, by simp, by simp, ?_, .inr ⟨w.heap.size, 0, rfl, by simp, fun i hi => ?_⟩⟩
  · intro e he
    rw [List.mem_singleton.1 he]
    exact hk
  · obtain rfl : i = 0 := by simp at hi; omega
    exact ⟨cell_of_row _ _ 0 _ _ _ h, cell_of_row _ _ 1 _ _ _ h, cell_of_row _ _ 2 _ _ _ h⟩
theorem mkE_one (k : Nat) (v : Int × Int) : mkE [(k, v)] = [(k, v)] := rfl

end Go.Proofs.Ytkojgbfocdefnaa
