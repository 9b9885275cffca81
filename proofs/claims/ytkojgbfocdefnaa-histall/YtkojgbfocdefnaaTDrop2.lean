import Derived.Test.YtkojgbfocdefnaaTDrop
namespace Go.Proofs.Ytkojgbfocdefnaa
open Go.RowKit

theorem drop_mono {B C id : Nat} (h : C ≤ B) : ∀ (n : Nat) {t' t : Tr}, DropR B id n t' t → DropR C id n t' t
  | 0, t', t, hp => by
    rcases hp with hp | ⟨c, s, th, vk, vn, rfl, h0, h1, h2, h3⟩
    · exact .inl hp
    · exact .inr ⟨c, s, th, vk, vn, rfl, h0, by omega, by omega, h3⟩
  | n + 1, t', t, hp => by
    obtain ⟨c, hc, hp⟩ := hp
    refine ⟨c, drop_mono h n hc, ?_⟩
    rcases hp with hp | ⟨b, kids, rfl, h0, h1, hk⟩
    · exact .inl hp
    · exact .inr ⟨b, kids, rfl, h0, by omega, hk⟩
theorem drop_avoid {B id b : Nat} (hb : b < B) : ∀ (n : Nat) {t' t : Tr}, DropR B id n t' t → t.avoid b → t'.avoid b
  | 0, t', t, h, _ => by
    rcases h with ⟨rfl, -⟩ | ⟨c, s, th, vk, vn, rfl, -, h1, h2, -⟩
    · trivial
    · exact ⟨by omega, by omega⟩
  | n + 1, t', t, h, ha => by
    obtain ⟨c, hc, h⟩ := h
    rcases h with ⟨rfl, -, -⟩ | ⟨b0, kids, rfl, -, h1, hd, hk⟩
    · trivial
    · refine ⟨by omega, fun i hi => ?_⟩
      by_cases e : i = dg id (n + 1)
      · rw [e, hd]; exact drop_avoid hb n hc (avoid_kid ha (dg_lt _ _))
      · rw [hk i hi e]; exact avoid_kid ha hi

/-- What holds while a node is made that is to have a key less. -/
abbrev LessS (w : World) (d : Nat) (t : Tr) (u : Option Addr) (X : World) : Prop := X.cell? ⟨w.heap.size, d, none⟩ = some (.pointer u) ∧ X.frozen? ⟨w.heap.size, d, none⟩ = false ∧ w.heap.size + 1 ≤ X.heap.size ∧ NodeAt X w.heap.size (fun i => (t.kid i).ptr) (.pointer none) ∧ Lies X t ∧ Below w.heap.size w X
theorem LessS.later {w : World} {d : Nat} {t : Tr} {u : Option Addr} {X Y : World} (h : LessS w d t u X) (hb : Below X.heap.size X Y) : LessS w d t u Y := by
  obtain ⟨h1, h2, h5, h6, h7, h8⟩ := h
  exact ⟨(hb.cell (p := ⟨w.heap.size, d, none⟩) (by simp; omega)).trans h1, (hb.frozen (p := ⟨w.heap.size, d, none⟩) (by simp; omega)).trans h2, Nat.le_trans h5 hb.size, h6.later hb, h7.later hb, below_step h8 hb⟩

theorem ptr_none {t : Tr} (h : t.ptr = .pointer none) : t = .nil := by
  cases t with
  | nil => rfl
  | node b kids => cases h
  | leaf b => cases h

/-- What is left of a node that has a key less. -/
theorem drop_made {w X : World} {t t1 : Tr} {u u1 : Option Addr} {id n : Nat} (h : Lies w t) (hu1 : t1.ptr = .pointer u1) (hL1 : Lies X t1) (hP : DropR (w.heap.size + 1) id n t1 (t.kid (dg id (n + 1)))) (hS : LessS w (dg id (n + 1)) t u X) :
    NodeAt (X.setCell ⟨w.heap.size, dg id (n + 1), none⟩ (.pointer u1)) w.heap.size (fun i => (kidsWith t (dg id (n + 1)) t1 i).ptr) (.pointer none) ∧ Lies (X.setCell ⟨w.heap.size, dg id (n + 1), none⟩ (.pointer u1)) (.node w.heap.size (kidsWith t (dg id (n + 1)) t1)) ∧ Below w.heap.size w (X.setCell ⟨w.heap.size, dg id (n + 1), none⟩ (.pointer u1)) ∧
    ((∀ i, i < 16 → (kidsWith t (dg id (n + 1)) t1 i).ptr = .pointer none) → DropR w.heap.size id (n + 1) .nil t) ∧ ((∃ i, i < 16 ∧ (kidsWith t (dg id (n + 1)) t1 i).ptr ≠ .pointer none) → DropR w.heap.size id (n + 1) (.node w.heap.size (kidsWith t (dg id (n + 1)) t1)) t) := by
  have hd := dg_lt id (n + 1)
  have ha : t1.avoid w.heap.size := drop_avoid (by omega) n hP (lies_avoid (by omega) (h.kid hd))
  have hL := lies_made hd h (Nat.le_refl _) hS.2.2.2.1 hS.2.2.2.2.1 hu1 hL1 ha
  refine ⟨hL.1, hL, hS.2.2.2.2.2.setCell (Nat.le_refl _) _, fun hall => ?_, fun hne => ?_⟩
  · refine ⟨t1, drop_mono (by omega) n hP, .inl ⟨rfl, ?_, fun i hi e => ?_⟩⟩
    · have := hall _ hd
      rw [kidsWith_same] at this
      exact ptr_none this
    · have := hall i hi
      rw [kidsWith_other _ _ e] at this
      exact ptr_none this
  · obtain ⟨i, hi, hne⟩ := hne
    refine ⟨t1, drop_mono (by omega) n hP, .inr ⟨_, _, rfl, ⟨i, hi, fun e => hne (by rw [e]; rfl)⟩, Nat.le_refl _, kidsWith_same _ _ _, fun i _ e => kidsWith_other _ _ e⟩⟩

theorem drop_bottom {w X : World} {id : Nat} {t : Tr} (hN : NodeAt X w.heap.size (fun _ => .pointer none) (.pointer (some ⟨w.heap.size + 1, 0, none⟩))) (hS : ShelfAt X (w.heap.size + 1) t.th t.vk t.vn) (hB : Below w.heap.size w X) :
    ∃ th vk vn, NodeAt (((X.setCell ⟨w.heap.size + 1, dg id 0, none⟩ (.bool false)).setCell ⟨w.heap.size + 1, 16 + dg id 0 * 2, none⟩ (.int .i64 0)).setCell ⟨w.heap.size + 1, 16 + dg id 0 * 2 + 1, none⟩ (.int .i64 0)).drew w.heap.size (fun _ => .pointer none) (.pointer (some ⟨w.heap.size + 1, 0, none⟩)) ∧ ShelfAt (((X.setCell ⟨w.heap.size + 1, dg id 0, none⟩ (.bool false)).setCell ⟨w.heap.size + 1, 16 + dg id 0 * 2, none⟩ (.int .i64 0)).setCell ⟨w.heap.size + 1, 16 + dg id 0 * 2 + 1, none⟩ (.int .i64 0)).drew (w.heap.size + 1) th vk vn ∧
      Below w.heap.size w (((X.setCell ⟨w.heap.size + 1, dg id 0, none⟩ (.bool false)).setCell ⟨w.heap.size + 1, 16 + dg id 0 * 2, none⟩ (.int .i64 0)).setCell ⟨w.heap.size + 1, 16 + dg id 0 * 2 + 1, none⟩ (.int .i64 0)).drew ∧
      ((∀ i, i < 16 → th i = false) → DropR w.heap.size id 0 .nil t) ∧ ((∃ i, i < 16 ∧ th i = true) → DropR w.heap.size id 0 (.leaf w.heap.size (w.heap.size + 1) th vk vn) t) := by
  have hle : w.heap.size ≤ w.heap.size + 1 := by omega
  have hL := (lies_turned (by omega) hN hS (dg_lt id 0) false 0 0).later (Below.refl _ _).drew
  refine ⟨_, _, _, hL.1, hL.2, (((hB.setCell hle _).setCell hle _).setCell hle _).drew, fun hall => .inl ⟨rfl, fun i hi e => ?_⟩, fun hne => .inr ⟨_, _, _, _, _, rfl, hne, Nat.le_refl _, by omega, fun i _ => ?_⟩⟩
  · have := hall i hi
    rwa [if_neg e] at this
  · by_cases e : i = dg id 0 <;> simp [e]

end Go.Proofs.Ytkojgbfocdefnaa
