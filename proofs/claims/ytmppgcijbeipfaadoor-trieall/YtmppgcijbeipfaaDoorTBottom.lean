import Derived.Test.YtmppgcijbeipfaaDoorTWith
namespace Go.Proofs.YtmppgcijbeipfaaDoor
open Go.RowKit

/-- A new node at the bottom, with its shelf. -/
def MadeB (w : World) (t : Tr) (X : World) : Prop := NodeAt X w.heap.size (fun _ => .pointer none) (.pointer (some ⟨w.heap.size + 1, 0, none⟩)) ∧ ShelfAt X (w.heap.size + 1) t.th t.vk t.vn ∧ X.heap.size = w.heap.size + 2 ∧ Below w.heap.size w X

theorem madeB_of (w : World) (t : Tr) : MadeB w t ((w.alloc (.cells (row17 (fun _ => .pointer none) (.pointer (some ⟨w.heap.size + 1, 0, none⟩))) 82)).alloc (.cells (row48 t.th t.vk t.vn) 108)) := by
  have hs : (w.alloc (.cells (row17 (fun _ => .pointer none) (.pointer (some ⟨w.heap.size + 1, 0, none⟩))) 82)).heap.size = w.heap.size + 1 := by simp
  have hN := (node_new w (fun _ => .pointer none) (.pointer (some ⟨w.heap.size + 1, 0, none⟩))).later ((Below.refl _ (w.alloc (.cells (row17 (fun _ => .pointer none) (.pointer (some ⟨w.heap.size + 1, 0, none⟩))) 82))).alloc (Nat.le_refl _) (.cells (row48 t.th t.vk t.vn) 108))
  have hS := shelf_new (w.alloc (.cells (row17 (fun _ => .pointer none) (.pointer (some ⟨w.heap.size + 1, 0, none⟩))) 82)) t.th t.vk t.vn
  rw [hs] at hS
  exact ⟨hN, hS, by simp, ((Below.refl w.heap.size w).alloc (Nat.le_refl _) _).alloc (by simp) _⟩

set_option maxRecDepth 4000 in
set_option maxHeartbeats 1000000 in
theorem twin_leaf (b s : Nat) (th : Nat → Bool) (vk vn : Nat → Int) (w : World) (h : Lies w (.leaf b s th vk vn)) : Calls Tryd.prog 45 #[.pointer (some ⟨b, 0, none⟩), .int .i64 7] w fun e w' => e = .returned (.pointer (some ⟨w.heap.size, 0, none⟩)) ∧ MadeB w (.leaf b s th vk vn) w' := by
  obtain ⟨hN, hS⟩ := h
  have hr := row17_shelf (fun _ => .pointer none) (.pointer (some ⟨s, 0, none⟩))
  go_enter Tryd.func45, Tryd.ntmps45
  go_wp2_with (first | (refine wpList_load_row rfl 82 _ rfl b rfl 82 (row17 (fun _ => .pointer none) (.pointer (some ⟨s, 0, none⟩))) (0, 0) _ (hN.later ((Below.refl _ _).alloc (Nat.le_refl _) _)) Tryd.underlying82 rfl info_node ?_) | (refine wpList_store_row rfl 82 _ _ rfl w.heap.size (row17 (fun _ => .pointer none) (.pointer (some ⟨s, 0, none⟩))) rfl rfl 82 _ (heap_alloc_last _ _) info_node rfl (row17_one (fun _ _ => rfl) rfl) ?_; rw [World.setRow_alloc_new]) | (go_at_call 54; fail))
  refine (shelf_twin_some s th vk vn _ (hS.later ((Below.refl _ _).alloc (Nat.le_refl _) _))).mono ?_
  rintro e w2 ⟨rfl, rfl⟩
  go_wp2
  go_ret
  exact ⟨rfl, madeB_of w (.leaf b s th vk vn)⟩

set_option maxRecDepth 4000 in
set_option maxHeartbeats 1000000 in
theorem twin_bare (w : World) : Calls Tryd.prog 45 #[.pointer none, .int .i64 7] w fun e w' => e = .returned (.pointer (some ⟨w.heap.size, 0, none⟩)) ∧ MadeB w .nil w' := by
  go_enter Tryd.func45, Tryd.ntmps45
  go_wp2_with (go_at_call 54; fail)
  refine (shelf_twin_none _).mono ?_
  rintro e w2 ⟨rfl, rfl⟩
  go_wp2
  go_ret
  exact ⟨rfl, madeB_of w .nil⟩

theorem twin_down (t : Tr) (w : World) (h : Lies w t) (hw : t.wf 0) : Calls Tryd.prog 45 #[t.ptr, .int .i64 7] w fun e w' => e = .returned (.pointer (some ⟨w.heap.size, 0, none⟩)) ∧ MadeB w t w' := by
  cases t with
  | nil => exact twin_bare w
  | node b kids => exact absurd hw.1 (by omega)
  | leaf b s th vk vn => exact twin_leaf b s th vk vn w h

/-- A shelf with one place turned. -/
theorem shelf_set {X : World} {s : Nat} {th : Nat → Bool} {vk vn : Nat → Int} (h : ShelfAt X s th vk vn) (b : Bool) (x y : Int) {d : Nat} (hd : d < 16) :
    ShelfAt (((X.setCell ⟨s, d, none⟩ (.bool b)).setCell ⟨s, 16 + d * 2, none⟩ (.int .i64 x)).setCell ⟨s, 16 + d * 2 + 1, none⟩ (.int .i64 y)) s (fun i => if i = d then b else th i) (fun i => if i = d then x else vk i) (fun i => if i = d then y else vn i) := by
  have h1 := heap_setCell_same X s d _ _ (.bool b) h
  have h2 := heap_setCell_same _ s (16 + d * 2) _ _ (.int .i64 x) h1
  have h3 := heap_setCell_same _ s (16 + d * 2 + 1) _ _ (.int .i64 y) h2
  rw [row48_set _ _ _ _ _ _ hd] at h3
  exact h3

theorem lies_turned {X : World} {b s d : Nat} {th : Nat → Bool} {vk vn : Nat → Int} (hbs : b ≠ s) (hN : NodeAt X b (fun _ => .pointer none) (.pointer (some ⟨s, 0, none⟩))) (hS : ShelfAt X s th vk vn) (hd : d < 16) (o : Bool) (x y : Int) :
    Lies (((X.setCell ⟨s, d, none⟩ (.bool o)).setCell ⟨s, 16 + d * 2, none⟩ (.int .i64 x)).setCell ⟨s, 16 + d * 2 + 1, none⟩ (.int .i64 y)) (.leaf b s (fun i => if i = d then o else th i) (fun i => if i = d then x else vk i) (fun i => if i = d then y else vn i)) :=
  ⟨((Below.heap_setCell _ _ _ b hbs).trans ((Below.heap_setCell _ _ _ b hbs).trans (Below.heap_setCell _ _ _ b hbs))).trans hN, shelf_set hS o x y hd⟩

theorem put_bottom {w X : World} {id : Nat} {v : Int × Int} {t : Tr} (hN : NodeAt X (w.heap.size + 1) (fun _ => .pointer none) (.pointer (some ⟨w.heap.size + 1 + 1, 0, none⟩))) (hS : ShelfAt X (w.heap.size + 1 + 1) t.th t.vk t.vn) (hB : Below w.heap.size w X) :
    ∃ t', Ending.returned (.pointer (some ⟨w.heap.size + 1, 0, none⟩)) = .returned t'.ptr ∧ Lies (((X.setCell ⟨w.heap.size + 1 + 1, dg id 0, none⟩ (.bool true)).setCell ⟨w.heap.size + 1 + 1, 16 + dg id 0 * 2, none⟩ (.int .i64 v.1)).setCell ⟨w.heap.size + 1 + 1, 16 + dg id 0 * 2 + 1, none⟩ (.int .i64 v.2)).drew t' ∧ PutR w.heap.size id v 0 t' t ∧ Below w.heap.size w (((X.setCell ⟨w.heap.size + 1 + 1, dg id 0, none⟩ (.bool true)).setCell ⟨w.heap.size + 1 + 1, 16 + dg id 0 * 2, none⟩ (.int .i64 v.1)).setCell ⟨w.heap.size + 1 + 1, 16 + dg id 0 * 2 + 1, none⟩ (.int .i64 v.2)).drew := by
  have hle : w.heap.size ≤ w.heap.size + 1 + 1 := by omega
  refine ⟨_, rfl, (lies_turned (by omega) hN hS (dg_lt id 0) true v.1 v.2).later (Below.refl _ _).drew, ⟨_, _, _, _, _, rfl, by omega, by omega, fun i _ => ?_⟩, (((hB.setCell hle _).setCell hle _).setCell hle _).drew⟩
  by_cases e : i = dg id 0 <;> simp [e]

set_option maxRecDepth 4000 in
set_option maxHeartbeats 1000000 in
theorem with_down (id : Nat) (v : Int × Int) (t : Tr) (w : World) (h : Lies w t) (hw : t.wf 0) : Calls Tryd.prog 32 #[t.ptr, .int .i64 7, .int .u32 (id : Int), .agg #[.int .i64 v.1, .int .i64 v.2]] w fun e w' => ∃ t', e = .returned t'.ptr ∧ Lies w' t' ∧ PutR w.heap.size id v 0 t' t ∧ Below w.heap.size w w' := by
  have hd := dg_lt id 0
  have hd0 : (0 : Int) ≤ (dg id 0 : Int) := by omega
  have hd1 : (dg id 0 : Int) < 16 := by omega
  go_enter Tryd.func32, Tryd.ntmps32
  have hb1 : Below w.heap.size w (w.alloc (.cells #[.int .i64 v.1, .int .i64 v.2] 29)) := (Below.refl _ _).alloc (Nat.le_refl _) _
  have a0 : (w.alloc (.cells #[.int .i64 v.1, .int .i64 v.2] 29)).cell? ⟨w.heap.size, 0, none⟩ = some (.int .i64 v.1) := by simp
  have a1 : (w.alloc (.cells #[.int .i64 v.1, .int .i64 v.2] 29)).cell? ⟨w.heap.size, 1, none⟩ = some (.int .i64 v.2) := by simp
  have hs1 : (w.alloc (.cells #[.int .i64 v.1, .int .i64 v.2] 29)).heap.size = w.heap.size + 1 := by simp
  go_wp2_with (go_at_call 45; fail)
  generalize w.alloc (.cells #[.int .i64 v.1, .int .i64 v.2] 29) = V at *
  have hV := h.later hb1
  refine (twin_down t V hV hw).mono ?_
  rintro e w1 ⟨rfl, hN, hS, hs2, hb2⟩
  have a2 := (hb2.cell (p := ⟨w.heap.size, 0, none⟩) (by simp; omega)).trans a0
  have a3 := (hb2.cell (p := ⟨w.heap.size, 1, none⟩) (by simp; omega)).trans a1
  have hB2 := below_step hb1 hb2
  have c0 := hN.shelf
  have d0 := hS.th hd
  have d1 := (hS.val hd).1
  have d2 := (hS.val hd).2
  have f0 := frozen_of_row hS (dg id 0)
  have f1 := frozen_of_row hS (16 + dg id 0 * 2)
  have f2 := frozen_of_row hS (16 + dg id 0 * 2 + 1)
  rw [hs1] at *
  go_wp2_with (first | (go_at_call 33; refine (digit_any 0 7 rfl id _).mono ?_; rintro e w2 ⟨rfl, rfl⟩))
  go_region_with (fail)
  all_goals
    go_wp2
    go_ret
    exact put_bottom hN hS hB2

/-- P3.3, P3.8: Put's inner call, at every height. -/
theorem with_any (id : Nat) (v : Int × Int) : ∀ (n l : Nat), l + n = 7 → ∀ (t : Tr) (w : World), Lies w t → t.wf n → Calls Tryd.prog 32 #[t.ptr, .int .i64 (l : Int), .int .u32 (id : Int), .agg #[.int .i64 v.1, .int .i64 v.2]] w fun e w' => ∃ t', e = .returned t'.ptr ∧ Lies w' t' ∧ PutR w.heap.size id v n t' t ∧ Below w.heap.size w w'
  | 0, l, hl, t, w, h, hw => by
    obtain rfl : l = 7 := by omega
    exact with_down id v t w h hw
  | n + 1, l, hl, t, w, h, hw => with_up id n l v hl (with_any id v n (l + 1) (by omega)) t w h hw

end Go.Proofs.YtmppgcijbeipfaaDoor
