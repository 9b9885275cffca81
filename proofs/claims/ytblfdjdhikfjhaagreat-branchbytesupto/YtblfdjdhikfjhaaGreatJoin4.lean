import Derived.Test.YtblfdjdhikfjhaaGreatJoin3
import Derived.Deep.RegionHeld3
namespace Go.Proofs.YtblfdjdhikfjhaaGreat
open Go.RowKit

theorem frozen_of_row {W : World} {g : Nat} {cs : Array Value} {t : TypeId} (h : W.heap[g]? = some (.cells cs t (0, 0))) (i : Nat) : W.frozen? ⟨g, i, none⟩ = false := by simp [World.frozen?, h]

/-- A block that the tree doesn't go through. -/
def Tr.avoid (b : Nat) : Tr → Prop
  | .nil => True
  | .node c kids => c ≠ b ∧ ∀ i, i < 16 → (kids i).avoid b
  | .leaf c s _ _ _ => c ≠ b ∧ s ≠ b

theorem avoid_kid {b : Nat} {t : Tr} (h : t.avoid b) {i : Nat} (hi : i < 16) : (t.kid i).avoid b := by
  cases t with
  | nil => trivial
  | node c kids => exact h.2 i hi
  | leaf => trivial
theorem lies_avoid {w : World} {b : Nat} (hb : w.heap.size ≤ b) : ∀ {t : Tr}, Lies w t → t.avoid b := by
  intro t
  induction t with
  | nil => intro _; trivial
  | node c kids ih => intro h; exact ⟨by have := h.1.lt; omega, fun i hi => ih i (h.2 i hi)⟩
  | leaf c s th vk vn => intro h; exact ⟨by have := h.1.lt; omega, by have := h.2.lt; omega⟩
theorem put_avoid {B id b : Nat} {v : Int × Int} (hb : b < B) : ∀ (n : Nat) {t' t : Tr}, PutR B id v n t' t → t.avoid b → t'.avoid b
  | 0, t', t, h, _ => by
    obtain ⟨c, s, th, vk, vn, rfl, h1, h2, -⟩ := h
    exact ⟨by omega, by omega⟩
  | n + 1, t', t, h, ha => by
    obtain ⟨c, kids, rfl, h1, hk, hp⟩ := h
    refine ⟨by omega, fun i hi => ?_⟩
    by_cases e : i = dg id (n + 1)
    · rw [e]; exact put_avoid hb n hp (avoid_kid ha (dg_lt _ _))
    · rw [hk i hi e]; exact avoid_kid ha hi
theorem lies_set {w : World} {b i : Nat} {u : Value} : ∀ {t : Tr}, Lies w t → t.avoid b → Lies (w.setCell ⟨b, i, none⟩ u) t := by
  intro t
  have e : ∀ k, k ≠ b → (w.setCell ⟨b, i, none⟩ u).heap[k]? = w.heap[k]? := fun k hk => Below.heap_setCell _ _ _ k hk
  induction t with
  | nil => intro _ _; trivial
  | node c kids ih => intro h ha; exact ⟨(e c ha.1).trans h.1, fun i hi => ih i (h.2 i hi) (ha.2 i hi)⟩
  | leaf c s th vk vn => intro h ha; exact ⟨(e c ha.1).trans h.1, (e s ha.2).trans h.2⟩

/-- The kids that a put or a drop leaves. -/
def kidsWith (t : Tr) (d : Nat) (c : Tr) (i : Nat) : Tr := if i = d then c else t.kid i

theorem node_set {w : World} {b d : Nat} {t c : Tr} (h : NodeAt w b (fun i => (t.kid i).ptr) (.pointer none)) (hd : d < 16) : NodeAt (w.setCell ⟨b, d, none⟩ c.ptr) b (fun i => (kidsWith t d c i).ptr) (.pointer none) := by
  have := heap_setCell_same w b d _ _ c.ptr h
  rw [row17_set _ _ _ hd] at this
  unfold NodeAt
  rw [this]
  congr 2
  · congr 1
    funext i
    unfold kidsWith
    split <;> rfl

theorem put_mono {B C id : Nat} {v : Int × Int} (h : C ≤ B) : ∀ (n : Nat) {t' t : Tr}, PutR B id v n t' t → PutR C id v n t' t
  | 0, t', t, hp => by
    obtain ⟨c, s, th, vk, vn, rfl, h1, h2, h3⟩ := hp
    exact ⟨c, s, th, vk, vn, rfl, by omega, by omega, h3⟩
  | n + 1, t', t, hp => by
    obtain ⟨c, kids, rfl, h1, hk, hp⟩ := hp
    exact ⟨c, kids, rfl, by omega, hk, put_mono h n hp⟩

/-- What holds while a node is made: the new node, the key's value, the tree that was. -/
abbrev MadeS (w : World) (d : Nat) (v : Int × Int) (t : Tr) (u : Option Addr) (X : World) : Prop := X.cell? ⟨w.heap.size + 1, d, none⟩ = some (.pointer u) ∧ X.frozen? ⟨w.heap.size + 1, d, none⟩ = false ∧ X.cell? ⟨w.heap.size, 0, none⟩ = some (.int .i64 v.1) ∧ X.cell? ⟨w.heap.size, 1, none⟩ = some (.int .i64 v.2) ∧ w.heap.size + 2 ≤ X.heap.size ∧ NodeAt X (w.heap.size + 1) (fun i => (t.kid i).ptr) (.pointer none) ∧ Lies X t ∧ Below w.heap.size w X
theorem MadeS.later {w : World} {d : Nat} {v : Int × Int} {t : Tr} {u : Option Addr} {X Y : World} (h : MadeS w d v t u X) (hb : Below X.heap.size X Y) : MadeS w d v t u Y := by
  obtain ⟨h1, h2, h3, h4, h5, h6, h7, h8⟩ := h
  exact ⟨(hb.cell (p := ⟨w.heap.size + 1, d, none⟩) (by simp; omega)).trans h1, (hb.frozen (p := ⟨w.heap.size + 1, d, none⟩) (by simp; omega)).trans h2, (hb.cell (p := ⟨w.heap.size, 0, none⟩) (by simp; omega)).trans h3, (hb.cell (p := ⟨w.heap.size, 1, none⟩) (by simp; omega)).trans h4, Nat.le_trans h5 hb.size, h6.later hb, h7.later hb, below_step h8 hb⟩

theorem held_with {id n l : Nat} {v : Int × Int} (ih : ∀ (t : Tr) (w : World), Lies w t → t.wf n → Calls Tryz.prog 63 #[t.ptr, .int .i64 ((l + 1 : Nat) : Int), .int .u32 (id : Int), .agg #[.int .i64 v.1, .int .i64 v.2]] w fun e w' => ∃ t', e = .returned t'.ptr ∧ Lies w' t' ∧ PutR w.heap.size id v n t' t ∧ Below w.heap.size w w')
    {w X : World} {t : Tr} {u : Option Addr} (hw : t.wf (n + 1)) (hu : (t.kid (dg id (n + 1))).ptr = .pointer u)
    (h : X.cell? ⟨w.heap.size + 1, dg id (n + 1), none⟩ = some (.pointer u) ∧ X.frozen? ⟨w.heap.size + 1, dg id (n + 1), none⟩ = false ∧ X.cell? ⟨w.heap.size, 0, none⟩ = some (.int .i64 v.1) ∧ X.cell? ⟨w.heap.size, 1, none⟩ = some (.int .i64 v.2) ∧ w.heap.size + 2 ≤ X.heap.size ∧ NodeAt X (w.heap.size + 1) (fun i => (t.kid i).ptr) (.pointer none) ∧ Lies X t ∧ Below w.heap.size w X) :
    Calls Tryz.prog 63 #[.pointer u, .int .i64 ((l : Int) + 1), .int .u32 (id : Int), .agg #[.int .i64 v.1, .int .i64 v.2]] X fun e Y => ∃ t1 u1, e = .returned (.pointer u1) ∧ t1.ptr = .pointer u1 ∧ Lies Y t1 ∧ PutR (w.heap.size + 2) id v n t1 (t.kid (dg id (n + 1))) ∧
      (Y.cell? ⟨w.heap.size + 1, dg id (n + 1), none⟩ = some (.pointer u) ∧ Y.frozen? ⟨w.heap.size + 1, dg id (n + 1), none⟩ = false ∧ Y.cell? ⟨w.heap.size, 0, none⟩ = some (.int .i64 v.1) ∧ Y.cell? ⟨w.heap.size, 1, none⟩ = some (.int .i64 v.2) ∧ w.heap.size + 2 ≤ Y.heap.size ∧ NodeAt Y (w.heap.size + 1) (fun i => (t.kid i).ptr) (.pointer none) ∧ Lies Y t ∧ Below w.heap.size w Y) := by
  have hd := dg_lt id (n + 1)
  have := ih (t.kid (dg id (n + 1))) X (h.2.2.2.2.2.2.1.kid hd) (wf_kid hw hd)
  rw [hu, show (((l + 1 : Nat)) : Int) = (l : Int) + 1 from by omega] at this
  refine this.mono ?_
  rintro e Y ⟨t1, rfl, hL, hP, hb⟩
  obtain ⟨u1, hu1⟩ := ptr_pointer t1
  exact ⟨t1, u1, by rw [hu1], hu1, hL, put_mono h.2.2.2.2.1 n hP, MadeS.later (w := w) h hb⟩

theorem kidsWith_same (t c : Tr) (d : Nat) : kidsWith t d c d = c := if_pos rfl
theorem kidsWith_other (t c : Tr) {d i : Nat} (h : i ≠ d) : kidsWith t d c i = t.kid i := if_neg h

theorem lies_made {w X : World} {t t1 : Tr} {u1 : Option Addr} {b d : Nat} (hd : d < 16) (h : Lies w t) (hb : w.heap.size ≤ b) (hN : NodeAt X b (fun i => (t.kid i).ptr) (.pointer none)) (hL : Lies X t) (hu1 : t1.ptr = .pointer u1) (hL1 : Lies X t1) (ha : t1.avoid b) : Lies (X.setCell ⟨b, d, none⟩ (.pointer u1)) (.node b (kidsWith t d t1)) := by
  rw [← hu1]
  refine ⟨node_set hN hd, fun i hi => ?_⟩
  by_cases e : i = d
  · rw [e, kidsWith_same]
    exact lies_set hL1 ha
  · rw [kidsWith_other _ _ e]
    exact lies_set (hL.kid hi) (lies_avoid hb (h.kid hi))

theorem put_made {w X : World} {t t1 : Tr} {u u1 : Option Addr} {id n : Nat} {v : Int × Int} (h : Lies w t) (hu1 : t1.ptr = .pointer u1) (hL1 : Lies X t1) (hP : PutR (w.heap.size + 2) id v n t1 (t.kid (dg id (n + 1)))) (hS : MadeS w (dg id (n + 1)) v t u X) :
    ∃ t', Ending.returned (.pointer (some ⟨w.heap.size + 1, 0, none⟩)) = .returned t'.ptr ∧ Lies (X.setCell ⟨w.heap.size + 1, dg id (n + 1), none⟩ (.pointer u1)) t' ∧ PutR w.heap.size id v (n + 1) t' t ∧ Below w.heap.size w (X.setCell ⟨w.heap.size + 1, dg id (n + 1), none⟩ (.pointer u1)) := by
  have hd := dg_lt id (n + 1)
  have ha : t1.avoid (w.heap.size + 1) := put_avoid (by omega) n hP (lies_avoid (by omega) (h.kid hd))
  refine ⟨.node (w.heap.size + 1) (kidsWith t (dg id (n + 1)) t1), rfl, lies_made hd h (by omega) hS.2.2.2.2.2.1 hS.2.2.2.2.2.2.1 hu1 hL1 ha, ⟨_, _, rfl, by omega, fun i _ e => kidsWith_other _ _ e, ?_⟩, hS.2.2.2.2.2.2.2.setCell (by show w.heap.size ≤ w.heap.size + 1; omega) _⟩
  rw [kidsWith_same]
  exact put_mono (by omega) n hP

set_option maxRecDepth 4000 in
set_option maxHeartbeats 1000000 in
theorem with_up (id n l : Nat) (v : Int × Int) (hn : l + (n + 1) = 7) (ih : ∀ (t : Tr) (w : World), Lies w t → t.wf n → Calls Tryz.prog 63 #[t.ptr, .int .i64 ((l + 1 : Nat) : Int), .int .u32 (id : Int), .agg #[.int .i64 v.1, .int .i64 v.2]] w fun e w' => ∃ t', e = .returned t'.ptr ∧ Lies w' t' ∧ PutR w.heap.size id v n t' t ∧ Below w.heap.size w w')
    (t : Tr) (w : World) (h : Lies w t) (hw : t.wf (n + 1)) : Calls Tryz.prog 63 #[t.ptr, .int .i64 (l : Int), .int .u32 (id : Int), .agg #[.int .i64 v.1, .int .i64 v.2]] w fun e w' => ∃ t', e = .returned t'.ptr ∧ Lies w' t' ∧ PutR w.heap.size id v (n + 1) t' t ∧ Below w.heap.size w w' := by
  have hl7 : ((l : Int) == 7) = false := by simp; omega
  have hd := dg_lt id (n + 1)
  have hd0 : (0 : Int) ≤ (dg id (n + 1) : Int) := by omega
  have hd1 : (dg id (n + 1) : Int) < 16 := by omega
  have hwr : IntKind.i64.wrap ((l : Int) + 1) = (l : Int) + 1 := by rw [IntKind.wrap_i64]; omega
  obtain ⟨u, hu⟩ := ptr_pointer (t.kid (dg id (n + 1)))
  go_enter Tryz.func63, Tryz.ntmps63
  have hb1 : Below w.heap.size w (w.alloc (.cells #[.int .i64 v.1, .int .i64 v.2] 47)) := (Below.refl _ _).alloc (Nat.le_refl _) _
  have a0 : (w.alloc (.cells #[.int .i64 v.1, .int .i64 v.2] 47)).cell? ⟨w.heap.size, 0, none⟩ = some (.int .i64 v.1) := by simp
  have a1 : (w.alloc (.cells #[.int .i64 v.1, .int .i64 v.2] 47)).cell? ⟨w.heap.size, 1, none⟩ = some (.int .i64 v.2) := by simp
  have hs1 : (w.alloc (.cells #[.int .i64 v.1, .int .i64 v.2] 47)).heap.size = w.heap.size + 1 := by simp
  go_wp2_with (go_at_call 78; fail)
  generalize w.alloc (.cells #[.int .i64 v.1, .int .i64 v.2] 47) = V at *
  have hV := h.later hb1
  refine (twin_up t n l hn _ hV hw).mono ?_
  rintro e w1 ⟨rfl, hw1⟩
  have hb2 : Below V.heap.size V w1 := by rw [hw1]; exact (Below.refl _ _).alloc (Nat.le_refl _) _
  have hN := node_new V (fun i => (t.kid i).ptr) (.pointer none)
  rw [← hw1] at hN
  have a2 := (hb2.cell (p := ⟨w.heap.size, 0, none⟩) (by simp; omega)).trans a0
  have a3 := (hb2.cell (p := ⟨w.heap.size, 1, none⟩) (by simp; omega)).trans a1
  have hs2 : w1.heap.size = w.heap.size + 2 := by rw [hw1]; simp; omega
  have hL2 := hV.later hb2
  have hB2 := below_step hb1 hb2
  have c0 := hN.kid hd
  rw [hu] at c0
  rw [hs1] at hN c0 ⊢
  clear hw1 hb1 hb2 a0 a1 hV hs1
  have hS2 : MadeS w (dg id (n + 1)) v t u w1 := ⟨c0, frozen_of_row hN _, a2, a3, by omega, hN, hL2, hB2⟩
  have hS3 := hS2.later (Below.refl _ _).drew
  clear hS2 c0 a2 a3 hL2 hB2 hN
  go_wp2_with (first | (go_at_call 76; refine (digit_any (n + 1) l hn id _).mono ?_; rintro e w2 ⟨rfl, rfl⟩) | (go_at_call 63; fail))
  have hq3 := hS3
  obtain ⟨c0, c1, c2, c3, -⟩ := hq3
  go_region_with (first | (go_at_call 63; refine (held_with (w := w) (t := t) (u := u) ih hw hu hS3).mono ?_; rintro e w5 ⟨t1, u1, rfl, hu1, hL1, hP1, hS5⟩; have hq5 := hS5; obtain ⟨e0, e1, -⟩ := hq5))
  all_goals
    go_wp2
    go_ret
    exact put_made h hu1 hL1 hP1 hS5

end Go.Proofs.YtblfdjdhikfjhaaGreat


namespace Go.Proofs.YtblfdjdhikfjhaaGreat
open Go.RowKit

/-- A new node at the bottom, with its shelf. -/
def MadeB (w : World) (t : Tr) (X : World) : Prop := NodeAt X w.heap.size (fun _ => .pointer none) (.pointer (some ⟨w.heap.size + 1, 0, none⟩)) ∧ ShelfAt X (w.heap.size + 1) t.th t.vk t.vn ∧ X.heap.size = w.heap.size + 2 ∧ Below w.heap.size w X

theorem madeB_of (w : World) (t : Tr) : MadeB w t ((w.alloc (.cells (row17 (fun _ => .pointer none) (.pointer (some ⟨w.heap.size + 1, 0, none⟩))) 134)).alloc (.cells (row48 t.th t.vk t.vn) 141)) := by
  have hs : (w.alloc (.cells (row17 (fun _ => .pointer none) (.pointer (some ⟨w.heap.size + 1, 0, none⟩))) 134)).heap.size = w.heap.size + 1 := by simp
  have hN := (node_new w (fun _ => .pointer none) (.pointer (some ⟨w.heap.size + 1, 0, none⟩))).later ((Below.refl _ (w.alloc (.cells (row17 (fun _ => .pointer none) (.pointer (some ⟨w.heap.size + 1, 0, none⟩))) 134))).alloc (Nat.le_refl _) (.cells (row48 t.th t.vk t.vn) 141))
  have hS := shelf_new (w.alloc (.cells (row17 (fun _ => .pointer none) (.pointer (some ⟨w.heap.size + 1, 0, none⟩))) 134)) t.th t.vk t.vn
  rw [hs] at hS
  exact ⟨hN, hS, by simp, ((Below.refl w.heap.size w).alloc (Nat.le_refl _) _).alloc (by simp) _⟩

set_option maxRecDepth 4000 in
set_option maxHeartbeats 1000000 in
theorem twin_leaf (b s : Nat) (th : Nat → Bool) (vk vn : Nat → Int) (w : World) (h : Lies w (.leaf b s th vk vn)) : Calls Tryz.prog 78 #[.pointer (some ⟨b, 0, none⟩), .int .i64 7] w fun e w' => e = .returned (.pointer (some ⟨w.heap.size, 0, none⟩)) ∧ MadeB w (.leaf b s th vk vn) w' := by
  obtain ⟨hN, hS⟩ := h
  have hr := row17_shelf (fun _ => .pointer none) (.pointer (some ⟨s, 0, none⟩))
  go_enter Tryz.func78, Tryz.ntmps78
  go_wp2_with (first | (refine wpList_load_row rfl 134 _ rfl b rfl 134 (row17 (fun _ => .pointer none) (.pointer (some ⟨s, 0, none⟩))) (0, 0) _ (hN.later ((Below.refl _ _).alloc (Nat.le_refl _) _)) Tryz.underlying134 rfl info_node ?_) | (refine wpList_store_row rfl 134 _ _ rfl w.heap.size (row17 (fun _ => .pointer none) (.pointer (some ⟨s, 0, none⟩))) rfl rfl 134 _ (heap_alloc_last _ _) info_node rfl (row17_one (fun _ _ => rfl) rfl) ?_; rw [World.setRow_alloc_new]) | (go_at_call 90; fail))
  refine (shelf_twin_some s th vk vn _ (hS.later ((Below.refl _ _).alloc (Nat.le_refl _) _))).mono ?_
  rintro e w2 ⟨rfl, rfl⟩
  go_wp2
  go_ret
  exact ⟨rfl, madeB_of w (.leaf b s th vk vn)⟩

set_option maxRecDepth 4000 in
set_option maxHeartbeats 1000000 in
theorem twin_bare (w : World) : Calls Tryz.prog 78 #[.pointer none, .int .i64 7] w fun e w' => e = .returned (.pointer (some ⟨w.heap.size, 0, none⟩)) ∧ MadeB w .nil w' := by
  go_enter Tryz.func78, Tryz.ntmps78
  go_wp2_with (go_at_call 90; fail)
  refine (shelf_twin_none _).mono ?_
  rintro e w2 ⟨rfl, rfl⟩
  go_wp2
  go_ret
  exact ⟨rfl, madeB_of w .nil⟩

theorem twin_down (t : Tr) (w : World) (h : Lies w t) (hw : t.wf 0) : Calls Tryz.prog 78 #[t.ptr, .int .i64 7] w fun e w' => e = .returned (.pointer (some ⟨w.heap.size, 0, none⟩)) ∧ MadeB w t w' := by
  cases t with
  | nil => exact twin_bare w
  | node b kids => exact absurd hw.1 (by omega)
  | leaf b s th vk vn => exact twin_leaf b s th vk vn w h

/-- A shelf with one place turned. -/
theorem shelf_set {X : World} {s : Nat} {th : Nat → Bool} {vk vn : Nat → Int} (h : ShelfAt X s th vk vn) (b : Bool) (x y : Int) {d : Nat} (hd : d < 16) :
    ShelfAt (((X.setCell ⟨s, d, none⟩ (.bool b)).setCell ⟨s, 16 + d * 2, none⟩ (.int .i64 x)).setCell ⟨s, 16 + d * 2 + 1, none⟩ (.int .i64 y)) s (fun i => if i = d then b else th i) (fun i => if i = d then x else vk i) (fun i => if i = d then y else vn i) := by
  have h1 := heap_setCell_same X s d _ _ (.bool b) h
  have h2 := heap_setCell_same _ s (16 + d * 2) _ _ (.int .i64 x) h1
  have h3 := heap_setCell_same _ s (16 + d * 2 + 1) _ _ (.int .i64 y) h2
  rw [row48_set _ _ _ _ _ _ hd] at h3
  exact h3

theorem lies_turned {X : World} {b s d : Nat} {th : Nat → Bool} {vk vn : Nat → Int} (hbs : b ≠ s) (hN : NodeAt X b (fun _ => .pointer none) (.pointer (some ⟨s, 0, none⟩))) (hS : ShelfAt X s th vk vn) (hd : d < 16) (o : Bool) (x y : Int) :
    Lies (((X.setCell ⟨s, d, none⟩ (.bool o)).setCell ⟨s, 16 + d * 2, none⟩ (.int .i64 x)).setCell ⟨s, 16 + d * 2 + 1, none⟩ (.int .i64 y)) (.leaf b s (fun i => if i = d then o else th i) (fun i => if i = d then x else vk i) (fun i => if i = d then y else vn i)) :=
  ⟨((Below.heap_setCell _ _ _ b hbs).trans ((Below.heap_setCell _ _ _ b hbs).trans (Below.heap_setCell _ _ _ b hbs))).trans hN, shelf_set hS o x y hd⟩

theorem put_bottom {w X : World} {id : Nat} {v : Int × Int} {t : Tr} (hN : NodeAt X (w.heap.size + 1) (fun _ => .pointer none) (.pointer (some ⟨w.heap.size + 1 + 1, 0, none⟩))) (hS : ShelfAt X (w.heap.size + 1 + 1) t.th t.vk t.vn) (hB : Below w.heap.size w X) :
    ∃ t', Ending.returned (.pointer (some ⟨w.heap.size + 1, 0, none⟩)) = .returned t'.ptr ∧ Lies (((X.setCell ⟨w.heap.size + 1 + 1, dg id 0, none⟩ (.bool true)).setCell ⟨w.heap.size + 1 + 1, 16 + dg id 0 * 2, none⟩ (.int .i64 v.1)).setCell ⟨w.heap.size + 1 + 1, 16 + dg id 0 * 2 + 1, none⟩ (.int .i64 v.2)).drew t' ∧ PutR w.heap.size id v 0 t' t ∧ Below w.heap.size w (((X.setCell ⟨w.heap.size + 1 + 1, dg id 0, none⟩ (.bool true)).setCell ⟨w.heap.size + 1 + 1, 16 + dg id 0 * 2, none⟩ (.int .i64 v.1)).setCell ⟨w.heap.size + 1 + 1, 16 + dg id 0 * 2 + 1, none⟩ (.int .i64 v.2)).drew := by
  have hle : w.heap.size ≤ w.heap.size + 1 + 1 := by omega
  refine ⟨_, rfl, (lies_turned (by omega) hN hS (dg_lt id 0) true v.1 v.2).later (Below.refl _ _).drew, ⟨_, _, _, _, _, rfl, by omega, by omega, fun i _ => ?_⟩, (((hB.setCell hle _).setCell hle _).setCell hle _).drew⟩
  by_cases e : i = dg id 0 <;> simp [e]

set_option maxRecDepth 4000 in
set_option maxHeartbeats 1000000 in
theorem with_down (id : Nat) (v : Int × Int) (t : Tr) (w : World) (h : Lies w t) (hw : t.wf 0) : Calls Tryz.prog 63 #[t.ptr, .int .i64 7, .int .u32 (id : Int), .agg #[.int .i64 v.1, .int .i64 v.2]] w fun e w' => ∃ t', e = .returned t'.ptr ∧ Lies w' t' ∧ PutR w.heap.size id v 0 t' t ∧ Below w.heap.size w w' := by
  have hd := dg_lt id 0
  have hd0 : (0 : Int) ≤ (dg id 0 : Int) := by omega
  have hd1 : (dg id 0 : Int) < 16 := by omega
  go_enter Tryz.func63, Tryz.ntmps63
  have hb1 : Below w.heap.size w (w.alloc (.cells #[.int .i64 v.1, .int .i64 v.2] 47)) := (Below.refl _ _).alloc (Nat.le_refl _) _
  have a0 : (w.alloc (.cells #[.int .i64 v.1, .int .i64 v.2] 47)).cell? ⟨w.heap.size, 0, none⟩ = some (.int .i64 v.1) := by simp
  have a1 : (w.alloc (.cells #[.int .i64 v.1, .int .i64 v.2] 47)).cell? ⟨w.heap.size, 1, none⟩ = some (.int .i64 v.2) := by simp
  have hs1 : (w.alloc (.cells #[.int .i64 v.1, .int .i64 v.2] 47)).heap.size = w.heap.size + 1 := by simp
  go_wp2_with (go_at_call 78; fail)
  generalize w.alloc (.cells #[.int .i64 v.1, .int .i64 v.2] 47) = V at *
  have hV := h.later hb1
  refine (twin_down t V hV hw).mono ?_
  rintro e w1 ⟨rfl, hN, hS, hs2, hb2⟩
  have a2 := (hb2.cell (p := ⟨w.heap.size, 0, none⟩) (by simp; omega)).trans a0
  have a3 := (hb2.cell (p := ⟨w.heap.size, 1, none⟩) (by simp; omega)).trans a1
  have hB2 := below_step hb1 hb2
  have c0 := hN.shelf
  have d0 := hS.th hd
  have d1 := (hS.val hd).1
  have d2 := (hS.val hd).2
  have f0 := frozen_of_row hS (dg id 0)
  have f1 := frozen_of_row hS (16 + dg id 0 * 2)
  have f2 := frozen_of_row hS (16 + dg id 0 * 2 + 1)
  rw [hs1] at *
  go_wp2_with (first | (go_at_call 76; refine (digit_any 0 7 rfl id _).mono ?_; rintro e w2 ⟨rfl, rfl⟩))
  go_region_with (fail)
  all_goals
    go_wp2
    go_ret
    exact put_bottom hN hS hB2

/-- P3.3, P3.8: Put's inner call, at every height. -/
theorem with_any (id : Nat) (v : Int × Int) : ∀ (n l : Nat), l + n = 7 → ∀ (t : Tr) (w : World), Lies w t → t.wf n → Calls Tryz.prog 63 #[t.ptr, .int .i64 (l : Int), .int .u32 (id : Int), .agg #[.int .i64 v.1, .int .i64 v.2]] w fun e w' => ∃ t', e = .returned t'.ptr ∧ Lies w' t' ∧ PutR w.heap.size id v n t' t ∧ Below w.heap.size w w'
  | 0, l, hl, t, w, h, hw => by
    obtain rfl : l = 7 := by omega
    exact with_down id v t w h hw
  | n + 1, l, hl, t, w, h, hw => with_up id n l v hl (with_any id v n (l + 1) (by omega)) t w h hw

end Go.Proofs.YtblfdjdhikfjhaaGreat
