import Derived.Test.YtblfdjdhikfjhaaGreatProg
import Derived.Test.YtblfdjdhikfjhaaGreatTrieM
import Derived.WalkKit
import Derived.WalkSpells
import Derived.WalkLawsBesides
import Derived.Deep.QuietTactic
import Derived.BigQuiet
import Derived.Deep.RegionWith
import Derived.Laws.Shifts
import Derived.Lib.EndianBits
import Derived.Deep.WholeRow
import Derived.Deep.MidRow
namespace Go.Proofs.YtblfdjdhikfjhaaGreat
open Go.RowKit

theorem below_step {w X w1 : World} (h : Below w.heap.size w X) (hb : Below X.heap.size X w1) : Below w.heap.size w w1 := h.trans (hb.mono h.size)

theorem shift_any (n l : Nat) (hl : l + n = 7) (w : World) : Calls Tryz.prog 89 #[.int .i64 (l : Int)] w fun e w' => e = .returned (.int .i64 ((4 * n : Nat) : Int)) ∧ w' = w := by
  have h : 4 * (7 - (l : Int)) = ((4 * n : Nat) : Int) := by omega
  go_enter Tryz.func89, Tryz.ntmps89
  go_wp2
  go_ret
  exact ⟨by simp, rfl⟩

theorem pow16 (n : Nat) : (2 : Int) ^ (4 * n) = ((16 ^ n : Nat) : Int) := by
  rw [show (16 : Nat) ^ n = 2 ^ (4 * n) from by rw [Nat.pow_mul]]
  simp
theorem pow16_le {n : Nat} (h : n ≤ 7) : 16 ^ n ≤ 268435456 := Nat.pow_le_pow_right (by decide) h

theorem digit_any (n l : Nat) (hl : l + n = 7) (id : Nat) (w : World) : Calls Tryz.prog 76 #[.int .u32 (id : Int), .int .i64 (l : Int)] w fun e w' => e = .returned (.int .i64 (dg id n : Int)) ∧ w' = w := by
  have h0 : (0 : Int) ≤ ((4 * n : Nat) : Int) := by omega
  go_enter Tryz.func76, Tryz.ntmps76
  go_wp2_with (go_at_call 89; refine (shift_any n l hl _).mono ?_; rintro e w1 ⟨rfl, rfl⟩)
  go_ret
  refine ⟨?_, rfl⟩
  show Ending.returned (.int .i64 (wrap64 (((id : Int) / 2 ^ (4 * n)).tmod 16))) = _
  rw [pow16, ← Int.natCast_ediv, Int.tmod_eq_emod_of_nonneg (Int.natCast_nonneg _)]
  have e : wrap64 (((id / 16 ^ n : Nat) : Int) % 16) = ((dg id n : Nat) : Int) := by
    unfold dg wrap64
    generalize id / 16 ^ n = z
    omega
  rw [e]

theorem head_any (n l : Nat) (hl : l + n = 7) (p a : Nat) (hp : p < 4294967296) (hm : p % 16 ^ (n + 1) = 0) (ha : a < 16) (w : World) : Calls Tryz.prog 92 #[.int .u32 (p : Int), .int .i64 (l : Int), .int .i64 (a : Int)] w fun e w' => e = .returned (.int .u32 ((p + a * 16 ^ n : Nat) : Int)) ∧ w' = w := by
  have h0 : (0 : Int) ≤ ((4 * n : Nat) : Int) := by omega
  go_enter Tryz.func92, Tryz.ntmps92
  go_wp2_with (go_at_call 89; refine (shift_any n l hl _).mono ?_; rintro e w1 ⟨rfl, rfl⟩)
  go_ret
  refine ⟨?_, rfl⟩
  show Ending.returned (.int .u32 (bits BinOp.or IntKind.u32 (p : Int) ((a : Int) * 2 ^ (4 * n) % 4294967296))) = _
  have h16 := pow16_le (n := n) (by omega)
  have hle : a * 16 ^ n ≤ 15 * 16 ^ n := Nat.mul_le_mul_right _ (by omega)
  have e1 : (a : Int) * 2 ^ (4 * n) % 4294967296 = ((a * 16 ^ n : Nat) : Int) := by
    rw [pow16, ← Int.natCast_mul]
    omega
  rw [e1]
  have e2 : bits BinOp.or IntKind.u32 (p : Int) ((a * 16 ^ n : Nat) : Int) = ((p + a * 16 ^ n : Nat) : Int) := by
    have hw : ((p + a * 16 ^ n : Nat) : Int) = (p : Int) + ((a * 16 ^ n : Nat) : Int) := by omega
    rw [hw]
    have hs : 16 ^ (n + 1) = 16 ^ n * 16 := Nat.pow_succ 16 n
    refine bits_join .u32 32 (by decide) wraps_u32 (4 * (n + 1)) _ _ (by omega) ?_ (by omega) (by omega) ?_ (by omega)
    · rw [pow16, ← Int.natCast_emod, hm]
      rfl
    · rw [pow16]
      omega
  rw [e2]

end Go.Proofs.YtblfdjdhikfjhaaGreat


namespace Go.Proofs.YtblfdjdhikfjhaaGreat
open Go.RowKit

def Tr.ptr : Tr → Value
  | .nil => .pointer none
  | .node b _ => .pointer (some ⟨b, 0, none⟩)
  | .leaf b _ _ _ _ => .pointer (some ⟨b, 0, none⟩)

/-- The cells of a node: its children, its shelf. -/
def row17 (kv : Nat → Value) (sv : Value) : Array Value := ((List.range 16).map kv ++ [sv]).toArray
/-- The cells of a shelf: which are there; their values. -/
def row48 (th : Nat → Bool) (vk vn : Nat → Int) : Array Value := ((List.range 16).map (fun i => Value.bool (th i)) ++ (List.range 16).flatMap (fun i => [Value.int .i64 (vk i), Value.int .i64 (vn i)])).toArray

def NodeAt (W : World) (b : Nat) (kv : Nat → Value) (sv : Value) : Prop := W.heap[b]? = some (.cells (row17 kv sv) 134 (0, 0))
def ShelfAt (W : World) (s : Nat) (th : Nat → Bool) (vk vn : Nat → Int) : Prop := W.heap[s]? = some (.cells (row48 th vk vn) 141 (0, 0))

theorem row17_size (kv : Nat → Value) (sv : Value) : (row17 kv sv).size = 17 := rfl
theorem row48_size (th : Nat → Bool) (vk vn : Nat → Int) : (row48 th vk vn).size = 48 := rfl

theorem below16 {P : Nat → Prop} (h : P 0 ∧ P 1 ∧ P 2 ∧ P 3 ∧ P 4 ∧ P 5 ∧ P 6 ∧ P 7 ∧ P 8 ∧ P 9 ∧ P 10 ∧ P 11 ∧ P 12 ∧ P 13 ∧ P 14 ∧ P 15) (i : Nat) (hi : i < 16) : P i := by
  obtain ⟨h0, h1, h2, h3, h4, h5, h6, h7, h8, h9, h10, h11, h12, h13, h14, h15⟩ := h
  match i, hi with
  | 0, _ => exact h0
  | 1, _ => exact h1
  | 2, _ => exact h2
  | 3, _ => exact h3
  | 4, _ => exact h4
  | 5, _ => exact h5
  | 6, _ => exact h6
  | 7, _ => exact h7
  | 8, _ => exact h8
  | 9, _ => exact h9
  | 10, _ => exact h10
  | 11, _ => exact h11
  | 12, _ => exact h12
  | 13, _ => exact h13
  | 14, _ => exact h14
  | 15, _ => exact h15
  | j + 16, h => omega

theorem row17_kid (kv : Nat → Value) (sv : Value) {i : Nat} (hi : i < 16) : (row17 kv sv)[i]? = some (kv i) := below16 (P := fun i => (row17 kv sv)[i]? = some (kv i)) ⟨rfl, rfl, rfl, rfl, rfl, rfl, rfl, rfl, rfl, rfl, rfl, rfl, rfl, rfl, rfl, rfl⟩ i hi
theorem row17_shelf (kv : Nat → Value) (sv : Value) : (row17 kv sv)[16]? = some sv := rfl
theorem row48_th (th : Nat → Bool) (vk vn : Nat → Int) {i : Nat} (hi : i < 16) : (row48 th vk vn)[i]? = some (.bool (th i)) := below16 (P := fun i => (row48 th vk vn)[i]? = some (.bool (th i))) ⟨rfl, rfl, rfl, rfl, rfl, rfl, rfl, rfl, rfl, rfl, rfl, rfl, rfl, rfl, rfl, rfl⟩ i hi
theorem row48_val (th : Nat → Bool) (vk vn : Nat → Int) {i : Nat} (hi : i < 16) : (row48 th vk vn)[16 + i * 2]? = some (.int .i64 (vk i)) ∧ (row48 th vk vn)[16 + i * 2 + 1]? = some (.int .i64 (vn i)) :=
  below16 (P := fun i => (row48 th vk vn)[16 + i * 2]? = some (.int .i64 (vk i)) ∧ (row48 th vk vn)[16 + i * 2 + 1]? = some (.int .i64 (vn i))) ⟨⟨rfl, rfl⟩, ⟨rfl, rfl⟩, ⟨rfl, rfl⟩, ⟨rfl, rfl⟩, ⟨rfl, rfl⟩, ⟨rfl, rfl⟩, ⟨rfl, rfl⟩, ⟨rfl, rfl⟩, ⟨rfl, rfl⟩, ⟨rfl, rfl⟩, ⟨rfl, rfl⟩, ⟨rfl, rfl⟩, ⟨rfl, rfl⟩, ⟨rfl, rfl⟩, ⟨rfl, rfl⟩, ⟨rfl, rfl⟩⟩ i hi
theorem row48_one (th : Nat → Bool) (vk vn : Nat → Int) : (row48 th vk vn).all (·.oneCell') = true := by
  rw [Array.all_eq_true_iff_forall_mem]
  intro x hx
  simp only [row48, List.mem_toArray, List.mem_append, List.mem_map, List.mem_flatMap, List.mem_range, List.mem_cons, List.not_mem_nil, or_false] at hx
  rcases hx with ⟨i, hi, rfl⟩ | ⟨i, hi, rfl | rfl⟩ <;> rfl
theorem row17_one {kv : Nat → Value} {sv : Value} (hk : ∀ i, i < 16 → (kv i).oneCell' = true) (hs : sv.oneCell' = true) : (row17 kv sv).all (·.oneCell') = true := by
  rw [Array.all_eq_true_iff_forall_mem]
  intro x hx
  simp only [row17, List.mem_toArray, List.mem_append, List.mem_map, List.mem_range, List.mem_singleton] at hx
  rcases hx with ⟨i, hi, rfl⟩ | rfl
  · exact hk i hi
  · exact hs

/-- One child is another one. -/
theorem row17_set (kv : Nat → Value) (sv u : Value) {d : Nat} (hd : d < 16) : (row17 kv sv).setIfInBounds d u = row17 (fun i => if i = d then u else kv i) sv :=
  below16 (P := fun d => (row17 kv sv).setIfInBounds d u = row17 (fun i => if i = d then u else kv i) sv) ⟨rfl, rfl, rfl, rfl, rfl, rfl, rfl, rfl, rfl, rfl, rfl, rfl, rfl, rfl, rfl, rfl⟩ d hd
theorem row17_set_shelf (kv : Nat → Value) (sv u : Value) : (row17 kv sv).setIfInBounds 16 u = row17 kv u := rfl
theorem row48_set (th : Nat → Bool) (vk vn : Nat → Int) (b : Bool) (x y : Int) {d : Nat} (hd : d < 16) :
    (((row48 th vk vn).setIfInBounds d (.bool b)).setIfInBounds (16 + d * 2) (.int .i64 x)).setIfInBounds (16 + d * 2 + 1) (.int .i64 y) = row48 (fun i => if i = d then b else th i) (fun i => if i = d then x else vk i) (fun i => if i = d then y else vn i) :=
  below16 (P := fun d => (((row48 th vk vn).setIfInBounds d (.bool b)).setIfInBounds (16 + d * 2) (.int .i64 x)).setIfInBounds (16 + d * 2 + 1) (.int .i64 y) = row48 (fun i => if i = d then b else th i) (fun i => if i = d then x else vk i) (fun i => if i = d then y else vn i)) ⟨rfl, rfl, rfl, rfl, rfl, rfl, rfl, rfl, rfl, rfl, rfl, rfl, rfl, rfl, rfl, rfl⟩ d hd
theorem row17_nil : row17 (fun _ => .pointer none) (.pointer none) = #[.pointer none, .pointer none, .pointer none, .pointer none, .pointer none, .pointer none, .pointer none, .pointer none, .pointer none, .pointer none, .pointer none, .pointer none, .pointer none, .pointer none, .pointer none, .pointer none, .pointer none] := rfl

theorem NodeAt.lt {W : World} {b : Nat} {kv : Nat → Value} {sv : Value} (h : NodeAt W b kv sv) : b < W.heap.size := (Array.getElem?_eq_some_iff.1 h).1
theorem ShelfAt.lt {W : World} {s : Nat} {th : Nat → Bool} {vk vn : Nat → Int} (h : ShelfAt W s th vk vn) : s < W.heap.size := (Array.getElem?_eq_some_iff.1 h).1
theorem NodeAt.kid {W : World} {b : Nat} {kv : Nat → Value} {sv : Value} (h : NodeAt W b kv sv) {i : Nat} (hi : i < 16) : W.cell? ⟨b, i, none⟩ = some (kv i) := (cell_of_row W b i _ _ _ h).trans (row17_kid kv sv hi)
theorem NodeAt.shelf {W : World} {b : Nat} {kv : Nat → Value} {sv : Value} (h : NodeAt W b kv sv) : W.cell? ⟨b, 16, none⟩ = some sv := cell_of_row W b 16 _ _ _ h
theorem ShelfAt.th {W : World} {s : Nat} {th : Nat → Bool} {vk vn : Nat → Int} (h : ShelfAt W s th vk vn) {i : Nat} (hi : i < 16) : W.cell? ⟨s, i, none⟩ = some (.bool (th i)) := (cell_of_row W s i _ _ _ h).trans (row48_th th vk vn hi)
theorem ShelfAt.val {W : World} {s : Nat} {th : Nat → Bool} {vk vn : Nat → Int} (h : ShelfAt W s th vk vn) {i : Nat} (hi : i < 16) : W.cell? ⟨s, 16 + i * 2, none⟩ = some (.int .i64 (vk i)) ∧ W.cell? ⟨s, 16 + i * 2 + 1, none⟩ = some (.int .i64 (vn i)) :=
  ⟨(cell_of_row W s _ _ _ _ h).trans (row48_val th vk vn hi).1, (cell_of_row W s _ _ _ _ h).trans (row48_val th vk vn hi).2⟩

theorem NodeAt.later {W W' : World} {b : Nat} {kv : Nat → Value} {sv : Value} (h : NodeAt W b kv sv) (hb : Below W.heap.size W W') : NodeAt W' b kv sv := (hb.block b h.lt).trans h
theorem ShelfAt.later {W W' : World} {s : Nat} {th : Nat → Bool} {vk vn : Nat → Int} (h : ShelfAt W s th vk vn) (hb : Below W.heap.size W W') : ShelfAt W' s th vk vn := (hb.block s h.lt).trans h

/-- The tree lies in the world. -/
def Lies (W : World) : Tr → Prop
  | .nil => True
  | .node b kids => NodeAt W b (fun i => (kids i).ptr) (.pointer none) ∧ ∀ i, i < 16 → Lies W (kids i)
  | .leaf b s th vk vn => NodeAt W b (fun _ => .pointer none) (.pointer (some ⟨s, 0, none⟩)) ∧ ShelfAt W s th vk vn

theorem Lies.later {W W' : World} (hb : Below W.heap.size W W') : ∀ {t : Tr}, Lies W t → Lies W' t := by
  intro t
  induction t with
  | nil => intro _; trivial
  | node b kids ih => intro h; exact ⟨h.1.later hb, fun i hi => ih i (h.2 i hi)⟩
  | leaf b s th vk vn => intro h; exact ⟨h.1.later hb, h.2.later hb⟩
theorem Lies.kid {W : World} {t : Tr} (h : Lies W t) {i : Nat} (hi : i < 16) : Lies W (t.kid i) := by
  cases t with
  | nil => trivial
  | node b kids => exact h.2 i hi
  | leaf => trivial
theorem ptr_pointer (t : Tr) : ∃ u, t.ptr = .pointer u := by cases t <;> exact ⟨_, rfl⟩
theorem ptr_one (t : Tr) : t.ptr.oneCell' = true := by cases t <;> rfl
theorem ptr_some {t : Tr} (h : t ≠ .nil) : ∃ b, t.ptr = .pointer (some ⟨b, 0, none⟩) := by
  cases t with
  | nil => exact absurd rfl h
  | node b kids => exact ⟨b, rfl⟩
  | leaf b => exact ⟨b, rfl⟩

theorem info_shelf : (Tryz.prog.info? 141).map (·.size) = some 48 := by kernel_rfl
theorem info_node : (Tryz.prog.info? 134).map (·.size) = some 17 := by kernel_rfl

set_option maxRecDepth 4000 in
set_option maxHeartbeats 1000000 in
theorem shelf_twin_some (s : Nat) (th : Nat → Bool) (vk vn : Nat → Int) (w : World) (h : ShelfAt w s th vk vn) : Calls Tryz.prog 90 #[.pointer (some ⟨s, 0, none⟩)] w fun e w' => e = .returned (.pointer (some ⟨w.heap.size, 0, none⟩)) ∧ w' = w.alloc (.cells (row48 th vk vn) 141) := by
  go_enter Tryz.func90, Tryz.ntmps90
  go_wp2_with (first | (refine wpList_load_row rfl 141 _ rfl s rfl 141 (row48 th vk vn) (0, 0) _ (h.later ((Below.refl _ _).alloc (Nat.le_refl _) _)) Tryz.underlying141 rfl info_shelf ?_) | (refine wpList_store_row rfl 141 _ _ rfl w.heap.size (row48 th vk vn) rfl rfl 141 _ (heap_alloc_last _ _) info_shelf rfl (row48_one th vk vn) ?_; rw [World.setRow_alloc_new]))
  go_ret
  exact ⟨rfl, rfl⟩

set_option maxRecDepth 4000 in
set_option maxHeartbeats 1000000 in
theorem shelf_twin_none (w : World) : Calls Tryz.prog 90 #[.pointer none] w fun e w' => e = .returned (.pointer (some ⟨w.heap.size, 0, none⟩)) ∧ w' = w.alloc (.cells (row48 (fun _ => false) (fun _ => 0) (fun _ => 0)) 141) := by
  go_enter Tryz.func90, Tryz.ntmps90
  go_wp2
  go_ret
  exact ⟨rfl, rfl⟩

theorem node_new (w : World) (kv : Nat → Value) (sv : Value) : NodeAt (w.alloc (.cells (row17 kv sv) 134)) w.heap.size kv sv := heap_alloc_last w _
theorem shelf_new (w : World) (th : Nat → Bool) (vk vn : Nat → Int) : ShelfAt (w.alloc (.cells (row48 th vk vn) 141)) w.heap.size th vk vn := heap_alloc_last w _

set_option maxRecDepth 4000 in
set_option maxHeartbeats 1000000 in
/-- A twin above the bottom. -/
theorem twin_some (b l : Nat) (hl : l < 7) (kv : Nat → Value) (sv : Value) (hk : ∀ i, i < 16 → (kv i).oneCell' = true) (hs : sv.oneCell' = true) (w : World) (h : NodeAt w b kv sv) : Calls Tryz.prog 78 #[.pointer (some ⟨b, 0, none⟩), .int .i64 (l : Int)] w fun e w' => e = .returned (.pointer (some ⟨w.heap.size, 0, none⟩)) ∧ w' = w.alloc (.cells (row17 kv sv) 134) := by
  have hl7 : ((l : Int) == 7) = false := by simp; omega
  go_enter Tryz.func78, Tryz.ntmps78
  go_wp2_with (first | (refine wpList_load_row rfl 134 _ rfl b rfl 134 (row17 kv sv) (0, 0) _ (h.later ((Below.refl _ _).alloc (Nat.le_refl _) _)) Tryz.underlying134 rfl info_node ?_) | (refine wpList_store_row rfl 134 _ _ rfl w.heap.size (row17 kv sv) rfl rfl 134 _ (heap_alloc_last _ _) info_node rfl (row17_one hk hs) ?_; rw [World.setRow_alloc_new]))
  go_ret
  exact ⟨rfl, rfl⟩

set_option maxRecDepth 4000 in
set_option maxHeartbeats 1000000 in
theorem twin_none (l : Nat) (hl : l < 7) (w : World) : Calls Tryz.prog 78 #[.pointer none, .int .i64 (l : Int)] w fun e w' => e = .returned (.pointer (some ⟨w.heap.size, 0, none⟩)) ∧ w' = w.alloc (.cells (row17 (fun _ => .pointer none) (.pointer none)) 134) := by
  have hl7 : ((l : Int) == 7) = false := by simp; omega
  go_enter Tryz.func78, Tryz.ntmps78
  go_wp2
  go_ret
  exact ⟨rfl, rfl⟩

/-- Above the bottom a twin is a new node with the same children. -/
theorem twin_up (t : Tr) (n l : Nat) (hn : l + (n + 1) = 7) (w : World) (h : Lies w t) (hw : t.wf (n + 1)) : Calls Tryz.prog 78 #[t.ptr, .int .i64 (l : Int)] w fun e w' => e = .returned (.pointer (some ⟨w.heap.size, 0, none⟩)) ∧ w' = w.alloc (.cells (row17 (fun i => (t.kid i).ptr) (.pointer none)) 134) := by
  cases t with
  | nil => exact twin_none l (by omega) w
  | node b kids => exact twin_some b l (by omega) _ _ (fun i _ => ptr_one _) rfl w h.1
  | leaf => exact absurd hw.1 (by omega)

end Go.Proofs.YtblfdjdhikfjhaaGreat
