import Derived.Test.YtblfdjdhikfjhaaGreatJoin4
import Derived.ChangeKeysEq
namespace Go.Proofs.YtblfdjdhikfjhaaGreat
open Go.RowKit

/-- A block of two cells that may be written. -/
def Box2 (w : World) (b : Nat) (x y : Value) : Prop := w.cell? ⟨b, 0, none⟩ = some x ∧ w.cell? ⟨b, 1, none⟩ = some y ∧ w.frozen? ⟨b, 0, none⟩ = false ∧ w.frozen? ⟨b, 1, none⟩ = false
theorem Box2.new (w : World) (x y : Value) (t : TypeId) : Box2 (w.alloc (.cells #[x, y] t)) w.heap.size x y := by
  have h := heap_alloc_last w (.cells #[x, y] t)
  exact ⟨cell_of_row _ _ 0 _ _ _ h, cell_of_row _ _ 1 _ _ _ h, frozen_of_row h 0, frozen_of_row h 1⟩
theorem Box2.lt {w : World} {b : Nat} {x y : Value} (h : Box2 w b x y) : b < w.heap.size := World.block_lt_of_cell? _ _ h.1
theorem Box2.later {w w' : World} {b : Nat} {x y : Value} (h : Box2 w b x y) (hb : Below w.heap.size w w') : Box2 w' b x y :=
  ⟨(hb.cell (p := ⟨b, 0, none⟩) h.lt).trans h.1, (hb.cell (p := ⟨b, 1, none⟩) h.lt).trans h.2.1, (hb.frozen (p := ⟨b, 0, none⟩) h.lt).trans h.2.2.1, (hb.frozen (p := ⟨b, 1, none⟩) h.lt).trans h.2.2.2⟩

set_option maxHeartbeats 1000000 in
theorem look_any (s d : Nat) (hd : d < 16) (th : Nat → Bool) (vk vn : Nat → Int) (w : World) (h : ShelfAt w s th vk vn) : Calls Tryz.prog 77 #[.pointer (some ⟨s, 0, none⟩), .int .i64 (d : Int)] w fun e w' => e = .returned (.tuple #[.agg #[.int .i64 (vk d), .int .i64 (vn d)], .bool (th d)]) ∧ Below w.heap.size w w' := by
  have hd0 : (0 : Int) ≤ (d : Int) := by omega
  have hd1 : (d : Int) < 16 := by omega
  have hb := (Below.refl w.heap.size w).alloc (Nat.le_refl _) (.cells #[.int .i64 0, .int .i64 0] 47)
  have ha : ∀ o j, (w.alloc o).cell? ⟨s, j, none⟩ = w.cell? ⟨s, j, none⟩ := fun o j => ((Below.refl w.heap.size w).alloc (Nat.le_refl _) o).cell (p := ⟨s, j, none⟩) h.lt
  have c0 : ∀ o, (w.alloc o).cell? ⟨s, d, none⟩ = some (.bool (th d)) := fun o => (ha o _).trans (h.th hd)
  have c1 : ∀ o, (w.alloc o).cell? ⟨s, 16 + d * 2, none⟩ = some (.int .i64 (vk d)) := fun o => (ha o _).trans (h.val hd).1
  have c2 : ∀ o, (w.alloc o).cell? ⟨s, 16 + d * 2 + 1, none⟩ = some (.int .i64 (vn d)) := fun o => (ha o _).trans (h.val hd).2
  clear ha
  go_enter Tryz.func77, Tryz.ntmps77
  go_wp2
  go_region_with (fail)
  all_goals
    go_wp2
    exact bodyPost_ret (v := .tuple #[.agg #[.int .i64 (vk d), .int .i64 (vn d)], .bool (th d)]) (by simp [results, Tryz.results77, go_sem]) rfl ⟨rfl, ((Below.refl w.heap.size w).alloc (Nat.le_refl _) _).drew⟩

set_option maxHeartbeats 1000000 in
theorem get_any (mb id : Nat) (t : Tr) (w : World) (h : Lies w t) (hw : t.wf 7) (hmb : mb < w.heap.size) (m0 : w.cell? ⟨mb, 0, none⟩ = some t.ptr) : Calls Tryz.prog 62 #[.pointer (some ⟨mb, 0, none⟩), .int .u32 (id : Int)] w fun e w' => e = .returned (.tuple #[.agg #[.int .i64 ((t.get 7 id).getD (0, 0)).1, .int .i64 ((t.get 7 id).getD (0, 0)).2], .bool (t.get 7 id).isSome]) ∧ Below w.heap.size w w' := by
  obtain ⟨u, hu⟩ := ptr_pointer t
  have hb := (Below.refl w.heap.size w).alloc (Nat.le_refl _) (.cells #[.int .i64 0, .int .i64 0] 47)
  have m1 := (hb.cell (p := ⟨mb, 0, none⟩) hmb).trans m0
  have hL := h.later hb
  have hR := Box2.new w (.int .i64 0) (.int .i64 0) 47
  rw [hu] at m1
  go_enter Tryz.func62, Tryz.ntmps62
  go_wp2
  rw [← hu]
  go_loopw [6, 12] (fun n x wr => ∃ (j : Nat) (t' : Tr), j ≤ 7 ∧ x = .int .i64 j ∧ n = t'.ptr ∧ t'.wf (7 - j) ∧ Lies wr t' ∧ t'.get (7 - j) id = t.get 7 id ∧ Box2 wr w.heap.size (.int .i64 0) (.int .i64 0) ∧ Below w.heap.size w wr) (fun _ x _ => 7 - (intOf x).toNat)
  case atStart => exact ⟨0, t, by omega, rfl, rfl, hw, hL, rfl, hR, hb⟩
  case round =>
    obtain ⟨j, t', hj, rfl, rfl, hw', hL', hg, hR', hB'⟩ := hrel
    clear hR hb hL m0 m1
    by_cases hlt : j < 7
    · have hlt' : (j : Int) < 7 := by omega
      obtain ⟨r0, r1, q0, q1⟩ := hR'
      cases t' with
      | nil =>
        have hp : Tr.nil.ptr = .pointer none := rfl
        have hq : t.get 7 id = none := hg.symm
        go_wp2
        exact bodyPost_ret (v := .tuple #[.agg #[.int .i64 0, .int .i64 0], .bool false]) (by simp [results, Tryz.results62, go_sem, r0, r1]) rfl ⟨by rw [hq]; rfl, (hB'.setCell (Nat.le_refl _) _).setCell (Nat.le_refl _) _⟩
      | node b kids =>
        have hd := dg_lt id (7 - j)
        have hd0 : (0 : Int) ≤ (dg id (7 - j) : Int) := by omega
        have hd1 : (dg id (7 - j) : Int) < 16 := by omega
        obtain ⟨v, hv⟩ := ptr_pointer (kids (dg id (7 - j)))
        have c0 := hL'.1.kid hd
        simp only [hv] at c0
        have hp : (Tr.node b kids).ptr = .pointer (some ⟨b, 0, none⟩) := rfl
        go_wp2_with (go_at_call 76; fail)
        go_quiet (first | (go_at_call 76; exact Calls.quiet_of_same (digit_any (7 - j) j (by omega) id _)))
        go_wp2
        have hbq := below_drewN (Below.refl wr.heap.size wr) nq
        go_roundw
        case rel => exact ⟨j + 1, kids (dg id (7 - j)), by omega, by go_num, hv.symm, by rw [show 7 - (j + 1) = 7 - j - 1 from by omega]; exact hw'.2.1 _ hd, (hL'.2 _ hd).later hbq, by rw [show 7 - (j + 1) = 7 - j - 1 from by omega]; exact hg, Box2.later ⟨r0, r1, q0, q1⟩ hbq, below_step hB' hbq⟩
        case measure => simp [intOf]; omega
      | leaf => exact absurd hw'.1 (by omega)
    · obtain rfl : j = 7 := by omega
      have hRR := hR'
      obtain ⟨r0, r1, q0, q1⟩ := hR'
      cases t' with
      | nil =>
        have hp : Tr.nil.ptr = .pointer none := rfl
        have hq : t.get 7 id = none := hg.symm
        go_wp2
        exact bodyPost_ret (v := .tuple #[.agg #[.int .i64 0, .int .i64 0], .bool false]) (by simp [results, Tryz.results62, go_sem, r0, r1]) rfl ⟨by rw [hq]; rfl, (hB'.setCell (Nat.le_refl _) _).setCell (Nat.le_refl _) _⟩
      | node => exact absurd hw'.1 (by omega)
      | leaf b s th vk vn =>
        have hp : (Tr.leaf b s th vk vn).ptr = .pointer (some ⟨b, 0, none⟩) := rfl
        have c0 := hL'.1.shelf
        have hq : Hid (Value.tuple #[.agg #[.int .i64 (vk (dg id 0)), .int .i64 (vn (dg id 0))], .bool (th (dg id 0))] = .tuple #[.agg #[.int .i64 ((t.get 7 id).getD (0, 0)).1, .int .i64 ((t.get 7 id).getD (0, 0)).2], .bool (t.get 7 id).isSome]) := by
          unfold Hid
          have hq : t.get 7 id = if th (dg id 0) = true then some (vk (dg id 0), vn (dg id 0)) else none := hg.symm
          rw [hq]
          cases ht : th (dg id 0) with
          | true => rfl
          | false =>
            obtain ⟨z1, z2⟩ := hw'.2.1 _ (dg_lt id 0) ht
            rw [z1, z2]
            rfl
        clear hg
        go_wp2_with (first | (go_at_call 76; fail) | (go_at_call 77; fail))
        go_region_with (first | (go_at_call 76; refine (digit_any 0 7 rfl id _).mono ?_; rintro e w4 ⟨rfl, rfl⟩) | (go_at_call 77; refine (look_any s (dg id 0) (dg_lt id 0) th vk vn _ (hL'.2.later (Below.refl _ _).drew)).mono ?_; rintro e w5 ⟨rfl, hb5⟩; have hb6 := below_step ((Below.refl wr.heap.size wr).drew) hb5; obtain ⟨x0, x1, y0, y1⟩ := hRR.later hb6))
        all_goals
          go_wp2
          exact bodyPost_ret (v := .tuple #[.agg #[.int .i64 (vk (dg id 0)), .int .i64 (vn (dg id 0))], .bool (th (dg id 0))]) (by simp [results, Tryz.results62, go_sem, x0, x1]) rfl ⟨by rw [hq.out], ((below_step hB' hb6).setCell (Nat.le_refl _) _).setCell (Nat.le_refl _) _⟩

end Go.Proofs.YtblfdjdhikfjhaaGreat


namespace Go.Proofs.YtblfdjdhikfjhaaGreat
open Go.RowKit

theorem part_cell {P : Program} {e : TypeId} {d : TypeDesc} (hu : P.underlying e = some d) (hd : (match d with | .struct _ | .array _ _ => true | _ => false) = false) {cs : Array Value} {i : Nat} {x : Value} (hx : cs[i]? = some x) (w : World) : (part e cs i).run P w = .ok x w := by
  have hagg : (isAgg e).run P w = .ok false w := by
    unfold isAgg
    rw [Sem.run_bind, run_underlying hu w]
    cases d <;> simp_all
  simp [part, Sem.run_bind, hagg, hx]

theorem eqItems_cells {P : Program} (d : Nat) {e : TypeId} {desc : TypeDesc} (hu : P.underlying e = some desc) (hd : (match desc with | .struct _ | .array _ _ => true | _ => false) = false) (xs ys : Array Value) (x y : Nat → Value) (r : Nat → Bool) (w : World) : ∀ is : List Nat,
    (∀ i ∈ is, xs[i]? = some (x i) ∧ ys[i]? = some (y i) ∧ (Op.equalIn d e (x i) (y i)).run P w = .ok (r i) w) → (Op.eqItems d e 1 xs ys is).run P w = .ok (is.all r) w
  | [], _ => by simp [Op.eqItems]
  | i :: is, h => by
    obtain ⟨h1, h2, h3⟩ := h i (by simp)
    have ih := eqItems_cells d hu hd xs ys x y r w is (fun j hj => h j (by simp [hj]))
    simp only [Op.eqItems, Sem.run_bind, Nat.mul_one, part_cell hu hd h1, part_cell hu hd h2, h3, Result.andThen_ok]
    cases hr : r i
    · simp [hr]
    · simpa [hr] using ih

theorem all16 (r : Nat → Bool) (o : Bool) (h : o = true ↔ ∀ i, i < 16 → r i = true) : (List.range 16).all r = o := by
  rw [Bool.eq_iff_iff, h]
  simp

theorem cB : Tryz.prog.cellsOf 4 = 1 := by kernel_rfl
theorem cN : Tryz.prog.cellsOf 81 = 1 := by kernel_rfl

theorem eq_bools (th : Nat → Bool) (o : Bool) (ho : o = true ↔ ∀ i, i < 16 → th i = false) (w : World) : (Op.equalIn 10000 138 (.agg #[.bool (th 0), .bool (th 1), .bool (th 2), .bool (th 3), .bool (th 4), .bool (th 5), .bool (th 6), .bool (th 7), .bool (th 8), .bool (th 9), .bool (th 10), .bool (th 11), .bool (th 12), .bool (th 13), .bool (th 14), .bool (th 15)]) (.agg #[.bool false, .bool false, .bool false, .bool false, .bool false, .bool false, .bool false, .bool false, .bool false, .bool false, .bool false, .bool false, .bool false, .bool false, .bool false, .bool false])).run Tryz.prog w = .ok o w := by
  obtain ⟨i0, hi⟩ : ∃ i, Tryz.prog.info? 4 = some i := Option.isSome_iff_exists.1 (by kernel_rfl)
  rw [run_equalIn_array w 9999 _ _ Tryz.underlying138 hi, cB, eqItems_cells 9999 Tryz.underlying4 rfl _ _ (fun i => .bool (th i)) (fun _ => .bool false) (fun i => th i == false) w _ (fun i hm => ?_), all16 _ o (by rw [ho]; simp)]
  have hi := List.mem_range.1 hm
  exact ⟨below16 (P := fun i => (#[.bool (th 0), .bool (th 1), .bool (th 2), .bool (th 3), .bool (th 4), .bool (th 5), .bool (th 6), .bool (th 7), .bool (th 8), .bool (th 9), .bool (th 10), .bool (th 11), .bool (th 12), .bool (th 13), .bool (th 14), .bool (th 15)] : Array Value)[i]? = some (.bool (th i))) ⟨rfl, rfl, rfl, rfl, rfl, rfl, rfl, rfl, rfl, rfl, rfl, rfl, rfl, rfl, rfl, rfl⟩ i hi, below16 (P := fun i => (#[.bool false, .bool false, .bool false, .bool false, .bool false, .bool false, .bool false, .bool false, .bool false, .bool false, .bool false, .bool false, .bool false, .bool false, .bool false, .bool false] : Array Value)[i]? = some (.bool false)) ⟨rfl, rfl, rfl, rfl, rfl, rfl, rfl, rfl, rfl, rfl, rfl, rfl, rfl, rfl, rfl, rfl⟩ i hi, run_equalIn_bool w 9998 _ _ _ Tryz.underlying4⟩

set_option maxRecDepth 8000 in
theorem eq_kids (kv : Nat → Value) (hk : ∀ i, i < 16 → ∃ u, kv i = .pointer u) (o : Bool) (ho : o = true ↔ ∀ i, i < 16 → kv i = .pointer none) (w : World) : (Op.equalIn 10000 131 (.agg #[kv 0, kv 1, kv 2, kv 3, kv 4, kv 5, kv 6, kv 7, kv 8, kv 9, kv 10, kv 11, kv 12, kv 13, kv 14, kv 15]) (.agg #[.pointer none, .pointer none, .pointer none, .pointer none, .pointer none, .pointer none, .pointer none, .pointer none, .pointer none, .pointer none, .pointer none, .pointer none, .pointer none, .pointer none, .pointer none, .pointer none])).run Tryz.prog w = .ok o w := by
  obtain ⟨i0, hi⟩ : ∃ i, Tryz.prog.info? 81 = some i := Option.isSome_iff_exists.1 (by kernel_rfl)
  rw [run_equalIn_array w 9999 _ _ Tryz.underlying131 hi, cN, eqItems_cells 9999 Tryz.underlying81 rfl _ _ kv (fun _ => .pointer none) (fun i => match kv i with | .pointer none => true | _ => false) w _ (fun i hm => ?_), all16 _ o ?_]
  · rw [ho]
    constructor
    · intro h i hi; rw [h i hi]
    · intro h i hi
      obtain ⟨u, hu⟩ := hk i hi
      have := h i hi
      rw [hu] at this ⊢
      cases u with
      | none => rfl
      | some a => cases this
  · have hi := List.mem_range.1 hm
    refine ⟨below16 (P := fun i => (#[kv 0, kv 1, kv 2, kv 3, kv 4, kv 5, kv 6, kv 7, kv 8, kv 9, kv 10, kv 11, kv 12, kv 13, kv 14, kv 15] : Array Value)[i]? = some (kv i)) ⟨rfl, rfl, rfl, rfl, rfl, rfl, rfl, rfl, rfl, rfl, rfl, rfl, rfl, rfl, rfl, rfl⟩ i hi, below16 (P := fun i => (#[.pointer none, .pointer none, .pointer none, .pointer none, .pointer none, .pointer none, .pointer none, .pointer none, .pointer none, .pointer none, .pointer none, .pointer none, .pointer none, .pointer none, .pointer none, .pointer none] : Array Value)[i]? = some (.pointer none)) ⟨rfl, rfl, rfl, rfl, rfl, rfl, rfl, rfl, rfl, rfl, rfl, rfl, rfl, rfl, rfl, rfl⟩ i hi, ?_⟩
    obtain ⟨u, hu⟩ := hk i hi
    rw [hu]
    have := run_equalIn_pointer_nil (P := Tryz.prog) w 9998 81 u Tryz.underlying81
    rw [this]
    cases u <;> rfl

set_option maxRecDepth 4000 in
set_option maxHeartbeats 1000000 in
theorem bare_shelf (b s : Nat) (th : Nat → Bool) (vk vn : Nat → Int) (kv : Nat → Value) (w : World) (hN : NodeAt w b kv (.pointer (some ⟨s, 0, none⟩))) (hS : ShelfAt w s th vk vn) (o : Bool) (ho : o = true ↔ ∀ i, i < 16 → th i = false) : Calls Tryz.prog 120 #[.pointer (some ⟨b, 0, none⟩)] w fun e w' => e = .returned (.bool o) ∧ Below w.heap.size w w' := by
  have c0 := hN.shelf
  have heq := eq_bools th o ho
  clear ho
  have t0 := hS.th (i := 0) (by omega)
  have t1 := hS.th (i := 1) (by omega)
  have t2 := hS.th (i := 2) (by omega)
  have t3 := hS.th (i := 3) (by omega)
  have t4 := hS.th (i := 4) (by omega)
  have t5 := hS.th (i := 5) (by omega)
  have t6 := hS.th (i := 6) (by omega)
  have t7 := hS.th (i := 7) (by omega)
  have t8 := hS.th (i := 8) (by omega)
  have t9 := hS.th (i := 9) (by omega)
  have t10 := hS.th (i := 10) (by omega)
  have t11 := hS.th (i := 11) (by omega)
  have t12 := hS.th (i := 12) (by omega)
  have t13 := hS.th (i := 13) (by omega)
  have t14 := hS.th (i := 14) (by omega)
  have t15 := hS.th (i := 15) (by omega)
  go_enter Tryz.func120, Tryz.ntmps120
  go_wp2
  go_ret
  exact ⟨rfl, Below.refl _ _⟩

set_option maxRecDepth 4000 in
set_option maxHeartbeats 1000000 in
theorem bare_kids (b : Nat) (kv : Nat → Value) (hk : ∀ i, i < 16 → ∃ u, kv i = .pointer u) (w : World) (hN : NodeAt w b kv (.pointer none)) (o : Bool) (ho : o = true ↔ ∀ i, i < 16 → kv i = .pointer none) : Calls Tryz.prog 120 #[.pointer (some ⟨b, 0, none⟩)] w fun e w' => e = .returned (.bool o) ∧ Below w.heap.size w w' := by
  have c0 := hN.shelf
  have heq := eq_kids kv hk o ho
  clear ho hk
  have t0 := hN.kid (i := 0) (by omega)
  have t1 := hN.kid (i := 1) (by omega)
  have t2 := hN.kid (i := 2) (by omega)
  have t3 := hN.kid (i := 3) (by omega)
  have t4 := hN.kid (i := 4) (by omega)
  have t5 := hN.kid (i := 5) (by omega)
  have t6 := hN.kid (i := 6) (by omega)
  have t7 := hN.kid (i := 7) (by omega)
  have t8 := hN.kid (i := 8) (by omega)
  have t9 := hN.kid (i := 9) (by omega)
  have t10 := hN.kid (i := 10) (by omega)
  have t11 := hN.kid (i := 11) (by omega)
  have t12 := hN.kid (i := 12) (by omega)
  have t13 := hN.kid (i := 13) (by omega)
  have t14 := hN.kid (i := 14) (by omega)
  have t15 := hN.kid (i := 15) (by omega)
  go_enter Tryz.func120, Tryz.ntmps120
  go_wp2
  go_ret
  exact ⟨rfl, Below.refl _ _⟩

end Go.Proofs.YtblfdjdhikfjhaaGreat
