import Derived.Test.YtmppgcijbeipfaaDoorTBottom
namespace Go.Proofs.YtmppgcijbeipfaaDoor
open Go.RowKit

/-- A block of two cells that may be written. -/
def Box2 (w : World) (b : Nat) (x y : Value) : Prop := w.cell? ⟨b, 0, none⟩ = some x ∧ w.cell? ⟨b, 1, none⟩ = some y ∧ w.frozen? ⟨b, 0, none⟩ = false ∧ w.frozen? ⟨b, 1, none⟩ = false
theorem Box2.new (w : World) (x y : Value) (t : TypeId) : Box2 (w.alloc (.cells #[x, y] t)) w.heap.size x y := by
  have h := heap_alloc_last w (.cells #[x, y] t)
  exact ⟨cell_of_row _ _ 0 _ _ _ h, cell_of_row _ _ 1 _ _ _ h, frozen_of_row h 0, frozen_of_row h 1⟩
theorem Box2.lt {w : World} {b : Nat} {x y : Value} (h : Box2 w b x y) : b < w.heap.size := World.block_lt_of_cell? _ _ h.1
theorem Box2.later {w w' : World} {b : Nat} {x y : Value} (h : Box2 w b x y) (hb : Below w.heap.size w w') : Box2 w' b x y :=
  ⟨(hb.cell (p := ⟨b, 0, none⟩) h.lt).trans h.1, (hb.cell (p := ⟨b, 1, none⟩) h.lt).trans h.2.1, (hb.frozen (p := ⟨b, 0, none⟩) h.lt).trans h.2.2.1, (hb.frozen (p := ⟨b, 1, none⟩) h.lt).trans h.2.2.2⟩

set_option maxHeartbeats 1000000 in
theorem look_any (s d : Nat) (hd : d < 16) (th : Nat → Bool) (vk vn : Nat → Int) (w : World) (h : ShelfAt w s th vk vn) : Calls Tryd.prog 34 #[.pointer (some ⟨s, 0, none⟩), .int .i64 (d : Int)] w fun e w' => e = .returned (.tuple #[.agg #[.int .i64 (vk d), .int .i64 (vn d)], .bool (th d)]) ∧ Below w.heap.size w w' := by
  have hd0 : (0 : Int) ≤ (d : Int) := by omega
  have hd1 : (d : Int) < 16 := by omega
  have hb := (Below.refl w.heap.size w).alloc (Nat.le_refl _) (.cells #[.int .i64 0, .int .i64 0] 29)
  have ha : ∀ o j, (w.alloc o).cell? ⟨s, j, none⟩ = w.cell? ⟨s, j, none⟩ := fun o j => ((Below.refl w.heap.size w).alloc (Nat.le_refl _) o).cell (p := ⟨s, j, none⟩) h.lt
  have c0 : ∀ o, (w.alloc o).cell? ⟨s, d, none⟩ = some (.bool (th d)) := fun o => (ha o _).trans (h.th hd)
  have c1 : ∀ o, (w.alloc o).cell? ⟨s, 16 + d * 2, none⟩ = some (.int .i64 (vk d)) := fun o => (ha o _).trans (h.val hd).1
  have c2 : ∀ o, (w.alloc o).cell? ⟨s, 16 + d * 2 + 1, none⟩ = some (.int .i64 (vn d)) := fun o => (ha o _).trans (h.val hd).2
  clear ha
  go_enter Tryd.func34, Tryd.ntmps34
  go_wp2
  go_region_with (fail)
  all_goals
    go_wp2
    exact bodyPost_ret (v := .tuple #[.agg #[.int .i64 (vk d), .int .i64 (vn d)], .bool (th d)]) (by simp [results, Tryd.results34, go_sem]) rfl ⟨rfl, ((Below.refl w.heap.size w).alloc (Nat.le_refl _) _).drew⟩

set_option maxHeartbeats 1000000 in
theorem get_any (mb id : Nat) (t : Tr) (w : World) (h : Lies w t) (hw : t.wf 7) (hmb : mb < w.heap.size) (m0 : w.cell? ⟨mb, 0, none⟩ = some t.ptr) : Calls Tryd.prog 10 #[.pointer (some ⟨mb, 0, none⟩), .int .u32 (id : Int)] w fun e w' => e = .returned (.tuple #[.agg #[.int .i64 ((t.get 7 id).getD (0, 0)).1, .int .i64 ((t.get 7 id).getD (0, 0)).2], .bool (t.get 7 id).isSome]) ∧ Below w.heap.size w w' := by
  obtain ⟨u, hu⟩ := ptr_pointer t
  have hb := (Below.refl w.heap.size w).alloc (Nat.le_refl _) (.cells #[.int .i64 0, .int .i64 0] 29)
  have m1 := (hb.cell (p := ⟨mb, 0, none⟩) hmb).trans m0
  have hL := h.later hb
  have hR := Box2.new w (.int .i64 0) (.int .i64 0) 29
  rw [hu] at m1
  go_enter Tryd.func10, Tryd.ntmps10
  go_wp2
  rw [← hu]
  go_loopw [6, 12] (fun n x wr => ∃ (j : Nat) (t' : Tr), j ≤ 7 ∧ x = .int .i64 j ∧ n = t'.ptr ∧ t'.wf (7 - j) ∧ Lies wr t' ∧ t'.get (7 - j) id = t.get 7 id ∧ Box2 wr w.heap.size (.int .i64 0) (.int .i64 0) ∧ Below w.heap.size w wr) (fun _ x _ => 7 - (intOf x).toNat)
  case atStart => exact ⟨0, t, by omega, rfl, rfl, hw, hL, rfl, hR, hb⟩
  case round =>
    obtain ⟨j, t', hj, rfl, rfl, hw', hL', hg, hR', hB'⟩ := hrel
    clear hR hb hL m0 m1
    by_cases hlt : j < 7
    · have hlt' : (j : Int) < 7 := by omega
      obtain ⟨r0, r1, q0, q1⟩ := hR'
      cases t' with
      | nil =>
        have hp : Tr.nil.ptr = .pointer none := rfl
        have hq : t.get 7 id = none := hg.symm
        go_wp2
        exact bodyPost_ret (v := .tuple #[.agg #[.int .i64 0, .int .i64 0], .bool false]) (by simp [results, Tryd.results10, go_sem, r0, r1]) rfl ⟨by rw [hq]; rfl, (hB'.setCell (Nat.le_refl _) _).setCell (Nat.le_refl _) _⟩
      | node b kids =>
        have hd := dg_lt id (7 - j)
        have hd0 : (0 : Int) ≤ (dg id (7 - j) : Int) := by omega
        have hd1 : (dg id (7 - j) : Int) < 16 := by omega
        obtain ⟨v, hv⟩ := ptr_pointer (kids (dg id (7 - j)))
        have c0 := hL'.1.kid hd
        simp only [hv] at c0
        have hp : (Tr.node b kids).ptr = .pointer (some ⟨b, 0, none⟩) := rfl
        go_wp2_with (go_at_call 33; fail)
        go_quiet (first | (go_at_call 33; exact Calls.quiet_of_same (digit_any (7 - j) j (by omega) id _)))
        go_wp2
        have hbq := below_drewN (Below.refl wr.heap.size wr) nq
        go_roundw
        case rel => exact ⟨j + 1, kids (dg id (7 - j)), by omega, by go_num, hv.symm, by rw [show 7 - (j + 1) = 7 - j - 1 from by omega]; exact hw'.2.1 _ hd, (hL'.2 _ hd).later hbq, by rw [show 7 - (j + 1) = 7 - j - 1 from by omega]; exact hg, Box2.later ⟨r0, r1, q0, q1⟩ hbq, below_step hB' hbq⟩
        case measure => simp [intOf]; omega
      | leaf => exact absurd hw'.1 (by omega)
    · obtain rfl : j = 7 := by omega
      have hRR := hR'
      obtain ⟨r0, r1, q0, q1⟩ := hR'
      cases t' with
      | nil =>
        have hp : Tr.nil.ptr = .pointer none := rfl
        have hq : t.get 7 id = none := hg.symm
        go_wp2
        exact bodyPost_ret (v := .tuple #[.agg #[.int .i64 0, .int .i64 0], .bool false]) (by simp [results, Tryd.results10, go_sem, r0, r1]) rfl ⟨by rw [hq]; rfl, (hB'.setCell (Nat.le_refl _) _).setCell (Nat.le_refl _) _⟩
      | node => exact absurd hw'.1 (by omega)
      | leaf b s th vk vn =>
        have hp : (Tr.leaf b s th vk vn).ptr = .pointer (some ⟨b, 0, none⟩) := rfl
        have c0 := hL'.1.shelf
        have hq : Hid (Value.tuple #[.agg #[.int .i64 (vk (dg id 0)), .int .i64 (vn (dg id 0))], .bool (th (dg id 0))] = .tuple #[.agg #[.int .i64 ((t.get 7 id).getD (0, 0)).1, .int .i64 ((t.get 7 id).getD (0, 0)).2], .bool (t.get 7 id).isSome]) := by
          unfold Hid
          have hq : t.get 7 id = if th (dg id 0) = true then some (vk (dg id 0), vn (dg id 0)) else none := hg.symm
          rw [hq]
          cases ht : th (dg id 0) with
          | true => rfl
          | false =>
            obtain ⟨z1, z2⟩ := hw'.2.1 _ (dg_lt id 0) ht
            rw [z1, z2]
            rfl
        clear hg
        go_wp2_with (first | (go_at_call 33; fail) | (go_at_call 34; fail))
        go_region_with (first | (go_at_call 33; refine (digit_any 0 7 rfl id _).mono ?_; rintro e w4 ⟨rfl, rfl⟩) | (go_at_call 34; refine (look_any s (dg id 0) (dg_lt id 0) th vk vn _ (hL'.2.later (Below.refl _ _).drew)).mono ?_; rintro e w5 ⟨rfl, hb5⟩; have hb6 := below_step ((Below.refl wr.heap.size wr).drew) hb5; obtain ⟨x0, x1, y0, y1⟩ := hRR.later hb6))
        all_goals
          go_wp2
          exact bodyPost_ret (v := .tuple #[.agg #[.int .i64 (vk (dg id 0)), .int .i64 (vn (dg id 0))], .bool (th (dg id 0))]) (by simp [results, Tryd.results10, go_sem, x0, x1]) rfl ⟨by rw [hq.out], ((below_step hB' hb6).setCell (Nat.le_refl _) _).setCell (Nat.le_refl _) _⟩

end Go.Proofs.YtmppgcijbeipfaaDoor
