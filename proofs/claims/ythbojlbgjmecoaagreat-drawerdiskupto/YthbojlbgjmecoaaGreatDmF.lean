import Derived.Test.YthbojlbgjmecoaaGreatDmE
/- Crash, Arm, Fail. -/
namespace Go.Proofs.YthbojlbgjmecoaaGreat.DJ
open Go.RowKit

theorem Rigs.falls (d : Dk) : Rigs (DJ.falls d) := ⟨fun u h => (by cases h), Nat.zero_le _, Nat.zero_le _, fun _ => ⟨rfl, rfl, rfl⟩⟩

set_option maxRecDepth 4000 in
set_option maxHeartbeats 1000000 in
theorem crash_any {lo db : Nat} {S : Nat → Prop} {d : Dk} (w : World) (h : DiskAt w lo S db d) :
    Calls Tryz.prog 29 #[.pointer (some ⟨db, 0, none⟩)] w fun e w' => e = .returned (.tuple #[]) ∧ DiskAt w' lo S db (falls d) ∧ GrS (fun k => k = db) w w' := by
  obtain ⟨mb, D, fb, vv, h⟩ := h
  obtain ⟨c0, c1, c2, c3, c4, c5⟩ := h.cells
  have hrow := h.row
  unfold dkRow at hrow
  have f1 := frozen_of_row w db 1 _ _ hrow
  have f2 := frozen_of_row w db 2 _ _ hrow
  have f3 := frozen_of_row w db 3 _ _ hrow
  have f4 := frozen_of_row w db 4 _ _ hrow
  have f5 := frozen_of_row w db 5 _ _ hrow
  have hg := ((((grS_set w db 5 (.bool true)).trans (grS_set _ db 1 (.bool false))).trans (grS_set _ db 2 (.int .i64 0))).trans (grS_set _ db 3 (.int .i64 0))).trans (grS_set _ db 4 (.int .i64 0))
  have hD : Hid (DiskAt (((((w.setCell ⟨db, 5, none⟩ (.bool true)).setCell ⟨db, 1, none⟩ (.bool false)).setCell ⟨db, 2, none⟩ (.int .i64 0)).setCell ⟨db, 3, none⟩ (.int .i64 0)).setCell ⟨db, 4, none⟩ (.int .i64 0)) lo S db (falls d)) := ⟨mb, D, fb, vv, h.flag hg rfl (Rigs.falls d) (by
    rw [heap_setCell_same _ _ _ _ _ _ (heap_setCell_same _ _ _ _ _ _ (heap_setCell_same _ _ _ _ _ _ (heap_setCell_same _ _ _ _ _ _ (heap_setCell_same _ _ _ _ _ _ hrow))))]
    unfold dkRow falls
    simp)⟩
  clear h hrow
  go_enter Tryz.func29, Tryz.ntmps29
  go_wp2
  go_end0
  exact ⟨rfl, hD.out, hg⟩

theorem Rigs.arm {d : Dk} (h : Rigs d) {u : Int} (hu : u ≤ 9223372036854775807) : Rigs (DJ.arm d u) := by
  unfold DJ.arm
  split
  · exact h
  · rename_i hd
    refine ⟨fun v hv => ?_, h.af, h.ca, fun e => absurd e hd⟩
    simp only at hv
    split at hv
    · cases hv
    · obtain rfl := Option.some.inj hv
      omega

set_option maxRecDepth 4000 in
set_option maxHeartbeats 1000000 in
theorem arm_any {lo db : Nat} {S : Nat → Prop} {d : Dk} {u : Int} (hu : u ≤ 9223372036854775807) (hu0 : -9223372036854775808 ≤ u) (w : World) (h : DiskAt w lo S db d) :
    Calls Tryz.prog 25 #[.pointer (some ⟨db, 0, none⟩), .int .i64 u] w fun e w' => e = .returned (.tuple #[]) ∧ DiskAt w' lo S db (arm d u) ∧ GrS (fun k => k = db) w w' := by
  obtain ⟨mb, D, fb, vv, h⟩ := h
  obtain ⟨c0, c1, c2, c3, c4, c5⟩ := h.cells
  have hrow := h.row
  unfold dkRow at hrow
  have f1 := frozen_of_row w db 1 _ _ hrow
  have f2 := frozen_of_row w db 2 _ _ hrow
  cases hd : d.down with
  | true =>
    rw [hd] at c5
    have hD : Hid (DiskAt w lo S db (arm d u)) := ⟨mb, D, fb, vv, by unfold arm; rw [if_pos hd]; exact h⟩
    clear h hrow
    go_enter Tryz.func25, Tryz.ntmps25
    go_wp2
    go_end0
    exact ⟨rfl, hD.out, .refl _ _⟩
  | false =>
    rw [hd] at c5
    have ha : arm d u = { d with units := if u < 0 then none else some u.toNat } := by unfold arm; rw [if_neg (by rw [hd]; decide)]
    have hg := (grS_set w db 1 (.bool (decide (0 ≤ u)))).trans (grS_set _ db 2 (.int .i64 (max u 0)))
    have hD : Hid (DiskAt ((w.setCell ⟨db, 1, none⟩ (.bool (decide (0 ≤ u)))).setCell ⟨db, 2, none⟩ (.int .i64 (max u 0))) lo S db (arm d u)) := ⟨mb, D, fb, vv, h.flag hg (arm_fs d u) (h.rigs.arm hu) (by
      rw [heap_setCell_same _ _ _ _ _ _ (heap_setCell_same _ _ _ _ _ _ hrow), ha]
      unfold dkRow
      by_cases h0 : u < 0
      · simp [h0, hd]; omega
      · simp [h0, hd]; omega)⟩
    clear h hrow ha
    go_enter Tryz.func25, Tryz.ntmps25
    go_wp2
    go_end0
    exact ⟨rfl, hD.out, hg⟩

theorem Rigs.fail {d : Dk} (h : Rigs d) {a c : Int} (ha : a ≤ 9223372036854775807) (hc : c ≤ 9223372036854775807) : Rigs (DJ.fail d a c) := by
  unfold DJ.fail
  split
  · exact h
  · rename_i hd
    split
    · exact ⟨h.un, by show a.toNat ≤ _; omega, by show c.toNat ≤ _; omega, fun e => absurd e hd⟩
    · exact ⟨h.un, Nat.zero_le _, Nat.zero_le _, fun e => absurd e hd⟩

set_option maxRecDepth 4000 in
set_option maxHeartbeats 1000000 in
theorem fail_any {lo db : Nat} {S : Nat → Prop} {d : Dk} {a c : Int} (ha : a ≤ 9223372036854775807) (ha0 : -9223372036854775808 ≤ a) (hc : c ≤ 9223372036854775807) (hc0 : -9223372036854775808 ≤ c) (w : World) (h : DiskAt w lo S db d) :
    Calls Tryz.prog 27 #[.pointer (some ⟨db, 0, none⟩), .int .i64 a, .int .i64 c] w fun e w' => e = .returned (.tuple #[]) ∧ DiskAt w' lo S db (fail d a c) ∧ GrS (fun k => k = db) w w' := by
  obtain ⟨mb, D, fb, vv, h⟩ := h
  obtain ⟨c0, c1, c2, c3, c4, c5⟩ := h.cells
  have hrow := h.row
  unfold dkRow at hrow
  have f3 := frozen_of_row w db 3 _ _ hrow
  have f4 := frozen_of_row w db 4 _ _ hrow
  cases hd : d.down with
  | true =>
    rw [hd] at c5
    have hD : Hid (DiskAt w lo S db (fail d a c)) := ⟨mb, D, fb, vv, by unfold fail; rw [if_pos hd]; exact h⟩
    clear h hrow
    go_enter Tryz.func27, Tryz.ntmps27
    go_wp2
    go_end0
    exact ⟨rfl, hD.out, .refl _ _⟩
  | false =>
    rw [hd] at c5
    have key : ∀ x y : Int, (x = if 0 ≤ a ∧ 0 < c then a else 0) → (y = if 0 ≤ a ∧ 0 < c then c else 0) → DiskAt ((w.setCell ⟨db, 3, none⟩ (.int .i64 x)).setCell ⟨db, 4, none⟩ (.int .i64 y)) lo S db (fail d a c) := fun x y hx hy =>
      ⟨mb, D, fb, vv, h.flag ((grS_set w db 3 _).trans (grS_set _ db 4 _)) (fail_fs d a c) (h.rigs.fail ha hc) (by
        rw [heap_setCell_same _ _ _ _ _ _ (heap_setCell_same _ _ _ _ _ _ hrow)]
        unfold dkRow fail
        by_cases h0 : 0 ≤ a ∧ 0 < c
        · simp [h0, hd] at hx hy ⊢
          omega
        · simp only [if_neg h0] at hx hy ⊢
          simp [hd, hx, hy])⟩
    replace key := Hid.mk key
    clear h hrow
    by_cases h0 : a < 0
    · go_enter Tryz.func27, Tryz.ntmps27
      go_wp2
      go_end0
      exact ⟨rfl, key.out _ _ (by rw [if_neg (by omega)]) (by rw [if_neg (by omega)]), (grS_set w db 3 _).trans (grS_set _ db 4 _)⟩
    · by_cases h1 : c ≤ 0
      · go_enter Tryz.func27, Tryz.ntmps27
        go_wp2
        go_end0
        exact ⟨rfl, key.out _ _ (by rw [if_neg (by omega)]) (by rw [if_neg (by omega)]), (grS_set w db 3 _).trans (grS_set _ db 4 _)⟩
      · go_enter Tryz.func27, Tryz.ntmps27
        go_wp2
        go_end0
        exact ⟨rfl, key.out _ _ (by rw [if_pos (by omega)]) (by rw [if_pos (by omega)]), (grS_set w db 3 _).trans (grS_set _ db 4 _)⟩
end Go.Proofs.YthbojlbgjmecoaaGreat.DJ
