import Derived.Test.YtnmcniibcjjflaaDoorTurnTally
import Derived.Deep.RegionHeld3
namespace Go.Proofs.YtnmcniibcjjflaaDoor
open Go.RowKit

set_option maxRecDepth 10000 in
set_option maxHeartbeats 600000 in
theorem result_fault (T : Nat) (kind S f0 f1 : Int) (W : World) (hT : Tal W T kind S f0 f1) (hf : (f0 != 0) = true) :
    Calls Tryd.prog 20 #[.pointer (some ⟨T, 0, none⟩)] W fun e W' => e = .returned (.agg #[.int .i64 f0, .int .i64 f1]) ∧ Below W.heap.size W W' := by
  have hB := (Below.refl W.heap.size W).alloc (Nat.le_refl _) (.cells #[.int .i64 0, .int .i64 0] 24)
  obtain ⟨p0, p1, p2, p3, p4, o1, o2, o3, o4⟩ := hT.later hB
  go_enter Tryd.func20, Tryd.ntmps20
  go_wp2
  exact bodyPost_ret (v := .agg #[.int .i64 f0, .int .i64 f1]) (by simp [results, Tryd.results20, go_sem]) rfl ⟨rfl, (Below.refl _ _).alloc (Nat.le_refl _) _⟩

theorem keep_st {X : World} {T B : Nat} (hn : B ≠ T) {u v : Value} (h : X.cell? ⟨T, 0, none⟩ = some u ∧ X.cell? ⟨T, 1, none⟩ = some v) (a b : Value) :
    ((X.setCell ⟨B, 0, none⟩ a).setCell ⟨B, 1, none⟩ b).cell? ⟨T, 0, none⟩ = some u ∧ ((X.setCell ⟨B, 0, none⟩ a).setCell ⟨B, 1, none⟩ b).cell? ⟨T, 1, none⟩ = some v := by
  have o : ∀ (Y : World) (i j : Nat) (c : Value), (Y.setCell ⟨B, i, none⟩ c).cell? ⟨T, j, none⟩ = Y.cell? ⟨T, j, none⟩ := fun Y i j c => World.cell?_setCell_other _ _ _ _ (fun e => hn (congrArg Addr.block e))
  rw [o, o, o, o]
  exact h

theorem wrapLow {S : Int} (hS : -4000000000000000000 ≤ S ∧ S ≤ 4000000000000000000) : IntKind.i64.wrap (lowOf S) = S := by rw [IntKind.wrap_i64]; unfold lowOf; omega
theorem wrapHigh {S : Int} (hS : -4000000000000000000 ≤ S ∧ S ≤ 4000000000000000000) : IntKind.u64.wrap (S / 9223372036854775808) = highOf S := by
  rw [wrapU]
  unfold highOf
  split <;> omega

set_option maxRecDepth 10000 in
set_option maxHeartbeats 600000 in
theorem result_sum (T : Nat) (kind S f1 : Int) (W : World) (hK : Kinds W) (hT : Tal W T kind S 0 f1) (hS : -4000000000000000000 ≤ S ∧ S ≤ 4000000000000000000) (r : Int × Int) (hr : Hid (r = M.fit true kind S)) :
    Calls Tryd.prog 20 #[.pointer (some ⟨T, 0, none⟩)] W fun e W' => e = .returned (.agg #[.int .i64 r.1, .int .i64 r.2]) ∧ Below W.heap.size W W' := by
  have hB := (Below.refl W.heap.size W).alloc (Nat.le_refl _) (.cells #[.int .i64 0, .int .i64 0] 24)
  have hR := Box.new W (.int .i64 0) (.int .i64 0) 24
  have hK1 := hK.later hB
  obtain ⟨p0, p1, p2, p3, p4, o1, o2, o3, o4⟩ := hT.later hB
  have e1 := wrapLow hS
  have e2 := wrapHigh hS
  have hl : 0 ≤ lowOf S ∧ lowOf S < 18446744073709551616 := by unfold lowOf; omega
  generalize lowOf S = L at *
  generalize highOf S = H at *
  go_enter Tryd.func20, Tryd.ntmps20
  go_wp2
  have hbd := (Below.refl (W.alloc (.cells #[.int .i64 0, .int .i64 0] 24)).heap.size (W.alloc (.cells #[.int .i64 0, .int .i64 0] 24))).drew
  have hTl := World.block_lt_of_cell? _ _ hT.1
  have hTn : W.heap.size ≠ T := Nat.ne_of_gt hTl
  have d0 := (hbd.cell (p := ⟨T, 0, none⟩) (World.block_lt_of_cell? _ _ p0)).trans p0
  have d1 := (hbd.cell (p := ⟨T, 1, none⟩) (World.block_lt_of_cell? _ _ p1)).trans p1
  have hPd := And.intro d0 d1
  have hTd : T < (W.alloc (.cells #[.int .i64 0, .int .i64 0] 24)).drew.heap.size := World.block_lt_of_cell? _ _ d0
  have hRd := hR.later hbd
  have hKd := hK1.later hbd
  have hBd := below_step hB hbd
  clear p0 p1 p2 p3 p4 o1 o2 o3 o4 hR hK1 hB d0 d1 hbd
  go_region_held3 (fun X => X.cell? ⟨T, 0, none⟩ = some (.int .i64 kind) ∧ X.cell? ⟨T, 1, none⟩ = some (.int .u64 H)) (first | (with_reducible assumption) | exact hkeep _ _)
    (first | (go_at_call 53; refine (fitting_any _ _ true _ hKd).mono ?_; rintro e w1 ⟨rfl, hb1⟩; have hR1 := hRd.later hb1; have hB1 := below_step hBd hb1; have r0 := hR1.1; have r1 := hR1.2.1; have q0 := hR1.2.2.1; have q1 := hR1.2.2.2; have hPw := (show w1.cell? ⟨T, 0, none⟩ = some (.int .i64 kind) ∧ w1.cell? ⟨T, 1, none⟩ = some (.int .u64 H) from ⟨(hb1.cell (p := ⟨T, 0, none⟩) hTd).trans hPd.1, (hb1.cell (p := ⟨T, 1, none⟩) hTd).trans hPd.2⟩); have hkeep := fun a b => keep_st hTn hPw a b))
  go_wp2
  exact bodyPost_ret (v := .agg #[.int .i64 r.1, .int .i64 r.2]) (by rw [hr.out]; simp [results, Tryd.results20, go_sem, r0, r1]) rfl ⟨rfl, (hB1.setCell (by simp) _).setCell (by simp) _⟩

end Go.Proofs.YtnmcniibcjjflaaDoor
