import Derived.Test.YtkojgbfocdefnaaJoin51
import Derived.Test.YtkojgbfocdefnaaRfHeld
import Derived.Test.YtkojgbfocdefnaaRfStamp
import Derived.Test.YtkojgbfocdefnaaTurnRfDiff
import Derived.Test.YtkojgbfocdefnaaJoin49
import Derived.Test.YtkojgbfocdefnaaJoin48
import Derived.Test.YtkojgbfocdefnaaJoin43
import Derived.Test.YtkojgbfocdefnaaHKnown
import Derived.Deep.DeepCutAuto
namespace Go.Proofs.Ytkojgbfocdefnaa
open Go.RowKit

theorem RhAt.read {w : World} {rb : Nat} {Ls : List Es} {p : Nat} (h : RhAt w rb Ls p) : ∃ g cap mb, w.cell? ⟨rb, 0, none⟩ = some (.slice (some ⟨g, 0, none⟩) Ls.length cap) ∧ w.cell? ⟨rb, 1, none⟩ = some (.int .i64 (p : Int)) ∧ w.cell? ⟨g, p, none⟩ = some (.pointer (some ⟨mb, 0, none⟩)) ∧ Hid (RfAt w mb (Ls.getD p []) ∧ (Ls.getD p []).length ≤ 200) := by
  obtain ⟨hp, hl, g, cap, vs, hH, hcap, hne, hM⟩ := h
  have cp := (hM.2 p hp).1
  rw [Nat.zero_add] at cp
  exact ⟨g, cap, vs p, cell_of_row _ _ 0 _ _ _ hH, cell_of_row _ _ 1 _ _ _ hH, cp, by rw [getD_at hp]; exact (hM.2 p hp).2⟩

set_option maxRecDepth 4000 in
set_option maxHeartbeats 1000000 in
theorem rnew_any (v : Value) (L : Es) (hL : L.length ≤ 200) (w : World) (hm : Whl w v L) : Calls Try.prog 14 #[v] w fun e w' => ∃ hb, e = .returned (.pointer (some ⟨hb, 0, none⟩)) ∧ w.heap.size ≤ hb ∧ RhAt w' hb [L] 0 ∧ Below w.heap.size w w' := by
  have hwh := whole_any v L w hm
  go_enter Try.func14, Try.ntmps14
  go_wp2_with (go_at_call 42; refine hwh.mono ?_; rintro e w4 ⟨mb, rfl, hm4, hb4⟩; have hE := rnew_end w4 mb L hL hm4)
  go_ret
  exact ⟨_, rfl, by have := hb4.size; omega, hE.1, below_step hb4 hE.2⟩

set_option maxRecDepth 4000 in
set_option maxHeartbeats 1000000 in
theorem rundo_none (hb : Nat) (Ls : List Es) (w : World) (h : RhAt w hb Ls 0) : Calls Try.prog 28 #[.pointer (some ⟨hb, 0, none⟩)] w fun e w' => e = .returned (.tuple #[.pointer none, .int .i64 111]) ∧ Below w.heap.size w w' := by
  obtain ⟨g, cap, c0, c1, f0, f1⟩ := h.cells
  rw [show (((0 : Nat)) : Int) = 0 from rfl] at c1
  go_enter Try.func28, Try.ntmps28
  go_wp2
  go_ret2
  exact ⟨rfl, Below.refl _ _⟩

set_option maxRecDepth 4000 in
set_option maxHeartbeats 1000000 in
theorem rundo_some (hb : Nat) (Ls : List Es) (p : Nat) (w : World) (h : RhAt w hb Ls (p + 1)) : Calls Try.prog 28 #[.pointer (some ⟨hb, 0, none⟩)] w fun e w' => ∃ mb, e = .returned (.tuple #[.pointer (some ⟨mb, 0, none⟩), .int .i64 0]) ∧ RfAt w' mb (Ls.getD p []) ∧ (Ls.getD p []).length ≤ 200 ∧ RhAt w' hb Ls p ∧ w.grownBy w' (some hb) := by
  have hl := h.1
  have hl2 := h.2.1
  obtain ⟨g, cap, c0, c1, f0, f1⟩ := h.cells
  rw [show (((p + 1 : Nat)) : Int) = (p : Int) + 1 from by omega] at c1
  obtain ⟨h2, hg2⟩ := rhist_move h p (by omega)
  have hz : ((p : Int) + 1 == 0) = false := by simp; omega
  have hwr : IntKind.i64.wrap ((p : Int) + 1 - 1) = (p : Int) := by rw [IntKind.wrap_i64]; omega
  have hwr2 : IntKind.i64.wrap (p : Int) = (p : Int) := by rw [IntKind.wrap_i64]; omega
  have hwr3 : wrap64 ((p : Int) + 1 - 1) = (p : Int) := by unfold wrap64; omega
  have hwr4 : wrap64 (p : Int) = (p : Int) := by unfold wrap64; omega
  have ha : (p : Int) + 1 - 1 = (p : Int) := by omega
  go_enter Try.func28, Try.ntmps28
  go_wp2_with fail
  clear c0 c1 f0 f1
  generalize w.setCell ⟨hb, 1, none⟩ (.int .i64 (p : Int)) = X at *
  obtain ⟨g', cap', mb, d0, d1, dp, hQ⟩ := h2.read
  have hp0 : (0 : Int) ≤ (p : Int) := by omega
  have hp1 : (p : Int) < (Ls.length : Int) := by omega
  go_quiet (fail)
  go_wp2
  go_ret2
  have hb' := below_drewN (Below.refl X.heap.size X) nq
  exact ⟨mb, rfl, hQ.out.1.later hb', hQ.out.2, h2.later hb', grown_laterB hg2 hb'⟩

set_option maxRecDepth 4000 in
set_option maxHeartbeats 1000000 in
theorem rredo_none (hb : Nat) (Ls : List Es) (p : Nat) (hp : p + 1 = Ls.length) (w : World) (h : RhAt w hb Ls p) : Calls Try.prog 31 #[.pointer (some ⟨hb, 0, none⟩)] w fun e w' => e = .returned (.tuple #[.pointer none, .int .i64 112]) ∧ Below w.heap.size w w' := by
  have hl2 := h.2.1
  obtain ⟨g, cap, c0, c1, f0, f1⟩ := h.cells
  rw [← hp] at c0
  have hwr : IntKind.i64.wrap ((p : Int) + 1) = (p : Int) + 1 := by rw [IntKind.wrap_i64]; omega
  have hwr3 : wrap64 ((p : Int) + 1) = (p : Int) + 1 := by unfold wrap64; omega
  have hcs : (((p + 1 : Nat)) : Int) = (p : Int) + 1 := by omega
  go_enter Try.func31, Try.ntmps31
  go_wp2
  try (go_quiet (fail))
  try go_wp2
  go_ret2
  exact ⟨rfl, by first | exact Below.refl _ _ | exact below_drewN (Below.refl w.heap.size w) nq⟩

set_option maxRecDepth 4000 in
set_option maxHeartbeats 1000000 in
theorem rredo_some (hb : Nat) (Ls : List Es) (p : Nat) (hp : p + 1 < Ls.length) (w : World) (h : RhAt w hb Ls p) : Calls Try.prog 31 #[.pointer (some ⟨hb, 0, none⟩)] w fun e w' => ∃ mb, e = .returned (.tuple #[.pointer (some ⟨mb, 0, none⟩), .int .i64 0]) ∧ RfAt w' mb (Ls.getD (p + 1) []) ∧ (Ls.getD (p + 1) []).length ≤ 200 ∧ RhAt w' hb Ls (p + 1) ∧ w.grownBy w' (some hb) := by
  have hl2 := h.2.1
  have hwr : IntKind.i64.wrap ((p : Int) + 1) = (p : Int) + 1 := by rw [IntKind.wrap_i64]; omega
  have hwr3 : wrap64 ((p : Int) + 1) = (p : Int) + 1 := by unfold wrap64; omega
  have hne : ((p : Int) + 1 == (Ls.length : Int)) = false := by simp; omega
  have hne2 : ¬ (p : Int) + 1 = (Ls.length : Int) := by omega
  have hp0 : (0 : Int) ≤ (p : Int) + 1 := by omega
  have hp1 : (p : Int) + 1 < (Ls.length : Int) := by omega
  have htn : ((p : Int) + 1).toNat = p + 1 := by omega
  have hmv : ∀ X, RhAt X hb Ls p → RhAt (X.setCell ⟨hb, 1, none⟩ (.int .i64 ((p : Int) + 1))) hb Ls (p + 1) ∧ X.grownBy (X.setCell ⟨hb, 1, none⟩ (.int .i64 ((p : Int) + 1))) (some hb) := fun X hX => by
    have := rhist_move hX (p + 1) hp
    rw [show (((p + 1 : Nat)) : Int) = (p : Int) + 1 from by omega] at this
    exact this
  have hmH : Hid (∀ X, RhAt X hb Ls p → RhAt (X.setCell ⟨hb, 1, none⟩ (.int .i64 ((p : Int) + 1))) hb Ls (p + 1) ∧ X.grownBy (X.setCell ⟨hb, 1, none⟩ (.int .i64 ((p : Int) + 1))) (some hb)) := hmv
  clear hmv
  obtain ⟨g, cap, c0, c1, f0, f1⟩ := h.cells
  go_enter Try.func31, Try.ntmps31
  go_wp2_with fail
  go_quiet (fail)
  have hb1 := below_drewN (Below.refl w.heap.size w) nq
  have h1 := h.later hb1
  clear c0 c1 f0 f1 h
  generalize w.drewN nq = W1 at *
  obtain ⟨g1, cap1, c0, c1, f0, f1⟩ := h1.cells
  go_wp2_with fail
  obtain ⟨h2, hg2⟩ := hmH.out _ h1
  clear c0 c1 f0 f1 h1 hmH
  generalize W1.setCell ⟨hb, 1, none⟩ (.int .i64 ((p : Int) + 1)) = X at *
  obtain ⟨g', cap', mb, d0, d1, dp, hQ⟩ := h2.read
  rw [show (((p + 1 : Nat)) : Int) = (p : Int) + 1 from by omega] at d1
  go_quiet (fail)
  go_wp2
  go_ret2
  have hb' := below_drewN (Below.refl X.heap.size X) nq
  exact ⟨mb, rfl, hQ.out.1.later hb', hQ.out.2, h2.later hb', grown_laterB ((grown_of_below hb1).trans hg2) hb'⟩

theorem RMaps.item {W : World} {g : Nat} {vs : Nat → Nat} {Ls : List Es} (h : RMaps W g 0 vs Ls) {j : Nat} (hj : j < Ls.length) : W.cell? ⟨g, j, none⟩ = some (.pointer (some ⟨vs j, 0, none⟩)) ∧ Hid (RfAt W (vs j) Ls[j] ∧ Ls[j].length ≤ 200) := by
  have cp := (h.2 j hj).1
  rw [Nat.zero_add] at cp
  exact ⟨cp, (h.2 j hj).2⟩

set_option maxRecDepth 4000 in
set_option maxHeartbeats 1000000 in
theorem rversion_at (hb : Nat) (Ls : List Es) (p j : Nat) (hj : j < Ls.length) (n : Int) (hn : n = (j : Int) - (p : Int)) (g cap : Nat) (vs : Nat → Nat) (w : World) (hH : RB w hb (some ⟨g, 0, none⟩) Ls.length cap (p : Int)) (hM : RMaps w g 0 vs Ls) (hp : p < Ls.length) (hl : Ls.length ≤ 33) : Calls Try.prog 38 #[.pointer (some ⟨hb, 0, none⟩), .int .i64 n] w fun e w' => e = .returned (.tuple #[.pointer (some ⟨vs j, 0, none⟩), .bool true]) ∧ ∃ m, w' = w.drewN m := by
  have c0 : w.cell? ⟨hb, 0, none⟩ = some (.slice (some ⟨g, 0, none⟩) Ls.length cap) := cell_of_row _ _ 0 _ _ _ hH
  have c1 : w.cell? ⟨hb, 1, none⟩ = some (.int .i64 (p : Int)) := cell_of_row _ _ 1 _ _ _ hH
  obtain ⟨cj, hQ⟩ := hM.item hj
  have hbl := hH.lt
  have hgl := hM.1
  have q1 : IntKind.i64.wrap (-(p : Int)) = -(p : Int) := by rw [IntKind.wrap_i64]; omega
  have q2 : IntKind.i64.wrap ((Ls.length : Int) - 1) = (Ls.length : Int) - 1 := by rw [IntKind.wrap_i64]; omega
  have q3 : IntKind.i64.wrap ((Ls.length : Int) - 1 - (p : Int)) = (Ls.length : Int) - 1 - (p : Int) := by rw [IntKind.wrap_i64]; omega
  have q4 : IntKind.i64.wrap ((p : Int) + n) = (j : Int) := by rw [IntKind.wrap_i64]; omega
  have q5 : wrap64 (-(p : Int)) = -(p : Int) := by unfold wrap64; omega
  have q6 : wrap64 ((Ls.length : Int) - 1) = (Ls.length : Int) - 1 := by unfold wrap64; omega
  have q7 : wrap64 ((Ls.length : Int) - 1 - (p : Int)) = (Ls.length : Int) - 1 - (p : Int) := by unfold wrap64; omega
  have q8 : wrap64 ((p : Int) + n) = (j : Int) := by unfold wrap64; omega
  have q9 : ¬ n < -(p : Int) := by omega
  have q10 : ¬ (Ls.length : Int) - 1 - (p : Int) < n := by omega
  have q11 : (0 : Int) ≤ (j : Int) := by omega
  have q12 : (j : Int) < (Ls.length : Int) := by omega
  have q9' : ¬ n < IntKind.i64.wrap (-(p : Int)) := by rw [q1]; exact q9
  have q10' : ¬ IntKind.i64.wrap (IntKind.i64.wrap ((Ls.length : Int) - 1) - (p : Int)) < n := by rw [q2, q3]; exact q10
  generalize Ls[j] = L at *
  clear hM hH hn hp hl hj q1 q2 q3 q5 q6 q7 q9 q10
  go_enter Try.func38, Try.ntmps38
  go_wp2_with fail
  go_quiet (fail)
  go_wp2_with fail
  go_quiet (fail)
  go_wp2
  go_ret2
  exact ⟨rfl, _, World.drewN_drewN _ _ _⟩

theorem rversion_some (hb : Nat) (Ls : List Es) (p j : Nat) (hj : j < Ls.length) (n : Int) (hn : n = (j : Int) - (p : Int)) (w : World) (h : RhAt w hb Ls p) : Calls Try.prog 38 #[.pointer (some ⟨hb, 0, none⟩), .int .i64 n] w fun e w' => ∃ mb, e = .returned (.tuple #[.pointer (some ⟨mb, 0, none⟩), .bool true]) ∧ RfAt w' mb Ls[j] ∧ Ls[j].length ≤ 200 ∧ ∃ m, w' = w.drewN m := by
  obtain ⟨hp, hl, g, cap, vs, hH, hcap, hne, hM⟩ := h
  refine (rversion_at hb Ls p j hj n hn g cap vs w hH hM hp hl).mono ?_
  rintro e w' ⟨rfl, m, rfl⟩
  exact ⟨vs j, rfl, (hM.2 j hj).2.1.later (below_drewN (Below.refl _ _) m), (hM.2 j hj).2.2, m, rfl⟩

set_option maxRecDepth 4000 in
set_option maxHeartbeats 1000000 in
theorem rversion_none (hb : Nat) (Ls : List Es) (p : Nat) (n : Int) (hn : n < -(p : Int) ∨ (Ls.length : Int) - 1 - p < n) (w : World) (h : RhAt w hb Ls p) : Calls Try.prog 38 #[.pointer (some ⟨hb, 0, none⟩), .int .i64 n] w fun e w' => e = .returned (.tuple #[.pointer none, .bool false]) ∧ ∃ m, w' = w.drewN m := by
  obtain ⟨hp, hl, g, cap, vs, hH, hcap, hne, hM⟩ := h
  have c0 : w.cell? ⟨hb, 0, none⟩ = some (.slice (some ⟨g, 0, none⟩) Ls.length cap) := cell_of_row _ _ 0 _ _ _ hH
  have c1 : w.cell? ⟨hb, 1, none⟩ = some (.int .i64 (p : Int)) := cell_of_row _ _ 1 _ _ _ hH
  have q1 : IntKind.i64.wrap (-(p : Int)) = -(p : Int) := by rw [IntKind.wrap_i64]; omega
  have q2 : IntKind.i64.wrap ((Ls.length : Int) - 1) = (Ls.length : Int) - 1 := by rw [IntKind.wrap_i64]; omega
  have q3 : IntKind.i64.wrap ((Ls.length : Int) - 1 - (p : Int)) = (Ls.length : Int) - 1 - (p : Int) := by rw [IntKind.wrap_i64]; omega
  by_cases h0 : n < -(p : Int)
  · have q9' : n < IntKind.i64.wrap (-(p : Int)) := by rw [q1]; exact h0
    obtain ⟨m, hm⟩ : ∃ m : Int, m = -(p : Int) := ⟨_, rfl⟩
    have q9 : IntKind.i64.wrap (-(p : Int)) = m := q1.trans hm.symm
    rw [← hm] at h0
    clear hM hH hn hp hl hne q1 q2 q3 q9' hm
    have hSd : w.drew.cell? ⟨hb, 0, none⟩ = some (.slice (some ⟨g, 0, none⟩) Ls.length cap) ∧ w.drew.cell? ⟨hb, 1, none⟩ = some (.int .i64 (p : Int)) := ⟨c0, c1⟩
    go_enter Try.func38, Try.ntmps38
    go_wp2_with fail
    refine wp_region_held_drew (S := fun Y => Y.cell? ⟨hb, 0, none⟩ = some (.slice (some ⟨g, 0, none⟩) Ls.length cap) ∧ Y.cell? ⟨hb, 1, none⟩ = some (.int .i64 (p : Int))) (by kernel_rfl) hSd (fun hSd2 => ?_)
    clear hSd2
    refine tkH (i := 0) (d := some 6) (v := ?_) rfl rfl (by kernel_rfl) (by kernel_rfl) (by kernel_rfl) (fun _ _ _ h => h) (by rfl) ?_ (by with_reducible assumption) ?_
    rotate_left
    · (intro w hSw; (try dsimp only at hSw); go_simp; (try with_reducible rfl))
    simp only [Act.put, List.setIfInBounds_toArray, List.set_cons_zero, List.set_cons_succ]
    refine tkH (i := 1) (d := some 7) (v := ?_) rfl rfl (by kernel_rfl) (by kernel_rfl) (by kernel_rfl) (fun _ _ _ h => h) (by rfl) ?_ (by with_reducible assumption) ?_
    rotate_left
    · (intro w hSw; (try dsimp only at hSw); go_simp; (try with_reducible rfl))
    simp only [Act.put, List.setIfInBounds_toArray, List.set_cons_zero, List.set_cons_succ]
    refine tkH (i := 2) (d := some 8) (v := ?_) rfl rfl (by kernel_rfl) (by kernel_rfl) (by kernel_rfl) (fun _ _ _ h => h) (by rfl) ?_ (by with_reducible assumption) ?_
    rotate_left
    · (intro w hSw; (try dsimp only at hSw); go_simp; (try with_reducible rfl))
    simp only [Act.put, List.setIfInBounds_toArray, List.set_cons_zero, List.set_cons_succ]
    refine tkH (i := 3) (d := some 9) (v := ?_) rfl rfl (by kernel_rfl) (by kernel_rfl) (by kernel_rfl) (fun _ _ _ h => h) (by rfl) ?_ (by with_reducible assumption) ?_
    rotate_left
    · (intro w hSw; (try dsimp only at hSw); go_simp; (try with_reducible rfl))
    simp only [Act.put, List.setIfInBounds_toArray, List.set_cons_zero, List.set_cons_succ]
    refine tkH (i := 4) (d := some 10) (v := ?_) rfl rfl (by kernel_rfl) (by kernel_rfl) (by kernel_rfl) (fun _ _ _ h => h) (by rfl) ?_ (by with_reducible assumption) ?_
    rotate_left
    · (intro w hSw; (try dsimp only at hSw); go_simp; (try with_reducible rfl))
    simp only [Act.put, List.setIfInBounds_toArray, List.set_cons_zero, List.set_cons_succ]
    refine tkH (i := 5) (d := some 11) (v := ?_) rfl rfl (by kernel_rfl) (by kernel_rfl) (by kernel_rfl) (fun _ _ _ h => h) (by rfl) ?_ (by with_reducible assumption) ?_
    rotate_left
    · (intro w hSw; (try dsimp only at hSw); go_simp; (try with_reducible rfl))
    simp only [Act.put, List.setIfInBounds_toArray, List.set_cons_zero, List.set_cons_succ]
    refine tkH (i := 6) (d := some 12) (v := ?_) rfl rfl (by kernel_rfl) (by kernel_rfl) (by kernel_rfl) (fun _ _ _ h => h) (by rfl) ?_ (by with_reducible assumption) ?_
    rotate_left
    · (intro w hSw; (try dsimp only at hSw); go_simp; (try with_reducible rfl))
    simp only [Act.put, List.setIfInBounds_toArray, List.set_cons_zero, List.set_cons_succ]
    refine tkH (i := 7) (d := some 13) (v := ?_) rfl rfl (by kernel_rfl) (by kernel_rfl) (by kernel_rfl) (fun _ _ _ h => h) (by rfl) ?_ (by with_reducible assumption) ?_
    rotate_left
    · (intro w hSw; (try dsimp only at hSw); go_simp; (try with_reducible rfl))
    simp only [Act.put, List.setIfInBounds_toArray, List.set_cons_zero, List.set_cons_succ]
    refine skH (i := 8) (d := some 14) rfl rfl (by kernel_rfl) (by kernel_rfl) (by kernel_rfl) (fun _ _ _ h => h) (by rfl) (by with_reducible assumption) ?_
    simp only [Act.put, List.setIfInBounds_toArray, List.set_cons_zero, List.set_cons_succ]
    refine skH (i := 9) (d := some 15) rfl rfl (by kernel_rfl) (by kernel_rfl) (by kernel_rfl) (fun _ _ _ h => h) (by rfl) (by with_reducible assumption) ?_
    simp only [Act.put, List.setIfInBounds_toArray, List.set_cons_zero, List.set_cons_succ]
    refine skH (i := 10) (d := some 16) rfl rfl (by kernel_rfl) (by kernel_rfl) (by kernel_rfl) (fun _ _ _ h => h) (by rfl) (by with_reducible assumption) ?_
    simp only [Act.put, List.setIfInBounds_toArray, List.set_cons_zero, List.set_cons_succ]
    refine skH (i := 11) (d := some 17) rfl rfl (by kernel_rfl) (by kernel_rfl) (by kernel_rfl) (fun _ _ _ h => h) (by rfl) (by with_reducible assumption) ?_
    simp only [Act.put, List.setIfInBounds_toArray, List.set_cons_zero, List.set_cons_succ]
    refine skH (i := 12) (d := some 18) rfl rfl (by kernel_rfl) (by kernel_rfl) (by kernel_rfl) (fun _ _ _ h => h) (by rfl) (by with_reducible assumption) ?_
    simp only [Act.put, List.setIfInBounds_toArray, List.set_cons_zero, List.set_cons_succ]
    refine skH (i := 13) (d := some 19) rfl rfl (by kernel_rfl) (by kernel_rfl) (by kernel_rfl) (fun _ _ _ h => h) (by rfl) (by with_reducible assumption) ?_
    simp only [Act.put, List.setIfInBounds_toArray, List.set_cons_zero, List.set_cons_succ]
    refine skH (i := 14) (d := some 20) rfl rfl (by kernel_rfl) (by kernel_rfl) (by kernel_rfl) (fun _ _ _ h => h) (by rfl) (by with_reducible assumption) ?_
    simp only [Act.put, List.setIfInBounds_toArray, List.set_cons_zero, List.set_cons_succ]
    refine skH (i := 15) (d := some 21) rfl rfl (by kernel_rfl) (by kernel_rfl) (by kernel_rfl) (fun _ _ _ h => h) (by rfl) (by with_reducible assumption) ?_
    simp only [Act.put, List.setIfInBounds_toArray, List.set_cons_zero, List.set_cons_succ]
    refine skH (i := 16) (d := some 22) rfl rfl (by kernel_rfl) (by kernel_rfl) (by kernel_rfl) (fun _ _ _ h => h) (by rfl) (by with_reducible assumption) ?_
    simp only [Act.put, List.setIfInBounds_toArray, List.set_cons_zero, List.set_cons_succ]
    refine skH (i := 17) (d := some 23) rfl rfl (by kernel_rfl) (by kernel_rfl) (by kernel_rfl) (fun _ _ _ h => h) (by rfl) (by with_reducible assumption) ?_
    simp only [Act.put, List.setIfInBounds_toArray, List.set_cons_zero, List.set_cons_succ]
    refine skH (i := 18) (d := some 24) rfl rfl (by kernel_rfl) (by kernel_rfl) (by kernel_rfl) (fun _ _ _ h => h) (by rfl) (by with_reducible assumption) ?_
    simp only [Act.put, List.setIfInBounds_toArray, List.set_cons_zero, List.set_cons_succ]
    refine skH (i := 19) (d := some 25) rfl rfl (by kernel_rfl) (by kernel_rfl) (by kernel_rfl) (fun _ _ _ h => h) (by rfl) (by with_reducible assumption) ?_
    simp only [Act.put, List.setIfInBounds_toArray, List.set_cons_zero, List.set_cons_succ]
    refine skH (i := 20) (d := some 26) rfl rfl (by kernel_rfl) (by kernel_rfl) (by kernel_rfl) (fun _ _ _ h => h) (by rfl) (by with_reducible assumption) ?_
    simp only [Act.put, List.setIfInBounds_toArray, List.set_cons_zero, List.set_cons_succ]
    refine tkH (i := 21) (d := some 27) (v := ?_) rfl rfl (by kernel_rfl) (by kernel_rfl) (by kernel_rfl) (fun _ _ _ h => h) (by rfl) ?_ (by with_reducible assumption) ?_
    rotate_left
    · (intro w hSw; (try dsimp only at hSw); go_simp; (try with_reducible rfl))
    simp only [Act.put, List.setIfInBounds_toArray, List.set_cons_zero, List.set_cons_succ]
    refine wpAnyH_done (by kernel_rfl) ?_ _
    go_wp2
    go_ret2
    exact ⟨rfl, 1, rfl⟩
  · have h1 : (Ls.length : Int) - 1 - p < n := hn.resolve_left h0
    have q9' : ¬ n < IntKind.i64.wrap (-(p : Int)) := by rw [q1]; exact h0
    have q10' : IntKind.i64.wrap (IntKind.i64.wrap ((Ls.length : Int) - 1) - (p : Int)) < n := by rw [q2, q3]; exact h1
    clear hM hH hn hp hl hne q1 q2 q3 h0 h1
    go_enter Try.func38, Try.ntmps38
    go_wp2_with fail
    go_quiet (fail)
    go_wp2
    go_ret2
    exact ⟨rfl, _, rfl⟩

end Go.Proofs.Ytkojgbfocdefnaa


namespace Go.Proofs.Ytkojgbfocdefnaa
open Go.RowKit

theorem rh_alloc (W : World) (cs : List Value) (t : TypeId) (n : Nat) (hn : W.heap.size = n) : ∀ j u, cs[j]? = some u → (W.alloc (.cells cs.toArray t)).cell? ((⟨n, 0, none⟩ : Addr).add j) = some u := by
  intro j u h
  subst hn
  have e : (⟨W.heap.size, 0, none⟩ : Addr).add j = ⟨W.heap.size, j, none⟩ := by unfold Addr.add; by_cases hj : j = 0 <;> simp [hj]
  rw [e, cell_of_row _ _ j _ _ _ (heap_alloc_last W (.cells cs.toArray t))]
  simpa using h
theorem ptrs_src {W : World} {g off n : Nat} {vs : Nat → Nat} (hc : ∀ i, i < n → W.cell? ⟨g, off + i, none⟩ = some (.pointer (some ⟨vs i, 0, none⟩))) : ∀ j u, (ptrs vs n)[j]? = some u → W.cell? ((⟨g, off, none⟩ : Addr).add j) = some u := fun j u hj => by
  have hjl : j < n := by have := (List.getElem?_eq_some_iff.1 hj).1; rwa [ptrs_len] at this
  rw [ptrs_at vs n j hjl] at hj
  rw [addP, hc j hjl, hj]
theorem ptrs_one (vs : Nat → Nat) (n : Nat) : ∀ u ∈ ptrs vs n, u.oneCell' = true := fun u hu => by
  simp only [ptrs, List.mem_map] at hu
  obtain ⟨_, _, rfl⟩ := hu
  rfl

/-- A map of the reference stays while a row of another kind grows. -/
theorem rfAt_own {W W' : World} {b base k n : Nat} {v : Value} {xs : List Value} {L : Es} (h : RfAt W b L) (ho : W.ownsRow base 48 k v n xs) (hg : W.grownBy W' v.ownBlock) : RfAt W' b L := by
  obtain ⟨vi, vv, vs, st, h1, h2, h3, h4, h5, h6⟩ := h
  refine ⟨vi, vv, vs, st, ?_, h2.kept hg (own_tags ho h2 (by decide)), h3.kept hg (own_tags ho h3 (by decide)), h4.kept hg (own_tags ho h4 (by decide)), h5, h6⟩
  refine rf_keep h1 hg ?_
  obtain ⟨_, ⟨rfl, _⟩ | ⟨g2, c2, cur2, rfl, _, r2, _⟩⟩ := ho
  · exact .inl rfl
  · refine .inr fun e => ?_
    have e' : g2 = b := Option.some.inj e
    subst e'
    rw [h1] at r2
    cases r2

set_option maxRecDepth 4000 in
set_option maxHeartbeats 1000000 in
theorem rpush_full (hb : Nat) (v : Value) (Ls : List Es) (w : World) (h : RhAt w hb Ls 32) : Calls Try.prog 24 #[.pointer (some ⟨hb, 0, none⟩), v] w fun e w' => e = .returned (.int .i64 110) ∧ Below w.heap.size w w' := by
  obtain ⟨g, cap, c0, c1, f0, f1⟩ := h.cells
  go_enter Try.func24, Try.ntmps24
  go_wp2
  go_ret
  exact ⟨rfl, Below.refl _ _⟩

set_option maxRecDepth 4000 in
set_option maxHeartbeats 4000000 in
theorem rpush_some (hb : Nat) (v : Value) (Ls : List Es) (p : Nat) (hp : p < 32) (L : Es) (hL : L.length ≤ 200) (w : World) (h : RhAt w hb Ls p) (hm : Whl w v L) : Calls Try.prog 24 #[.pointer (some ⟨hb, 0, none⟩), v] w fun e w' => e = .returned (.int .i64 0) ∧ RhAt w' hb (Ls.take (p + 1) ++ [L]) (p + 1) ∧ w.grownBy w' (some hb) := by
  obtain ⟨hpl, hl, g, cap, vs, hH, hcap, hne, hM⟩ := h
  have hbl := hH.lt
  obtain ⟨i0, hi, hz0, hz1, hz2⟩ := info_parts rinfoM
  have hge : ¬ (32 : Int) ≤ (p : Int) := by omega
  have hp0 : (0 : Int) ≤ (p : Int) + 1 := by omega
  have hp1 : (p : Int) + 1 ≤ (cap : Int) := by omega
  have hwr : IntKind.i64.wrap ((p : Int) + 1) = (p : Int) + 1 := by rw [IntKind.wrap_i64]; omega
  have hwr3 : wrap64 ((p : Int) + 1) = (p : Int) + 1 := by unfold wrap64; omega
  have htn : ((p : Int) + 1).toNat = p + 1 := by omega
  have hc : Hid (∀ X, Below w.heap.size w X → X.cell? ⟨hb, 0, none⟩ = some (.slice (some ⟨g, 0, none⟩) Ls.length cap) ∧ X.cell? ⟨hb, 1, none⟩ = some (.int .i64 (p : Int)) ∧ X.frozen? ⟨hb, 0, none⟩ = false ∧ X.frozen? ⟨hb, 1, none⟩ = false) := fun X hX => ⟨(hX.cell (p := ⟨hb, 0, none⟩) hbl).trans (cell_of_row _ _ 0 _ _ _ hH), (hX.cell (p := ⟨hb, 1, none⟩) hbl).trans (cell_of_row _ _ 1 _ _ _ hH), frozen_of_row (hH.later hX) 0, frozen_of_row (hH.later hX) 1⟩
  have c0 := (hc.out w (Below.refl _ _)).1
  have c1 := (hc.out w (Below.refl _ _)).2.1
  have B0 : Below w.heap.size w w.drew := (Below.refl _ _).drew
  have hM0 := hM.later B0
  have hsrc := ptrs_src (n := p + 1) (fun i hi => (hM0.2 i (by omega)).1)
  have hnl : p + 1 ≤ maxLen ∧ p + 1 + 1 ≤ maxLen := by unfold maxLen; omega
  clear hM0
  have hr0 : w.drew.ownsRow w.heap.size 48 1 (.slice none 0 0) 0 [] := World.ownsRow_nil _ _ _ _
  go_enter Try.func24, Try.ntmps24
  go_upto_region 4 with fail
  go_cut [5] (fun lv wx => ∃ g5 cap5, lv = .slice (some ⟨g5, 0, none⟩) (p + 1) cap5 ∧ wx.ownsRow w.heap.size 48 1 lv (p + 1) (ptrs vs (p + 1)) ∧ Below w.heap.size w wx)
  case first =>
    go_region_law (refine step_append_own _ rfl _ _ 65 rfl w.heap.size 48 i0 _ 1 8 Try.underlying65 hi hz0 hz1 hz2 rfl (by decide) _ 0 [] rfl hr0 ⟨g, 0, none⟩ (p + 1) cap (ptrs vs (p + 1)) rfl (by rw [ptrs_len]; omega) hsrc (ptrs_one vs (p + 1)) (by simpa using hnl.1) (by omega) (by simp) ?_; intro v5 w5 hown5 hgrow5; simp only [Nat.zero_add, List.nil_append] at hown5; obtain ⟨g5, cap5, rfl⟩ := own_some hown5 (by omega); have hB5 := B0.grown hgrow5 (by simp) (fun j hj => (hr0.lt j hj).1))
    all_goals
      go_wp2_with fail
      go_meet
      exact ⟨g5, cap5, rfl, hown5, hB5⟩
  case rest =>
    obtain ⟨g5, cap5, rfl, hown5, hB5⟩ := hcut
    have hwh := whole_any v L _ (hm.later hB5)
    clear hsrc c0 c1 B0
    go_wp2_with (go_at_call 42; fail)
    refine hwh.mono ?_
    rintro e w6 ⟨mb, rfl, hm6, hb6⟩
    clear hwh
    have hB6 := below_step hB5 hb6
    have hown6 := own_laterB hown5 hb6
    have hbA : Below w6.heap.size w6 (w6.alloc (.cells #[.pointer (some ⟨mb, 0, none⟩)] 48)) := (Below.refl w6.heap.size w6).alloc (Nat.le_refl _) _
    have hownA := own_laterB hown6 hbA
    have hBA := below_step hB6 hbA
    have hmA := hm6.later hbA
    have hne5 : ∀ j, (Value.slice (some ⟨g5, 0, none⟩) (p + 1) cap5).ownBlock = some j → w.heap.size ≤ j := fun j hj => (hownA.lt j hj).1
    go_wp2_with (at_builtin; refine wpList_append_own_at (P := Try.prog) _ rfl _ _ 65 rfl w.heap.size 48 i0 _ 1 8 Try.underlying65 hi hz0 hz1 hz2 rfl (by decide) _ (p + 1) (ptrs vs (p + 1)) rfl hownA ⟨w6.heap.size, 0, none⟩ 1 1 [.pointer (some ⟨mb, 0, none⟩)] rfl rfl (rh_alloc w6 [.pointer (some ⟨mb, 0, none⟩)] 48 _ rfl) (fun u hu => by rw [List.mem_singleton.1 hu]; rfl) hnl.2 (by omega) hBA.size ?_; intro v10 w10 hown10 hgrow10 _ _; obtain ⟨g10, cap10, rfl⟩ := own_some hown10 (by omega); have B10 : Below w.heap.size w w10 := hBA.grown hgrow10 hBA.size hne5; obtain ⟨c10, c11, f10, f11⟩ := hc.out _ B10; have hm10 : RfAt w10 mb L := rfAt_own hmA hownA hgrow10; have hF : Hid (_) := rpush_end hH hM hpl hL hm10 hp B10 hown10; clear hm10 hown10 hgrow10 hmA hownA hBA hbA hne5)
    go_ret
    exact ⟨rfl, hF.out.2.2.1, hF.out.2.2.2⟩


set_option maxRecDepth 4000 in
set_option maxHeartbeats 1000000 in
theorem rforget_bad (hb : Nat) (Ls : List Es) (p : Nat) (n : Int) (hn : n < 0 ∨ (p : Int) < n) (w : World) (h : RhAt w hb Ls p) : Calls Try.prog 35 #[.pointer (some ⟨hb, 0, none⟩), .int .i64 n] w fun e w' => e = .returned (.int .i64 113) ∧ Below w.heap.size w w' := by
  obtain ⟨g, cap, c0, c1, f0, f1⟩ := h.cells
  by_cases h0 : n < 0
  · go_enter Try.func35, Try.ntmps35
    go_wp2
    go_ret
    exact ⟨rfl, Below.refl _ _⟩
  · have h1 : (p : Int) < n := by omega
    have h2 : decide ((p : Int) < n) = true := decide_eq_true h1
    go_enter Try.func35, Try.ntmps35
    go_wp2
    go_ret
    exact ⟨rfl, Below.refl _ _⟩

set_option maxRecDepth 4000 in
set_option maxHeartbeats 4000000 in
theorem rforget_some (hb : Nat) (Ls : List Es) (p n : Nat) (hn : n ≤ p) (w : World) (h : RhAt w hb Ls p) : Calls Try.prog 35 #[.pointer (some ⟨hb, 0, none⟩), .int .i64 (n : Int)] w fun e w' => e = .returned (.int .i64 0) ∧ RhAt w' hb (Ls.drop n) (p - n) ∧ w.grownBy w' (some hb) := by
  obtain ⟨hpl, hl, g, cap, vs, hH, hcap, hne, hM⟩ := h
  have hbl := hH.lt
  obtain ⟨i0, hi, hz0, hz1, hz2⟩ := info_parts rinfoM
  have c0 : w.cell? ⟨hb, 0, none⟩ = some (.slice (some ⟨g, 0, none⟩) Ls.length cap) := cell_of_row _ _ 0 _ _ _ hH
  have c1 : w.cell? ⟨hb, 1, none⟩ = some (.int .i64 (p : Int)) := cell_of_row _ _ 1 _ _ _ hH
  obtain ⟨m, hm⟩ : ∃ m, m = Ls.length - n := ⟨_, rfl⟩
  have hMd := rmaps_drop hM (n := n) (by omega)
  have hsrc := ptrs_src (n := m) (fun i hi => (hMd.2 i (by rw [List.length_drop]; omega)).1)
  have h0 : ¬ (n : Int) < 0 := by omega
  have h1 : ¬ (p : Int) < (n : Int) := by omega
  have h0' : (0 : Int) ≤ (n : Int) := by omega
  have h2 : (n : Int) ≤ (Ls.length : Int) := by omega
  have hn0 : ((n : Int)).toNat = n := by omega
  have hwr : IntKind.i64.wrap ((p : Int) - (n : Int)) = ((p - n : Nat) : Int) := by rw [IntKind.wrap_i64]; omega
  have hwr3 : wrap64 ((p : Int) - (n : Int)) = ((p - n : Nat) : Int) := by unfold wrap64; omega
  have hpn : (p : Int) - (n : Int) = ((p - n : Nat) : Int) := by omega
  have hr0 : w.ownsRow w.heap.size 48 1 (.slice none 0 0) 0 [] := World.ownsRow_nil _ _ _ _
  have hm1 : m ≤ maxLen ∧ m * 8 ≤ 140737488355328 ∧ 0 < m := by unfold maxLen; omega
  have hc : Hid (∀ X, Below w.heap.size w X → X.cell? ⟨hb, 0, none⟩ = some (.slice (some ⟨g, 0, none⟩) Ls.length cap) ∧ X.cell? ⟨hb, 1, none⟩ = some (.int .i64 (p : Int)) ∧ X.frozen? ⟨hb, 0, none⟩ = false ∧ X.frozen? ⟨hb, 1, none⟩ = false) := fun X hX => ⟨(hX.cell (p := ⟨hb, 0, none⟩) hbl).trans (cell_of_row _ _ 0 _ _ _ hH), (hX.cell (p := ⟨hb, 1, none⟩) hbl).trans (cell_of_row _ _ 1 _ _ _ hH), frozen_of_row (hH.later hX) 0, frozen_of_row (hH.later hX) 1⟩
  have hmh : Hid (Ls.length - n = m) := hm.symm
  go_enter Try.func35, Try.ntmps35
  subst hm
  go_wp2_with (at_builtin; refine wpList_append_own (P := Try.prog) _ rfl _ _ 65 rfl w.heap.size 48 i0 _ 1 8 Try.underlying65 hi hz0 hz1 hz2 rfl (by decide) _ 0 [] rfl hr0 ⟨g, n, none⟩ (Ls.length - n) (cap - n) (ptrs (fun i => vs (n + i)) (Ls.length - n)) rfl (by rw [ptrs_len]; omega) hsrc (ptrs_one _ _) (by simpa using hm1.1) (by simpa using hm1.2.1) (Nat.le_refl _) ?_; intro v5 w5 hown5 hgrow5 _h; simp only [Nat.zero_add, List.nil_append] at hown5; obtain ⟨g5, cap5, rfl⟩ := own_some hown5 hm1.2.2; have B5 : Below w.heap.size w w5 := (Below.refl _ _).grown hgrow5 (Nat.le_refl _) (fun j hj => (hr0.lt j hj).1); obtain ⟨c10, c11, f10, f11⟩ := hc.out _ B5; have hF : Hid (_) := rforget_end hH hM hpl hl hn rfl B5 hown5; clear hown5 hgrow5 hsrc hMd c0 c1 hM)
  go_ret
  first | exact ⟨rfl, hF.out.2.2.1, hF.out.2.2.2⟩ | (rw [hpn]; exact ⟨rfl, hF.out.2.2.1, hF.out.2.2.2⟩)

set_option maxRecDepth 4000 in
set_option maxHeartbeats 4000000 in
theorem rclone_any (hb : Nat) (Ls : List Es) (p : Nat) (w : World) (h : RhAt w hb Ls p) : Calls Try.prog 8 #[.pointer (some ⟨hb, 0, none⟩)] w fun e w' => ∃ hc, e = .returned (.pointer (some ⟨hc, 0, none⟩)) ∧ w.heap.size ≤ hc ∧ RhAt w' hc Ls p ∧ Below w.heap.size w w' := by
  obtain ⟨hpl, hl, g, cap, vs, hH, hcap, hne, hM⟩ := h
  have hbl := hH.lt
  obtain ⟨i0, hi, hz0, hz1, hz2⟩ := info_parts rinfoM
  have c0 : w.cell? ⟨hb, 0, none⟩ = some (.slice (some ⟨g, 0, none⟩) Ls.length cap) := cell_of_row _ _ 0 _ _ _ hH
  have c1 : w.cell? ⟨hb, 1, none⟩ = some (.int .i64 (p : Int)) := cell_of_row _ _ 1 _ _ _ hH
  have hsrc := ptrs_src (n := Ls.length) (fun i hi => (hM.2 i hi).1)
  have hr0 : w.ownsRow w.heap.size 48 1 (.slice none 0 0) 0 [] := World.ownsRow_nil _ _ _ _
  have hm1 : Ls.length ≤ maxLen ∧ Ls.length * 8 ≤ 140737488355328 ∧ 0 < Ls.length := by unfold maxLen; omega
  go_enter Try.func8, Try.ntmps8
  go_wp2_with (at_builtin; refine wpList_append_own (P := Try.prog) _ rfl _ _ 65 rfl w.heap.size 48 i0 _ 1 8 Try.underlying65 hi hz0 hz1 hz2 rfl (by decide) _ 0 [] rfl hr0 ⟨g, 0, none⟩ Ls.length cap (ptrs vs Ls.length) rfl (by rw [ptrs_len]; omega) hsrc (ptrs_one _ _) (by simpa using hm1.1) (by simpa using hm1.2.1) (Nat.le_refl _) ?_; intro v5 w5 hown5 hgrow5 _h; simp only [Nat.zero_add, List.nil_append] at hown5; obtain ⟨g5, cap5, rfl⟩ := own_some hown5 hm1.2.2; have B5 : Below w.heap.size w w5 := (Below.refl _ _).grown hgrow5 (Nat.le_refl _) (fun j hj => (hr0.lt j hj).1); have d1 : w5.cell? ⟨hb, 1, none⟩ = some (.int .i64 (p : Int)) := (B5.cell (p := ⟨hb, 1, none⟩) hbl).trans c1; have hE : Hid (_) := rclone_end (X := w5.alloc (.cells #[.slice (some ⟨g5, 0, none⟩) Ls.length cap5, .int .i64 (p : Int)] 67)) hM hpl hl B5 hown5 rfl; have hsz : Hid (w.heap.size ≤ w5.heap.size) := B5.size; clear hown5 hgrow5 hsrc c0 c1 hM)
  go_ret
  exact ⟨_, rfl, hsz.out, hE.out.1, hE.out.2⟩

end Go.Proofs.Ytkojgbfocdefnaa


namespace Go.Proofs.Ytkojgbfocdefnaa
open Go.RowKit

theorem f7_len (L : List Ch) : (flat7 L).length = L.length * 7 := by
  induction L with
  | nil => rfl
  | cons a L ih =>
    have : flat7 (a :: L) = chL a ++ flat7 L := rfl
    rw [this, List.length_append, ih]
    simp [chL]
    omega
theorem f7_key : ∀ (L : List Ch) (i : Nat) (h : i < L.length), (flat7 L)[i * 7]? = some (.int .u32 (L[i].1 : Int))
  | [], i, h => by simp at h
  | a :: L, 0, h => rfl
  | a :: L, i + 1, h => by
    have ih := f7_key L i (by simpa using h)
    show (chL a ++ flat7 L)[(i + 1) * 7]? = _
    rw [List.getElem?_append_right (by simp [chL]; omega), show (i + 1) * 7 - (chL a).length = i * 7 from by simp [chL]; omega]
    exact ih
theorem rf_nk {n : Nat} (h : n ≤ 400) : n + 1 ≤ maxLen ∧ (n + 1) * 4 ≤ 140737488355328 := by unfold maxLen; omega
theorem ks_take (R : List Ch) (t : Nat) (ht : t < R.length) : keysV ((R.map (·.1)).take (t + 1)) = keysV ((R.map (·.1)).take t) ++ [.int .u32 (R[t].1 : Int)] := by
  rw [List.take_succ_eq_append_getElem (by simpa using ht), keysV_snoc, List.getElem_map]

set_option maxRecDepth 4000 in
set_option maxHeartbeats 4000000 in
theorem rtouched_some (hb : Nat) (Ls : List Es) (p i j : Nat) (hi : i < Ls.length) (hj : j < Ls.length) (a b : Int) (ha : a = (i : Int) - (p : Int)) (hbb : b = (j : Int) - (p : Int)) (w : World) (h : RhAt w hb Ls p) : Calls Try.prog 39 #[.pointer (some ⟨hb, 0, none⟩), .int .i64 a, .int .i64 b] w fun e w' => ∃ ea ec, e = .returned (.slice ea ((rdif (Ls[i].length + Ls[j].length) Ls[i] Ls[j]).map (·.1)).length ec) ∧ KsAt w' (.slice ea ((rdif (Ls[i].length + Ls[j].length) Ls[i] Ls[j]).map (·.1)).length ec) ((rdif (Ls[i].length + Ls[j].length) Ls[i] Ls[j]).map (·.1)) ∧ Below w.heap.size w w' := by
  have hv1 := rversion_some hb Ls p i hi a ha w h
  have hv2 := fun W (hW : Below w.heap.size w W) => rversion_some hb Ls p j hj b hbb W (h.later hW)
  have hlen : (rdif (Ls[i].length + Ls[j].length) Ls[i] Ls[j]).length ≤ Ls[i].length + Ls[j].length := rdif_len _ _ _
  generalize hA : Ls[i] = A at *
  generalize hB : Ls[j] = B at *
  obtain ⟨R, hR⟩ : ∃ R, rdif (A.length + B.length) A B = R := ⟨_, rfl⟩
  rw [hR] at hlen ⊢
  have hRH : Hid (rdif (A.length + B.length) A B = R) := hR
  have hv2H : Hid (∀ W, Below w.heap.size w W → _) := hv2
  obtain ⟨i0, hik, hz0, hz1, hz2⟩ := info_parts infoU
  clear hA hB hR ha hbb h hi hj hv2
  go_enter Try.func39, Try.ntmps39
  go_wp2_with (go_at_call 38; fail)
  refine hv1.mono ?_
  rintro e w1 ⟨ma, rfl, hm1, hl1, m1, rfl⟩
  clear hv1
  have hb1 := below_drewN (Below.refl w.heap.size w) m1
  have hv2 := hv2H.out _ hb1
  clear hv2H
  go_wp2_with (go_at_call 38; fail)
  refine hv2.mono ?_
  rintro e w2 ⟨mb, rfl, hm2, hl2, m2, rfl⟩
  clear hv2
  have hm1' := hm1.later (below_drewN (Below.refl _ _) m2)
  have hb2 := below_drewN hb1 m2
  have hD := diff_rf ma mb A B (Nat.le_trans hl1 (by decide)) (Nat.le_trans hl2 (by decide)) _ hm1' hm2
  rw [hRH.out] at hD
  clear hm1 hm2 hm1' hRH hb1
  generalize (w.drewN m1).drewN m2 = W2 at *
  go_wp2_with (go_at_call 53; fail)
  refine hD.mono ?_
  rintro e w3 ⟨q, c, rfl, hown3, hb3⟩
  clear hD
  have hb23 := below_step hb2 hb3
  have hln : Hid (R.length ≤ 400) := Nat.le_trans hlen (by omega)
  clear hlen hl1 hl2
  go_wp2_with fail
  go_loopw [11, 13] (fun lv iv X => ∃ t : Nat, Hid (t ≤ R.length) ∧ iv = .int .i64 (t : Int) ∧ X.ownsRow w3.heap.size 56 1 lv ((R.map (·.1)).take t).length (keysV ((R.map (·.1)).take t)) ∧ Below w3.heap.size w3 X) (fun _ iv _ => R.length - (intOf iv).toNat)
  case atStart => exact ⟨0, Nat.zero_le _, rfl, World.ownsRow_nil _ _ _ _, Below.refl _ _⟩
  case round =>
    obtain ⟨t, ht, rfl, hown, hB⟩ := hrel
    obtain ⟨ea, ec, rfl, -⟩ := own_sl hown
    by_cases hlt : t < R.length
    · have hlt' : (t : Int) < (R.length : Int) := Int.ofNat_lt.2 hlt
      have ht0 : (0 : Int) ≤ (t : Int) := Int.natCast_nonneg _
      obtain ⟨g, cap, hqe⟩ := own_some hown3 (Nat.lt_of_le_of_lt (Nat.zero_le _) hlt)
      injection hqe with hq1 _ hq3
      subst hq1 hq3
      have hgl := (hown3.lt g rfl).2
      have ct : w3.cell? ⟨g, t * 7, none⟩ = some (.int .u32 (R[t].1 : Int)) := (hown3.cellAt (t * 7) (by omega)).trans (f7_key R t hlt)
      have dt := (hB.cell (p := ⟨g, t * 7, none⟩) hgl).trans ct
      have htk : Hid (keysV ((R.map (·.1)).take (t + 1)) = keysV ((R.map (·.1)).take t) ++ [.int .u32 (R[t].1 : Int)]) := ks_take R t hlt
      have htl : Hid (((R.map (·.1)).take (t + 1)).length = ((R.map (·.1)).take t).length + 1) := by show _ = _; simp only [List.length_take, List.length_map]; omega
      have hkl : Hid (((R.map (·.1)).take t).length ≤ 400) := by show _ ≤ _; have := hln.out; simp only [List.length_take, List.length_map]; omega
      generalize R[t].1 = key at *
      generalize hK : (R.map (·.1)).take t = K at *
      have hbA : Below wr.heap.size wr (wr.alloc (.cells #[.int .u32 (key : Int)] 56)) := (Below.refl wr.heap.size wr).alloc (Nat.le_refl _) _
      have hA := own_laterB hown hbA
      have hBA := below_step hB hbA
      have hnl : K.length + 1 ≤ maxLen ∧ (K.length + 1) * 4 ≤ 140737488355328 := rf_nk hkl.out
      have hlo : ∀ j, (Value.slice ea K.length ec).ownBlock = some j → w3.heap.size ≤ j := fun j e => (hown.lt j e).1
      have hms : Hid (t < R.length ∧ R.length ≤ 400) := ⟨hlt, hln.out⟩
      clear hln hkl ct hlt ht hK
      go_wp2_with (at_builtin; refine wpList_append_own_at (P := Try.prog) _ rfl _ _ 90 rfl w3.heap.size 56 i0 _ 1 4 Try.underlying90 hik hz0 hz1 hz2 rfl (by decide) _ K.length (keysV K) rfl hA ⟨wr.heap.size, 0, none⟩ 1 1 [.int .u32 (key : Int)] rfl rfl (rh_alloc wr [.int .u32 (key : Int)] 56 _ rfl) (fun u hu => by rw [List.mem_singleton.1 hu]; rfl) hnl.1 hnl.2 hBA.size ?_; intro v2 w2 hown2 hgrow2 hx1 hx2; clear hx1 hx2; have hB2 := hBA.grown hgrow2 hBA.size hlo; rw [← htk.out] at hown2; clear hA hBA hbA hgrow2 hnl hlo htk; rw [← htl.out] at hown2; obtain ⟨hn5, hn4⟩ := hms.out)
      exact ⟨⟨t + 1, hn5, by go_num, hown2, hB2⟩, by simp [intOf]; omega⟩
    · have hlt' : ¬ (t : Int) < (R.length : Int) := fun h => hlt (Int.ofNat_lt.1 h)
      obtain rfl : t = R.length := by have := ht.out; omega
      rw [List.take_of_length_le (by simp)] at hown
      have hE := ks_of_own hown
      have hbf := below_step hb23 hB
      clear hown hown3
      go_wp2
      go_ret
      rw [show R.length = (R.map (·.1)).length from (List.length_map _).symm]
      exact ⟨ea, ec, rfl, by rw [List.length_map] at hE ⊢; exact hE, hbf⟩

end Go.Proofs.Ytkojgbfocdefnaa


namespace Go.Proofs.Ytkojgbfocdefnaa
open Go.RowKit

/-- A number that tells no version. -/
def outV (Ls : List Es) (p : Nat) (a : Int) : Prop := a < -(p : Int) ∨ (Ls.length : Int) - 1 - p < a
theorem out_or {Ls : List Es} {p : Nat} (a : Int) : outV Ls p a ∨ ∃ i : Nat, i < Ls.length ∧ a = (i : Int) - p := by
  unfold outV
  by_cases h : a < -(p : Int) ∨ (Ls.length : Int) - 1 - p < a
  · exact .inl h
  · exact .inr ⟨(a + p).toNat, by omega, by omega⟩

set_option maxRecDepth 4000 in
set_option maxHeartbeats 4000000 in
theorem rtouched_none (hb : Nat) (Ls : List Es) (p : Nat) (a b : Int) (hab : outV Ls p a ∨ outV Ls p b) (w : World) (h : RhAt w hb Ls p) : Calls Try.prog 39 #[.pointer (some ⟨hb, 0, none⟩), .int .i64 a, .int .i64 b] w fun e w' => e = .returned (.slice none 0 0) ∧ Below w.heap.size w w' := by
  have hv : ∀ n : Int, ∃ (v : Option Addr) (ok : Bool), Hid (outV Ls p n → ok = false) ∧ ∀ W, Below w.heap.size w W → Calls Try.prog 38 #[.pointer (some ⟨hb, 0, none⟩), .int .i64 n] W fun e w' => ∃ m, e = .returned (.tuple #[.pointer v, .bool ok]) ∧ w' = W.drewN m := fun n => by
    rcases out_or (Ls := Ls) (p := p) n with ho | ⟨i, hi, hn⟩
    · refine ⟨none, false, fun _ => rfl, fun W hW => (rversion_none hb Ls p n ho W (h.later hW)).mono ?_⟩
      rintro e w' ⟨he, m, hm⟩
      exact ⟨m, he, hm⟩
    · obtain ⟨hp, hl, g, cap, vs, hH, hcap, hne, hM⟩ := h
      refine ⟨some ⟨vs i, 0, none⟩, true, fun ho => ?_, fun W hW => (rversion_at hb Ls p i hi n hn g cap vs W (hH.later hW) (hM.later hW) hp hl).mono ?_⟩
      · unfold outV at ho
        omega
      · rintro e w' ⟨he, m, hm⟩
        exact ⟨m, he, hm⟩
  obtain ⟨va, oka, ha, hva⟩ := hv a
  obtain ⟨vb, okb, hb', hvb⟩ := hv b
  have hor : oka = false ∨ okb = false := hab.elim (fun x => .inl (ha.out x)) (fun x => .inr (hb'.out x))
  have hv1 := hva w (Below.refl _ _)
  have hvH : Hid (∀ W, Below w.heap.size w W → _) := hvb
  clear hv hva hvb ha hb' hab h
  go_enter Try.func39, Try.ntmps39
  go_wp2_with (go_at_call 38; fail)
  refine hv1.mono ?_
  rintro e w1 ⟨m1, rfl, rfl⟩
  clear hv1
  have hb1 := below_drewN (Below.refl w.heap.size w) m1
  have hv2 := hvH.out _ hb1
  clear hvH
  go_wp2_with (go_at_call 38; fail)
  refine hv2.mono ?_
  rintro e w2 ⟨m2, rfl, rfl⟩
  clear hv2
  have hb2 := below_drewN (Below.refl w.heap.size w) (m1 + m2)
  rcases hor with rfl | rfl
  · go_wp2
    go_ret
    exact ⟨rfl, hb2⟩
  · cases oka with
    | false =>
      go_wp2
      go_ret
      exact ⟨rfl, hb2⟩
    | true =>
      go_wp2
      go_ret
      exact ⟨rfl, hb2⟩

end Go.Proofs.Ytkojgbfocdefnaa


namespace Go.Proofs.Ytkojgbfocdefnaa
open Go.RowKit

theorem psame_nil (w : World) : Calls Try.prog 29 #[.pointer none, .pointer none] w fun e w' => e = .returned (.bool true) ∧ Below w.heap.size w w' := by
  go_enter Try.func29, Try.ntmps29
  go_wp2
  go_ret
  exact ⟨rfl, Below.refl _ _⟩

set_option maxRecDepth 4000 in
set_option maxHeartbeats 1000000 in
theorem psame_any (mb rm : Nat) (L : Es) (hl : L.length ≤ 200) (w : World) (h : MapE w mb L) (hr : RfAt w rm L) : Calls Try.prog 29 #[.pointer (some ⟨mb, 0, none⟩), .pointer (some ⟨rm, 0, none⟩)] w fun e w' => e = .returned (.bool true) ∧ Below w.heap.size w w' := by
  have he := entries_any mb L (by omega) w h
  go_enter Try.func29, Try.ntmps29
  go_wp2_with (go_at_call 50; fail)
  refine he.mono ?_
  rintro e w1 ⟨ev, rfl, hown, hb1⟩
  have hE1 := ents_of_own hown
  have hli := list_rf rm L (by omega) w1 (hr.later hb1)
  clear he hown
  go_wp2_with (go_at_call 51; fail)
  refine hli.mono ?_
  rintro e w2 ⟨a, c, rfl, hE2, hb2⟩
  have hs := same_ents ev (.slice a L.length c) L (by omega) w2 (hE1.later hb2) hE2
  clear hli
  go_wp2_with (go_at_call 49; fail)
  refine hs.mono ?_
  rintro e w3 ⟨rfl, hb3⟩
  clear hs
  go_wp2
  go_ret
  exact ⟨rfl, below_step (below_step hb1 hb2) hb3⟩

theorem cnt_le (ms : Int) (n : Nat) : cntM ms n ≤ n := by unfold cntM; split <;> omega
theorem wrJ {x y : Int} (h : x = y) (h1 : -9223372036854775808 ≤ y) (h2 : y ≤ 9223372036854775807) : IntKind.i64.wrap x = y ∧ wrap64 x = y := by
  subst h
  constructor
  · rw [IntKind.wrap_i64]; omega
  · unfold wrap64; omega
theorem thru_n {p r l : Nat} (hr : p + 1 + r = l) (hl : l ≤ 33) : (IntKind.i64.wrap ((p : Int) + (r : Int)) = (p : Int) + (r : Int) ∧ wrap64 ((p : Int) + (r : Int)) = (p : Int) + (r : Int)) ∧ (IntKind.i64.wrap ((p : Int) + (r : Int) + 1) = (l : Int) ∧ wrap64 ((p : Int) + (r : Int) + 1) = (l : Int)) := ⟨wrJ rfl (by omega) (by omega), wrJ (by omega) (by omega) (by omega)⟩

theorem thru_q {q : Int} {j p l : Nat} (hq : q = (j : Int) - (p : Int)) (hj : j < l) (hp : p < l) (hl : l ≤ 33) : IntKind.i64.wrap ((j : Int) - (p : Int)) = q ∧ wrap64 ((j : Int) - (p : Int)) = q := wrJ hq.symm (by omega) (by omega)
theorem thru_d {ms N : Int} {c l : Nat} (hc : c = cntM ms l) (hN : (l : Int) = N) : ∃ d : Bool, (d = true ∧ ms = (c : Int) ∧ 0 < ms ∧ ms < N) ∨ (d = false ∧ N = (c : Int) ∧ ¬ (0 < ms ∧ ms < N)) := by
  unfold cntM at hc
  by_cases h : 0 < ms ∧ ms < N
  · rw [if_pos ⟨h.1, by omega⟩] at hc
    exact ⟨true, .inl ⟨rfl, by omega, h.1, h.2⟩⟩
  · rw [if_neg (by omega)] at hc
    exact ⟨false, .inr ⟨rfl, by omega, h⟩⟩

set_option maxRecDepth 4000 in
set_option maxHeartbeats 4000000 in
theorem pthrough_any (hb rb : Nat) (Ls : List Es) (p : Nat) (ms : Int) (w : World) (h : HistAt w hb Ls p) (hr : RhAt w rb Ls p) : Calls Try.prog 11 #[.agg #[.pointer (some ⟨hb, 0, none⟩), .pointer (some ⟨rb, 0, none⟩)], .func (.func 18) #[.pointer (some ⟨hb, 0, none⟩)] #[], .int .i64 ms] w fun e w' => e = .returned (.bool true) ∧ Below w.heap.size w w' := by
  have hpl := h.1
  have hl := h.2.1
  obtain ⟨r, hr1⟩ : ∃ r, p + 1 + r = Ls.length := ⟨Ls.length - (p + 1), by omega⟩
  obtain ⟨⟨n1, n2⟩, ⟨n3, n4⟩⟩ := thru_n hr1 hl
  have hb0 := (Below.refl w.heap.size w).alloc (Nat.le_refl _) (.cells #[.pointer (some ⟨hb, 0, none⟩), .pointer (some ⟨rb, 0, none⟩)] 27)
  have hrow := heap_alloc_last w (.cells #[.pointer (some ⟨hb, 0, none⟩), .pointer (some ⟨rb, 0, none⟩)] 27)
  have hd := rdepth_any rb Ls p r hr1 _ (hr.later hb0)
  obtain ⟨c, hc⟩ : ∃ c, Hid (c = cntM ms Ls.length) := ⟨_, show _ = _ from rfl⟩
  have hcl : Hid (c ≤ Ls.length ∧ Ls.length ≤ 33) := ⟨by rw [hc.out]; exact cnt_le _ _, hl⟩
  go_enter Try.func11, Try.ntmps11
  go_wp2_with (go_at_call 33; fail)
  refine hd.mono ?_
  rintro e w1 ⟨rfl, hb1⟩
  clear hd
  have hB1 := below_step hb0 hb1
  have hrow1 := (hb1.block _ (Array.getElem?_eq_some_iff.1 hrow).1).trans hrow
  have h1 := h.later hB1
  have hr2 := hr.later hB1
  clear hb0 hb1 hrow h hr
  generalize hn : (Ls.length : Int) = N at n3 n4
  have hN : Hid ((Ls.length : Int) = N) := hn
  clear hn
  obtain ⟨d, hd⟩ : ∃ d : Bool, Hid ((d = true ∧ ms = (c : Int) ∧ 0 < ms ∧ ms < N) ∨ (d = false ∧ N = (c : Int) ∧ ¬ (0 < ms ∧ ms < N))) := thru_d hc.out hN.out
  go_upto_region 3 with fail
  go_cut [31] (fun dv wx => dv = .bool d ∧ wx = w1)
  case first =>
    by_cases q1 : 0 < ms
    · by_cases q2 : ms < N
      · obtain rfl : d = true := by rcases hd.out with ⟨h, _⟩ | ⟨_, _, h⟩; exact h; exact absurd ⟨q1, q2⟩ h
        go_wp2_with fail
        go_meet
        exact ⟨rfl, rfl⟩
      · obtain rfl : d = false := by rcases hd.out with ⟨_, _, _, h⟩ | ⟨h, _⟩; exact absurd h q2; exact h
        go_wp2_with fail
        go_meet
        exact ⟨rfl, rfl⟩
    · obtain rfl : d = false := by rcases hd.out with ⟨_, _, h, _⟩ | ⟨h, _⟩; exact absurd h q1; exact h
      go_wp2_with fail
      go_meet
      exact ⟨rfl, rfl⟩
  case rest =>
  obtain ⟨hdv, hwc⟩ := hcut
  have hwd := hwc.symm
  clear hwc
  subst hwd hdv
  go_upto_if 31 with fail
  go_cut [9] (fun nv wx => nv = .int .i64 (c : Int) ∧ wx = w1)
  case first =>
    cases d with
    | true =>
      have hcm : Hid (ms = (c : Int)) := by rcases hd.out with ⟨_, h, _⟩ | ⟨h, _⟩; exact h; cases h
      go_wp2_with fail
      go_meet
      exact ⟨by rw [hcm.out], rfl⟩
    | false =>
      have hcm : Hid (N = (c : Int)) := by rcases hd.out with ⟨h, _⟩ | ⟨_, h, _⟩; cases h; exact h
      go_wp2_with fail
      go_meet
      exact ⟨by rw [hcm.out], rfl⟩
  case rest =>
    obtain ⟨rfl, hwc⟩ := hcut
    have hwd := hwc.symm
    clear hwc
    subst hwd
    have hv := versions_M ms hb Ls p _ h1
    rw [← hc.out] at hv
    clear n1 n2 n3 n4 hN
    go_wp2_with (go_at_call 37; fail)
    refine hv.mono ?_
    rintro e w2 ⟨ov, vs, rfl, hown, hM, hb2⟩
    clear hv
    obtain ⟨ea, ec, rfl⟩ := own_lenH hown
    have hB2 := below_step hB1 hb2
    have hrow2 := (hb2.block _ (Array.getElem?_eq_some_iff.1 hrow1).1).trans hrow1
    have hr3 := hr2.later hb2
    have hMH : Hid (∀ i (h : i < Ls.length), MapE w2 (vs i) Ls[i] ∧ Ls[i].length ≤ 200) := hM
    have hne : ((c : Int) != (c : Int)) = false := by simp
    clear hM hr2 h1 hrow1 hb2 hB1
    have hwl := (Array.getElem?_eq_some_iff.1 hrow2).1
    go_wp2_with fail
    go_loopw [12] (fun iv X => ∃ j : Nat, Hid (j ≤ c) ∧ iv = .int .i64 (j : Int) ∧ Below w2.heap.size w2 X) (fun iv _ => c - (intOf iv).toNat)
    case atStart => exact ⟨0, Nat.zero_le _, rfl, Below.refl _ _⟩
    case round =>
      obtain ⟨j, hj, rfl, hB⟩ := hrel
      by_cases hlt : j < c
      · have hlt' : (j : Int) < (c : Int) := Int.ofNat_lt.2 hlt
        have hj0 : (0 : Int) ≤ (j : Int) := Int.natCast_nonneg _
        have hjL : j < Ls.length := Nat.lt_of_lt_of_le hlt hcl.out.1
        obtain ⟨q, hq⟩ : ∃ q : Int, Hid (q = (j : Int) - (p : Int)) := ⟨_, show _ = _ from rfl⟩
        obtain ⟨wq1, wq2⟩ : IntKind.i64.wrap ((j : Int) - (p : Int)) = q ∧ wrap64 ((j : Int) - (p : Int)) = q := thru_q hq.out hjL hpl hl
        obtain ⟨g, cap, hge⟩ := own_some hown (Nat.lt_of_le_of_lt (Nat.zero_le _) hlt)
        injection hge with hg1 _ hg3
        subst hg1 hg3
        have hgl := (hown.lt g rfl).2
        obtain ⟨f1, f2⟩ := flat2_at vs p c j hlt
        have x1 : w2.cell? ⟨g, j * 2, none⟩ = some (.int .i64 q) := by rw [hq.out]; exact (hown.cellAt (j * 2) (by omega)).trans f1
        have x2 : w2.cell? ⟨g, j * 2 + 1, none⟩ = some (.pointer (some ⟨vs j, 0, none⟩)) := (hown.cellAt (j * 2 + 1) (by omega)).trans f2
        have hv := rversion_some rb Ls p j hjL q hq.out _ (hr3.later hB)
        obtain ⟨hMj, hLj⟩ := hMH.out j hjL
        have y0 : wr.cell? ⟨w.heap.size, 1, none⟩ = some (.pointer (some ⟨rb, 0, none⟩)) := (hB.cell (p := ⟨w.heap.size, 1, none⟩) hwl).trans (cell_of_row _ _ 1 _ _ _ hrow2)
        have hms : Hid (j < c ∧ c ≤ 33) := ⟨hlt, Nat.le_trans hcl.out.1 hl⟩
        generalize Ls[j] = L at *
        clear f1 f2 hlt hj hq hown hMH
        go_wp2_with (go_at_call 38; fail)
        refine hv.mono ?_
        rintro e w5 ⟨rm, rfl, hrm, -, m5, rfl⟩
        clear hv
        have hB5 := below_drewN hB m5
        have x3 := (hB5.cell (p := ⟨g, j * 2, none⟩) hgl).trans x1
        have x4 := (hB5.cell (p := ⟨g, j * 2 + 1, none⟩) hgl).trans x2
        have hs := psame_any (vs j) rm L hLj _ (hMj.later hB5) hrm
        clear x1 x2 y0 hrm
        generalize wr.drewN m5 = W5 at *
        go_wp2_with (go_at_call 29; fail)
        refine hs.mono ?_
        rintro e w6 ⟨rfl, hb6⟩
        have hB6 := below_step hB5 hb6
        clear hs x3 x4 hb6 hB5
        obtain ⟨hn5, hn4⟩ := hms.out
        go_wp2
        exact ⟨⟨j + 1, hn5, by go_num, hB6⟩, by simp [intOf]; omega⟩
      · have hlt' : ¬ (j : Int) < (c : Int) := fun h => hlt (Int.ofNat_lt.1 h)
        clear hown hMH
        go_wp2
        go_ret
        exact ⟨rfl, below_step hB2 hB⟩

end Go.Proofs.Ytkojgbfocdefnaa
