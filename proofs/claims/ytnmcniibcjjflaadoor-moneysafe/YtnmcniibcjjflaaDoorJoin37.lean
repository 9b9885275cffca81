import Derived.Test.YtnmcniibcjjflaaDoorTurnTally
import Derived.Deep.RegionHeld3
import Derived.RangeFuncNested
import Derived.RangeFuncBound
import Derived.RangeFuncCalls
import Derived.RangeFuncLeaves
import Derived.Shelf.Abstract
import Derived.OwnWalkIn
import Derived.TacticsInMore
import Derived.LoopNIn
import Derived.LoopIn
namespace Go.Proofs.YtnmcniibcjjflaaDoor
open Go.RowKit

set_option maxRecDepth 10000 in
set_option maxHeartbeats 600000 in
theorem result_fault (T : Nat) (kind S f0 f1 : Int) (W : World) (hT : Tal W T kind S f0 f1) (hf : (f0 != 0) = true) :
    Calls Tryd.prog 20 #[.pointer (some ⟨T, 0, none⟩)] W fun e W' => e = .returned (.agg #[.int .i64 f0, .int .i64 f1]) ∧ Below W.heap.size W W' := by
  have hB := (Below.refl W.heap.size W).alloc (Nat.le_refl _) (.cells #[.int .i64 0, .int .i64 0] 24)
  obtain ⟨p0, p1, p2, p3, p4, o1, o2, o3, o4⟩ := hT.later hB
  go_enter Tryd.func20, Tryd.ntmps20
  go_wp2
  exact bodyPost_ret (v := .agg #[.int .i64 f0, .int .i64 f1]) (by simp [results, Tryd.results20, go_sem]) rfl ⟨rfl, (Below.refl _ _).alloc (Nat.le_refl _) _⟩

theorem keep_st {X : World} {T B : Nat} (hn : B ≠ T) {u v : Value} (h : X.cell? ⟨T, 0, none⟩ = some u ∧ X.cell? ⟨T, 1, none⟩ = some v) (a b : Value) :
    ((X.setCell ⟨B, 0, none⟩ a).setCell ⟨B, 1, none⟩ b).cell? ⟨T, 0, none⟩ = some u ∧ ((X.setCell ⟨B, 0, none⟩ a).setCell ⟨B, 1, none⟩ b).cell? ⟨T, 1, none⟩ = some v := by
  have o : ∀ (Y : World) (i j : Nat) (c : Value), (Y.setCell ⟨B, i, none⟩ c).cell? ⟨T, j, none⟩ = Y.cell? ⟨T, j, none⟩ := fun Y i j c => World.cell?_setCell_other _ _ _ _ (fun e => hn (congrArg Addr.block e))
  rw [o, o, o, o]
  exact h

theorem wrapLow {S : Int} (hS : -4000000000000000000 ≤ S ∧ S ≤ 4000000000000000000) : IntKind.i64.wrap (lowOf S) = S := by rw [IntKind.wrap_i64]; unfold lowOf; omega
theorem wrapHigh {S : Int} (hS : -4000000000000000000 ≤ S ∧ S ≤ 4000000000000000000) : IntKind.u64.wrap (S / 9223372036854775808) = highOf S := by
  rw [wrapU]
  unfold highOf
  split <;> omega

set_option maxRecDepth 10000 in
set_option maxHeartbeats 600000 in
theorem result_sum (T : Nat) (kind S f1 : Int) (W : World) (hK : Kinds W) (hT : Tal W T kind S 0 f1) (hS : -4000000000000000000 ≤ S ∧ S ≤ 4000000000000000000) (r : Int × Int) (hr : Hid (r = M.fit true kind S)) :
    Calls Tryd.prog 20 #[.pointer (some ⟨T, 0, none⟩)] W fun e W' => e = .returned (.agg #[.int .i64 r.1, .int .i64 r.2]) ∧ Below W.heap.size W W' := by
  have hB := (Below.refl W.heap.size W).alloc (Nat.le_refl _) (.cells #[.int .i64 0, .int .i64 0] 24)
  have hR := Box.new W (.int .i64 0) (.int .i64 0) 24
  have hK1 := hK.later hB
  obtain ⟨p0, p1, p2, p3, p4, o1, o2, o3, o4⟩ := hT.later hB
  have e1 := wrapLow hS
  have e2 := wrapHigh hS
  have hl : 0 ≤ lowOf S ∧ lowOf S < 18446744073709551616 := by unfold lowOf; omega
  generalize lowOf S = L at *
  generalize highOf S = H at *
  go_enter Tryd.func20, Tryd.ntmps20
  go_wp2
  have hbd := (Below.refl (W.alloc (.cells #[.int .i64 0, .int .i64 0] 24)).heap.size (W.alloc (.cells #[.int .i64 0, .int .i64 0] 24))).drew
  have hTl := World.block_lt_of_cell? _ _ hT.1
  have hTn : W.heap.size ≠ T := Nat.ne_of_gt hTl
  have d0 := (hbd.cell (p := ⟨T, 0, none⟩) (World.block_lt_of_cell? _ _ p0)).trans p0
  have d1 := (hbd.cell (p := ⟨T, 1, none⟩) (World.block_lt_of_cell? _ _ p1)).trans p1
  have hPd := And.intro d0 d1
  have hTd : T < (W.alloc (.cells #[.int .i64 0, .int .i64 0] 24)).drew.heap.size := World.block_lt_of_cell? _ _ d0
  have hRd := hR.later hbd
  have hKd := hK1.later hbd
  have hBd := below_step hB hbd
  clear p0 p1 p2 p3 p4 o1 o2 o3 o4 hR hK1 hB d0 d1 hbd
  go_region_held3 (fun X => X.cell? ⟨T, 0, none⟩ = some (.int .i64 kind) ∧ X.cell? ⟨T, 1, none⟩ = some (.int .u64 H)) (first | (with_reducible assumption) | exact hkeep _ _)
    (first | (go_at_call 53; refine (fitting_any _ _ true _ hKd).mono ?_; rintro e w1 ⟨rfl, hb1⟩; have hR1 := hRd.later hb1; have hB1 := below_step hBd hb1; have r0 := hR1.1; have r1 := hR1.2.1; have q0 := hR1.2.2.1; have q1 := hR1.2.2.2; have hPw := (show w1.cell? ⟨T, 0, none⟩ = some (.int .i64 kind) ∧ w1.cell? ⟨T, 1, none⟩ = some (.int .u64 H) from ⟨(hb1.cell (p := ⟨T, 0, none⟩) hTd).trans hPd.1, (hb1.cell (p := ⟨T, 1, none⟩) hTd).trans hPd.2⟩); have hkeep := fun a b => keep_st hTn hPw a b))
  go_wp2
  exact bodyPost_ret (v := .agg #[.int .i64 r.1, .int .i64 r.2]) (by rw [hr.out]; simp [results, Tryd.results20, go_sem, r0, r1]) rfl ⟨rfl, (hB1.setCell (by simp) _).setCell (by simp) _⟩

end Go.Proofs.YtnmcniibcjjflaaDoor


namespace Go.Proofs.YtnmcniibcjjflaaDoor
open Go.RowKit Go.Shelf
attribute [local go_sem] Oper.semAt_some

abbrev encV (x : Int × Int) : Array Value := #[.agg #[.int .i64 x.1, .int .i64 x.2]]

/-- The law's own iterator: its list, how much it gave. -/
def Giv (X : World) (G : Nat) (a : Option Addr) (cap : Nat) (vs : List (Int × Int)) (t : Int) : Prop :=
  X.cell? ⟨G, 0, none⟩ = some (.slice a vs.length cap) ∧ X.cell? ⟨G, 1, none⟩ = some (.int .i64 t) ∧ X.frozen? ⟨G, 1, none⟩ = false ∧ Vals X a vs ∧ X.frozen? ⟨G, 0, none⟩ = false
/-- What a round keeps of it. -/
def KpG (G : Nat) (a : Option Addr) (cap : Nat) (vs : List (Int × Int)) (X X' : World) : Prop := ∀ t, Giv X G a cap vs t → Giv X' G a cap vs t

set_option maxRecDepth 10000 in
set_option maxHeartbeats 1000000 in
theorem all_stops (n : Nat) (hn : 1 ≤ n) (G : Nat) (a : Option Addr) (cap : Nat) (vs : List (Int × Int)) (hl : vs.length ≤ 20000) (l : Nat) (J Jx : List (Int × Int) → World → Prop) (W : World)
    (hJs : ∀ pre X v, J pre X → J pre (X.setCell ⟨G, 1, none⟩ v)) (hVs : ∀ X v, Vals X a vs → Vals (X.setCell ⟨G, 1, none⟩ v) a vs)
    (hY : ∀ pre x X, J pre X → pre.length < 20000 → YieldAt Fence.wide (n - 1) Tryd.prog l (encV x) X fun e X' => KpG G a cap vs X X' ∧ ((e = .returned (.bool true) ∧ J (pre ++ [x]) X') ∨ (e = .returned (.bool false) ∧ Jx (pre ++ [x]) X')))
    (h0 : J [] W) (hG : Giv W G a cap vs 0) :
    CallsIn Fence.wide n Tryd.prog 7 #[.pointer (some ⟨G, 0, none⟩), .func (.yield l) #[] #[]] W fun e W' => (∃ v, e = .returned v) ∧ ∃ j, j ≤ vs.length ∧ Giv W' G a cap vs (j : Int) ∧ ((j = vs.length ∧ J vs W') ∨ Jx (vs.take j) W') := by
  refine callsIn_of_wp Tryd.func7 rfl trivial ?_ rfl
  simp only [Tryd.ntmps7, List.size_toArray, List.length_cons, List.length_nil, Nat.reduceAdd, Nat.reduceSub, Array.replicate_succ, Array.replicate_zero, List.push_toArray, List.append_toArray, List.nil_append, List.cons_append]
  gi_wp2
  gi_loopw [4] (fun x wr => ∃ j : Nat, x = .int .i64 j ∧ j ≤ vs.length ∧ J (vs.take j) wr ∧ Giv wr G a cap vs (j : Int)) (fun x _ => vs.length - (intOf x).toNat)
  case atStart => exact ⟨0, rfl, by omega, h0, hG⟩
  case round =>
    obtain ⟨j, rfl, hj, hJ, hGj⟩ := hrel
    obtain ⟨c0, c1, f1, hV, f0⟩ := id hGj
    by_cases hlt : j < vs.length
    · have hlt' : (j : Int) < vs.length := by omega
      have hw : wrap64 ((j : Int) + 1) = (j : Int) + 1 := by unfold wrap64; omega
      have hJ1 := hJs _ _ (.int .i64 ((j : Int) + 1)) hJ
      have hV1 := hVs _ (.int .i64 ((j : Int) + 1)) hV
      have hc1 := World.cell?_setCell_same wr ⟨G, 1, none⟩ (.int .i64 ((j : Int) + 1)) c1
      have hc0 : (wr.setCell ⟨G, 1, none⟩ (.int .i64 ((j : Int) + 1))).cell? ⟨G, 0, none⟩ = some (.slice a vs.length cap) := (cell_o (by omega)).trans c0
      have hf1 : (wr.setCell ⟨G, 1, none⟩ (.int .i64 ((j : Int) + 1))).frozen? ⟨G, 1, none⟩ = false := by rw [World.frozen?_setCell]; exact f1
      have hf0 : (wr.setCell ⟨G, 1, none⟩ (.int .i64 ((j : Int) + 1))).frozen? ⟨G, 0, none⟩ = false := by rw [World.frozen?_setCell]; exact f0
      have hG1 : Giv (wr.setCell ⟨G, 1, none⟩ (.int .i64 ((j : Int) + 1))) G a cap vs ((j : Int) + 1) := ⟨hc0, hc1, hf1, hV1, hf0⟩
      obtain ⟨-, h | ⟨b, off, rfl, hbw, hcs⟩⟩ := id hV1
      · subst h; simp at hlt
      obtain ⟨d0, d1⟩ := hcs j hlt
      have htk : Hid (vs.take (j + 1) = vs.take j ++ [vs.getD j (0, 0)]) := by unfold Hid; rw [List.take_add_one]; simp [List.getD, hlt]
      generalize vs.getD j (0, 0) = x at *
      obtain ⟨fn, tmps, assign, body, hy, hR⟩ := hY (vs.take j) x _ hJ1 (by simp; omega)
      dsimp only [encV] at hy
      clear hcs hV hGj hJ
      gi_wp2
      refine hR.mono ?_
      rintro e W4 ⟨hk, ⟨rfl, hJ4⟩ | ⟨rfl, hJx4⟩⟩
      · have hG4 := hk _ hG1
        gi_wp2
        exact ⟨⟨j + 1, by go_num, by omega, by rw [htk.out]; exact hJ4, by exact_mod_cast hG4⟩, by simp [intOf]; omega⟩
      · have hG4 := hk _ hG1
        gi_wp2
        refine bodyPost_ret (results_none rfl _ _ _) rfl ?_
        exact ⟨⟨_, rfl⟩, j + 1, by omega, by exact_mod_cast hG4, .inr (by rw [htk.out]; exact hJx4)⟩
    · obtain rfl : j = vs.length := by omega
      gi_wp2
      go_end0
      rw [List.take_length] at hJ
      exact ⟨⟨_, rfl⟩, vs.length, by omega, hGj, .inl ⟨rfl, hJ⟩⟩

end Go.Proofs.YtnmcniibcjjflaaDoor
