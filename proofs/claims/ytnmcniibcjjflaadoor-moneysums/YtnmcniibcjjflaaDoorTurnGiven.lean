import Derived.RangeFuncNested
import Derived.RangeFuncBound
import Derived.RangeFuncCalls
import Derived.RangeFuncLeaves
import Derived.Shelf.Abstract
import Derived.OwnWalkIn
import Derived.TacticsInMore
import Derived.LoopNIn
import Derived.LoopIn
import Derived.Test.YtnmcniibcjjflaaDoorTurnTallyRes
namespace Go.Proofs.YtnmcniibcjjflaaDoor
open Go.RowKit Go.Shelf
attribute [local go_sem] Oper.semAt_some

abbrev encV (x : Int × Int) : Array Value := #[.agg #[.int .i64 x.1, .int .i64 x.2]]

/-- The law's own iterator: its list, how much it gave. -/
def Giv (X : World) (G : Nat) (a : Option Addr) (cap : Nat) (vs : List (Int × Int)) (t : Int) : Prop :=
  X.cell? ⟨G, 0, none⟩ = some (.slice a vs.length cap) ∧ X.cell? ⟨G, 1, none⟩ = some (.int .i64 t) ∧ X.frozen? ⟨G, 1, none⟩ = false ∧ Vals X a vs ∧ X.frozen? ⟨G, 0, none⟩ = false
/-- What a round keeps of it. -/
def KpG (G : Nat) (a : Option Addr) (cap : Nat) (vs : List (Int × Int)) (X X' : World) : Prop := ∀ t, Giv X G a cap vs t → Giv X' G a cap vs t

set_option maxRecDepth 10000 in
set_option maxHeartbeats 1000000 in
theorem all_stops (n : Nat) (hn : 1 ≤ n) (G : Nat) (a : Option Addr) (cap : Nat) (vs : List (Int × Int)) (hl : vs.length ≤ 20000) (l : Nat) (J Jx : List (Int × Int) → World → Prop) (W : World)
    (hJs : ∀ pre X v, J pre X → J pre (X.setCell ⟨G, 1, none⟩ v)) (hVs : ∀ X v, Vals X a vs → Vals (X.setCell ⟨G, 1, none⟩ v) a vs)
    (hY : ∀ pre x X, J pre X → pre.length < 20000 → YieldAt Fence.wide (n - 1) Tryd.prog l (encV x) X fun e X' => KpG G a cap vs X X' ∧ ((e = .returned (.bool true) ∧ J (pre ++ [x]) X') ∨ (e = .returned (.bool false) ∧ Jx (pre ++ [x]) X')))
    (h0 : J [] W) (hG : Giv W G a cap vs 0) :
    CallsIn Fence.wide n Tryd.prog 7 #[.pointer (some ⟨G, 0, none⟩), .func (.yield l) #[] #[]] W fun e W' => (∃ v, e = .returned v) ∧ ∃ j, j ≤ vs.length ∧ Giv W' G a cap vs (j : Int) ∧ ((j = vs.length ∧ J vs W') ∨ Jx (vs.take j) W') := by
  refine callsIn_of_wp Tryd.func7 rfl trivial ?_ rfl
  simp only [Tryd.ntmps7, List.size_toArray, List.length_cons, List.length_nil, Nat.reduceAdd, Nat.reduceSub, Array.replicate_succ, Array.replicate_zero, List.push_toArray, List.append_toArray, List.nil_append, List.cons_append]
  gi_wp2
  gi_loopw [4] (fun x wr => ∃ j : Nat, x = .int .i64 j ∧ j ≤ vs.length ∧ J (vs.take j) wr ∧ Giv wr G a cap vs (j : Int)) (fun x _ => vs.length - (intOf x).toNat)
  case atStart => exact ⟨0, rfl, by omega, h0, hG⟩
  case round =>
    obtain ⟨j, rfl, hj, hJ, hGj⟩ := hrel
    obtain ⟨c0, c1, f1, hV, f0⟩ := id hGj
    by_cases hlt : j < vs.length
    · have hlt' : (j : Int) < vs.length := by omega
      have hw : wrap64 ((j : Int) + 1) = (j : Int) + 1 := by unfold wrap64; omega
      have hJ1 := hJs _ _ (.int .i64 ((j : Int) + 1)) hJ
      have hV1 := hVs _ (.int .i64 ((j : Int) + 1)) hV
      have hc1 := World.cell?_setCell_same wr ⟨G, 1, none⟩ (.int .i64 ((j : Int) + 1)) c1
      have hc0 : (wr.setCell ⟨G, 1, none⟩ (.int .i64 ((j : Int) + 1))).cell? ⟨G, 0, none⟩ = some (.slice a vs.length cap) := (cell_o (by omega)).trans c0
      have hf1 : (wr.setCell ⟨G, 1, none⟩ (.int .i64 ((j : Int) + 1))).frozen? ⟨G, 1, none⟩ = false := by rw [World.frozen?_setCell]; exact f1
      have hf0 : (wr.setCell ⟨G, 1, none⟩ (.int .i64 ((j : Int) + 1))).frozen? ⟨G, 0, none⟩ = false := by rw [World.frozen?_setCell]; exact f0
      have hG1 : Giv (wr.setCell ⟨G, 1, none⟩ (.int .i64 ((j : Int) + 1))) G a cap vs ((j : Int) + 1) := ⟨hc0, hc1, hf1, hV1, hf0⟩
      obtain ⟨-, h | ⟨b, off, rfl, hbw, hcs⟩⟩ := id hV1
      · subst h; simp at hlt
      obtain ⟨d0, d1⟩ := hcs j hlt
      have htk : Hid (vs.take (j + 1) = vs.take j ++ [vs.getD j (0, 0)]) := by unfold Hid; rw [List.take_add_one]; simp [List.getD, hlt]
      generalize vs.getD j (0, 0) = x at *
      obtain ⟨fn, tmps, assign, body, hy, hR⟩ := hY (vs.take j) x _ hJ1 (by simp; omega)
      dsimp only [encV] at hy
      clear hcs hV hGj hJ
      gi_wp2
      refine hR.mono ?_
      rintro e W4 ⟨hk, ⟨rfl, hJ4⟩ | ⟨rfl, hJx4⟩⟩
      · have hG4 := hk _ hG1
        gi_wp2
        exact ⟨⟨j + 1, by go_num, by omega, by rw [htk.out]; exact hJ4, by exact_mod_cast hG4⟩, by simp [intOf]; omega⟩
      · have hG4 := hk _ hG1
        gi_wp2
        refine bodyPost_ret (results_none rfl _ _ _) rfl ?_
        exact ⟨⟨_, rfl⟩, j + 1, by omega, by exact_mod_cast hG4, .inr (by rw [htk.out]; exact hJx4)⟩
    · obtain rfl : j = vs.length := by omega
      gi_wp2
      go_end0
      rw [List.take_length] at hJ
      exact ⟨⟨_, rfl⟩, vs.length, by omega, hGj, .inl ⟨rfl, hJ⟩⟩

end Go.Proofs.YtnmcniibcjjflaaDoor
