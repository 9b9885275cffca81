import Derived.Test.YthbojlbgjmecoaaGreatProg
import Derived.WalkKit
import Derived.WalkSpells
import Derived.WalkLawsBesides
import Derived.Deep.QuietTactic
import Derived.BigQuiet
import Derived.Test.YthbojlbgjmecoaaGreatJoin29
import Derived.Laws.ResultCell
import Derived.Laws.Rows
import Derived.Deep.SlicePairs
namespace Go.Proofs.YthbojlbgjmecoaaGreat
open Go.RowKit

set_option maxHeartbeats 1000000 in
theorem holdBytes_nil (R : Nat) (W : World) (c : W.cell? ⟨R, 0, none⟩ = some (.slice none 0 0)) : Calls Tryz.prog 43 #[.pointer (some ⟨R, 0, none⟩)] W fun e W' => e = .returned (.bool true) ∧ Below W.heap.size W W' := by
  go_enter Tryz.func43, Tryz.ntmps43
  go_wp2
  refine wp_loop_rounds 1 ?_
  rw [rounds_succ]
  have c2 := fun o => ((Below.refl W.heap.size W).alloc (Nat.le_refl _) o).cell (p := ⟨R, 0, none⟩) (World.block_lt_of_cell? _ _ c)
  simp only [c] at c2
  go_wp2
  go_ret
  exact ⟨rfl, (Below.refl _ _).alloc (Nat.le_refl _) _⟩

set_option maxHeartbeats 1000000 in
theorem holdInts_nil (R : Nat) (W : World) (c : W.cell? ⟨R, 1, none⟩ = some (.slice none 0 0)) : Calls Tryz.prog 44 #[.pointer (some ⟨R, 0, none⟩)] W fun e W' => e = .returned (.bool true) ∧ Below W.heap.size W W' := by
  go_enter Tryz.func44, Tryz.ntmps44
  go_wp2
  refine wp_loop_rounds 1 ?_
  rw [rounds_succ]
  have c2 := fun o => ((Below.refl W.heap.size W).alloc (Nat.le_refl _) o).cell (p := ⟨R, 1, none⟩) (World.block_lt_of_cell? _ _ c)
  simp only [c] at c2
  go_wp2
  go_ret
  exact ⟨rfl, (Below.refl _ _).alloc (Nat.le_refl _) _⟩

set_option maxHeartbeats 1000000 in
theorem holdCells_nil (R : Nat) (W : World) (c : W.cell? ⟨R, 2, none⟩ = some (.slice none 0 0)) : Calls Tryz.prog 45 #[.pointer (some ⟨R, 0, none⟩)] W fun e W' => e = .returned (.bool true) ∧ Below W.heap.size W W' := by
  go_enter Tryz.func45, Tryz.ntmps45
  go_wp2
  refine wp_loop_rounds 1 ?_
  rw [rounds_succ]
  have c2 := fun o => ((Below.refl W.heap.size W).alloc (Nat.le_refl _) o).cell (p := ⟨R, 2, none⟩) (World.block_lt_of_cell? _ _ c)
  simp only [c] at c2
  go_wp2
  go_ret
  exact ⟨rfl, (Below.refl _ _).alloc (Nat.le_refl _) _⟩

set_option maxHeartbeats 1000000 in
theorem holdBools_nil (R : Nat) (W : World) (c : W.cell? ⟨R, 3, none⟩ = some (.slice none 0 0)) : Calls Tryz.prog 46 #[.pointer (some ⟨R, 0, none⟩)] W fun e W' => e = .returned (.bool true) ∧ Below W.heap.size W W' := by
  go_enter Tryz.func46, Tryz.ntmps46
  go_wp2
  refine wp_loop_rounds 1 ?_
  rw [rounds_succ]
  have c2 := fun o => ((Below.refl W.heap.size W).alloc (Nat.le_refl _) o).cell (p := ⟨R, 3, none⟩) (World.block_lt_of_cell? _ _ c)
  simp only [c] at c2
  go_wp2
  go_ret
  exact ⟨rfl, (Below.refl _ _).alloc (Nat.le_refl _) _⟩

set_option maxHeartbeats 1000000 in
theorem holdTexts_nil (R : Nat) (W : World) (c : W.cell? ⟨R, 4, none⟩ = some (.slice none 0 0)) : Calls Tryz.prog 47 #[.pointer (some ⟨R, 0, none⟩)] W fun e W' => e = .returned (.bool true) ∧ Below W.heap.size W W' := by
  go_enter Tryz.func47, Tryz.ntmps47
  go_wp2
  refine wp_loop_rounds 1 ?_
  rw [rounds_succ]
  have c2 := fun o => ((Below.refl W.heap.size W).alloc (Nat.le_refl _) o).cell (p := ⟨R, 4, none⟩) (World.block_lt_of_cell? _ _ c)
  simp only [c] at c2
  go_wp2
  go_ret
  exact ⟨rfl, (Below.refl _ _).alloc (Nat.le_refl _) _⟩

set_option maxHeartbeats 1000000 in
theorem holdValues_nil (R : Nat) (W : World) (c : W.cell? ⟨R, 5, none⟩ = some (.slice none 0 0)) : Calls Tryz.prog 48 #[.pointer (some ⟨R, 0, none⟩)] W fun e W' => e = .returned (.bool true) ∧ Below W.heap.size W W' := by
  go_enter Tryz.func48, Tryz.ntmps48
  go_wp2
  refine wp_loop_rounds 1 ?_
  rw [rounds_succ]
  have c2 := fun o => ((Below.refl W.heap.size W).alloc (Nat.le_refl _) o).cell (p := ⟨R, 5, none⟩) (World.block_lt_of_cell? _ _ c)
  simp only [c] at c2
  go_wp2
  go_ret
  exact ⟨rfl, (Below.refl _ _).alloc (Nat.le_refl _) _⟩

set_option maxHeartbeats 1000000 in
theorem holdBands_nil (R : Nat) (W : World) (c : W.cell? ⟨R, 6, none⟩ = some (.slice none 0 0)) : Calls Tryz.prog 49 #[.pointer (some ⟨R, 0, none⟩)] W fun e W' => e = .returned (.bool true) ∧ Below W.heap.size W W' := by
  go_enter Tryz.func49, Tryz.ntmps49
  go_wp2
  refine wp_loop_rounds 1 ?_
  rw [rounds_succ]
  have c2 := fun o => ((Below.refl W.heap.size W).alloc (Nat.le_refl _) o).cell (p := ⟨R, 6, none⟩) (World.block_lt_of_cell? _ _ c)
  simp only [c] at c2
  go_wp2
  go_ret
  exact ⟨rfl, (Below.refl _ _).alloc (Nat.le_refl _) _⟩

set_option maxHeartbeats 1000000 in
theorem holdTokens_nil (R : Nat) (W : World) (c : W.cell? ⟨R, 7, none⟩ = some (.slice none 0 0)) : Calls Tryz.prog 50 #[.pointer (some ⟨R, 0, none⟩)] W fun e W' => e = .returned (.bool true) ∧ Below W.heap.size W W' := by
  go_enter Tryz.func50, Tryz.ntmps50
  go_wp2
  refine wp_loop_rounds 1 ?_
  rw [rounds_succ]
  have c2 := fun o => ((Below.refl W.heap.size W).alloc (Nat.le_refl _) o).cell (p := ⟨R, 7, none⟩) (World.block_lt_of_cell? _ _ c)
  simp only [c] at c2
  go_wp2
  go_ret
  exact ⟨rfl, (Below.refl _ _).alloc (Nat.le_refl _) _⟩

set_option maxHeartbeats 1000000 in
theorem holdReads_nil (R : Nat) (W : World) (c : W.cell? ⟨R, 8, none⟩ = some (.slice none 0 0)) : Calls Tryz.prog 51 #[.pointer (some ⟨R, 0, none⟩)] W fun e W' => e = .returned (.bool true) ∧ Below W.heap.size W W' := by
  go_enter Tryz.func51, Tryz.ntmps51
  go_wp2
  refine wp_loop_rounds 1 ?_
  rw [rounds_succ]
  have c2 := fun o => ((Below.refl W.heap.size W).alloc (Nat.le_refl _) o).cell (p := ⟨R, 8, none⟩) (World.block_lt_of_cell? _ _ c)
  simp only [c] at c2
  go_wp2
  go_ret
  exact ⟨rfl, (Below.refl _ _).alloc (Nat.le_refl _) _⟩

set_option maxHeartbeats 1000000 in
theorem holdConflicts_nil (R : Nat) (W : World) (c : W.cell? ⟨R, 9, none⟩ = some (.slice none 0 0)) : Calls Tryz.prog 52 #[.pointer (some ⟨R, 0, none⟩)] W fun e W' => e = .returned (.bool true) ∧ Below W.heap.size W W' := by
  go_enter Tryz.func52, Tryz.ntmps52
  go_wp2
  refine wp_loop_rounds 1 ?_
  rw [rounds_succ]
  have c2 := fun o => ((Below.refl W.heap.size W).alloc (Nat.le_refl _) o).cell (p := ⟨R, 9, none⟩) (World.block_lt_of_cell? _ _ c)
  simp only [c] at c2
  go_wp2
  go_ret
  exact ⟨rfl, (Below.refl _ _).alloc (Nat.le_refl _) _⟩

set_option maxHeartbeats 1000000 in
theorem holdPoints_nil (R : Nat) (W : World) (c : W.cell? ⟨R, 10, none⟩ = some (.slice none 0 0)) : Calls Tryz.prog 53 #[.pointer (some ⟨R, 0, none⟩)] W fun e W' => e = .returned (.bool true) ∧ Below W.heap.size W W' := by
  go_enter Tryz.func53, Tryz.ntmps53
  go_wp2
  refine wp_loop_rounds 1 ?_
  rw [rounds_succ]
  have c2 := fun o => ((Below.refl W.heap.size W).alloc (Nat.le_refl _) o).cell (p := ⟨R, 10, none⟩) (World.block_lt_of_cell? _ _ c)
  simp only [c] at c2
  go_wp2
  go_ret
  exact ⟨rfl, (Below.refl _ _).alloc (Nat.le_refl _) _⟩

set_option maxHeartbeats 1000000 in
theorem holdNodes_nil (R : Nat) (W : World) (c : W.cell? ⟨R, 11, none⟩ = some (.slice none 0 0)) : Calls Tryz.prog 54 #[.pointer (some ⟨R, 0, none⟩)] W fun e W' => e = .returned (.bool true) ∧ Below W.heap.size W W' := by
  go_enter Tryz.func54, Tryz.ntmps54
  go_wp2
  refine wp_loop_rounds 1 ?_
  rw [rounds_succ]
  have c2 := fun o => ((Below.refl W.heap.size W).alloc (Nat.le_refl _) o).cell (p := ⟨R, 11, none⟩) (World.block_lt_of_cell? _ _ c)
  simp only [c] at c2
  go_wp2
  go_ret
  exact ⟨rfl, (Below.refl _ _).alloc (Nat.le_refl _) _⟩

set_option maxHeartbeats 1000000 in
theorem holdRecords_nil (R : Nat) (W : World) (c : W.cell? ⟨R, 12, none⟩ = some (.slice none 0 0)) : Calls Tryz.prog 55 #[.pointer (some ⟨R, 0, none⟩)] W fun e W' => e = .returned (.bool true) ∧ Below W.heap.size W W' := by
  go_enter Tryz.func55, Tryz.ntmps55
  go_wp2
  refine wp_loop_rounds 1 ?_
  rw [rounds_succ]
  have c2 := fun o => ((Below.refl W.heap.size W).alloc (Nat.le_refl _) o).cell (p := ⟨R, 12, none⟩) (World.block_lt_of_cell? _ _ c)
  simp only [c] at c2
  go_wp2
  go_ret
  exact ⟨rfl, (Below.refl _ _).alloc (Nat.le_refl _) _⟩

set_option maxHeartbeats 1000000 in
theorem holdFiles_nil (R : Nat) (W : World) (c : W.cell? ⟨R, 13, none⟩ = some (.slice none 0 0)) : Calls Tryz.prog 56 #[.pointer (some ⟨R, 0, none⟩)] W fun e W' => e = .returned (.bool true) ∧ Below W.heap.size W W' := by
  go_enter Tryz.func56, Tryz.ntmps56
  go_wp2
  refine wp_loop_rounds 1 ?_
  rw [rounds_succ]
  have c2 := fun o => ((Below.refl W.heap.size W).alloc (Nat.le_refl _) o).cell (p := ⟨R, 13, none⟩) (World.block_lt_of_cell? _ _ c)
  simp only [c] at c2
  go_wp2
  go_ret
  exact ⟨rfl, (Below.refl _ _).alloc (Nat.le_refl _) _⟩

set_option maxHeartbeats 1000000 in
theorem holdExprs_nil (R : Nat) (W : World) (c : W.cell? ⟨R, 14, none⟩ = some (.slice none 0 0)) : Calls Tryz.prog 57 #[.pointer (some ⟨R, 0, none⟩)] W fun e W' => e = .returned (.bool true) ∧ Below W.heap.size W W' := by
  go_enter Tryz.func57, Tryz.ntmps57
  go_wp2
  refine wp_loop_rounds 1 ?_
  rw [rounds_succ]
  have c2 := fun o => ((Below.refl W.heap.size W).alloc (Nat.le_refl _) o).cell (p := ⟨R, 14, none⟩) (World.block_lt_of_cell? _ _ c)
  simp only [c] at c2
  go_wp2
  go_ret
  exact ⟨rfl, (Below.refl _ _).alloc (Nat.le_refl _) _⟩

set_option maxHeartbeats 1000000 in
theorem holdClauses_nil (R : Nat) (W : World) (c : W.cell? ⟨R, 15, none⟩ = some (.slice none 0 0)) : Calls Tryz.prog 58 #[.pointer (some ⟨R, 0, none⟩)] W fun e W' => e = .returned (.bool true) ∧ Below W.heap.size W W' := by
  go_enter Tryz.func58, Tryz.ntmps58
  go_wp2
  refine wp_loop_rounds 1 ?_
  rw [rounds_succ]
  have c2 := fun o => ((Below.refl W.heap.size W).alloc (Nat.le_refl _) o).cell (p := ⟨R, 15, none⟩) (World.block_lt_of_cell? _ _ c)
  simp only [c] at c2
  go_wp2
  go_ret
  exact ⟨rfl, (Below.refl _ _).alloc (Nat.le_refl _) _⟩

set_option maxHeartbeats 1000000 in
theorem holdLines_nil (R : Nat) (W : World) (c : W.cell? ⟨R, 16, none⟩ = some (.slice none 0 0)) : Calls Tryz.prog 59 #[.pointer (some ⟨R, 0, none⟩)] W fun e W' => e = .returned (.bool true) ∧ Below W.heap.size W W' := by
  go_enter Tryz.func59, Tryz.ntmps59
  go_wp2
  refine wp_loop_rounds 1 ?_
  rw [rounds_succ]
  have c2 := fun o => ((Below.refl W.heap.size W).alloc (Nat.le_refl _) o).cell (p := ⟨R, 16, none⟩) (World.block_lt_of_cell? _ _ c)
  simp only [c] at c2
  go_wp2
  go_ret
  exact ⟨rfl, (Below.refl _ _).alloc (Nat.le_refl _) _⟩

set_option maxHeartbeats 1000000 in
theorem holdChecks_nil (R : Nat) (W : World) (c : W.cell? ⟨R, 17, none⟩ = some (.slice none 0 0)) : Calls Tryz.prog 60 #[.pointer (some ⟨R, 0, none⟩)] W fun e W' => e = .returned (.bool true) ∧ Below W.heap.size W W' := by
  go_enter Tryz.func60, Tryz.ntmps60
  go_wp2
  refine wp_loop_rounds 1 ?_
  rw [rounds_succ]
  have c2 := fun o => ((Below.refl W.heap.size W).alloc (Nat.le_refl _) o).cell (p := ⟨R, 17, none⟩) (World.block_lt_of_cell? _ _ c)
  simp only [c] at c2
  go_wp2
  go_ret
  exact ⟨rfl, (Below.refl _ _).alloc (Nat.le_refl _) _⟩

set_option maxHeartbeats 1000000 in
theorem holdOptions_nil (R : Nat) (W : World) (c : W.cell? ⟨R, 18, none⟩ = some (.slice none 0 0)) : Calls Tryz.prog 61 #[.pointer (some ⟨R, 0, none⟩)] W fun e W' => e = .returned (.bool true) ∧ Below W.heap.size W W' := by
  go_enter Tryz.func61, Tryz.ntmps61
  go_wp2
  refine wp_loop_rounds 1 ?_
  rw [rounds_succ]
  have c2 := fun o => ((Below.refl W.heap.size W).alloc (Nat.le_refl _) o).cell (p := ⟨R, 18, none⟩) (World.block_lt_of_cell? _ _ c)
  simp only [c] at c2
  go_wp2
  go_ret
  exact ⟨rfl, (Below.refl _ _).alloc (Nat.le_refl _) _⟩

set_option maxHeartbeats 1000000 in
theorem holdTables_nil (R : Nat) (W : World) (c : W.cell? ⟨R, 19, none⟩ = some (.slice none 0 0)) : Calls Tryz.prog 62 #[.pointer (some ⟨R, 0, none⟩)] W fun e W' => e = .returned (.bool true) ∧ Below W.heap.size W W' := by
  go_enter Tryz.func62, Tryz.ntmps62
  go_wp2
  refine wp_loop_rounds 1 ?_
  rw [rounds_succ]
  have c2 := fun o => ((Below.refl W.heap.size W).alloc (Nat.le_refl _) o).cell (p := ⟨R, 19, none⟩) (World.block_lt_of_cell? _ _ c)
  simp only [c] at c2
  go_wp2
  go_ret
  exact ⟨rfl, (Below.refl _ _).alloc (Nat.le_refl _) _⟩

set_option maxHeartbeats 1000000 in
theorem holdGroups_nil (R : Nat) (W : World) (c : W.cell? ⟨R, 20, none⟩ = some (.slice none 0 0)) : Calls Tryz.prog 63 #[.pointer (some ⟨R, 0, none⟩)] W fun e W' => e = .returned (.bool true) ∧ Below W.heap.size W W' := by
  go_enter Tryz.func63, Tryz.ntmps63
  go_wp2
  refine wp_loop_rounds 1 ?_
  rw [rounds_succ]
  have c2 := fun o => ((Below.refl W.heap.size W).alloc (Nat.le_refl _) o).cell (p := ⟨R, 20, none⟩) (World.block_lt_of_cell? _ _ c)
  simp only [c] at c2
  go_wp2
  go_ret
  exact ⟨rfl, (Below.refl _ _).alloc (Nat.le_refl _) _⟩

end Go.Proofs.YthbojlbgjmecoaaGreat


/- appendWord, size, bytes. -/
namespace Go.Proofs.YthbojlbgjmecoaaGreat.DJ
open Go.RowKit

def StopJ (P : Prop) : Prop := P
theorem stopJ {P : Prop} (h : StopJ P) : P := h
theorem byts4 (w : World) (n : Nat) (hn : n < 4294967296) : Byts (w.alloc (.cells #[.int .u8 ((n : Int) % 256), .int .u8 ((n : Int) / 256 % 256), .int .u8 ((n : Int) / 65536 % 256), .int .u8 ((n : Int) / 16777216)] 5)) (some ⟨w.heap.size, 0, none⟩) (four n) := by
  have hr := heap_new w (.cells #[.int .u8 ((n : Int) % 256), .int .u8 ((n : Int) / 256 % 256), .int .u8 ((n : Int) / 65536 % 256), .int .u8 ((n : Int) / 16777216)] 5)
  refine ⟨fun x hx => four_byte hx, .inr ⟨w.heap.size, 0, rfl, by simp, fun i hi => ?_⟩⟩
  rw [four_len] at hi
  rw [Nat.zero_add]
  rcases (by omega : i = 0 ∨ i = 1 ∨ i = 2 ∨ i = 3) with rfl | rfl | rfl | rfl
  · exact (cell_of_row _ _ 0 _ _ _ hr).trans (by simp [four])
  · exact (cell_of_row _ _ 1 _ _ _ hr).trans (by simp [four])
  · exact (cell_of_row _ _ 2 _ _ _ hr).trans (by simp [four])
  · refine (cell_of_row _ _ 3 _ _ _ hr).trans ?_
    have : (n : Int) / 16777216 = ((n / 16777216 % 256 : Nat) : Int) := by omega
    simp only [four, List.getElem_cons_succ, List.getElem_cons_zero, ← this]
    rfl
theorem own_new {w : World} {base : Nat} {v : Value} {n : Nat} {xs : List Value} (h : w.ownsRow base 5 1 v n xs) (o : Obj) : (w.alloc o).ownsRow base 5 1 v n xs := (GrS.of_below (S := fun _ => False) ((Below.refl _ _).alloc (Nat.le_refl _) o)).own h (fun _ _ h => h)
theorem below_own {base : Nat} {w w1 w2 : World} {v : Value} {n : Nat} {xs : List Value} (hb : Below base w w1) (hg : w1.grownBy w2 v.ownBlock) (hv : w1.ownsRow base 5 1 v n xs) (hbase : base ≤ w1.heap.size) : Below base w w2 := hb.grown hg hbase (fun _ hk => (own_row hv hk).1)

end Go.Proofs.YthbojlbgjmecoaaGreat.DJ


/- bytes: a piece as it stands in its file. -/
namespace Go.Proofs.YthbojlbgjmecoaaGreat.DJ
open Go.RowKit

theorem own_app {w : World} {base : Nat} {v : Value} {xs ys : List Nat} {n : Nat} (h : w.ownsRow base 5 1 v (xs.length + n) (bysV (xs ++ ys))) (hn : ys.length = n) : w.ownsRow base 5 1 v (xs ++ ys).length (bysV (xs ++ ys)) := by
  rw [List.length_append, hn]; exact h
theorem byts1 (w : World) (k : Nat) (hk : k < 256) : Byts (w.alloc (.cells #[.int .u8 (k : Int)] 5)) (some ⟨w.heap.size, 0, none⟩) [k] := by
  refine ⟨fun x hx => by simp at hx; omega, .inr ⟨w.heap.size, 0, rfl, by simp, fun i hi => ?_⟩⟩
  obtain rfl : i = 0 := by simp at hi; exact hi
  exact cell_of_row _ _ 0 _ _ _ (heap_new w _)
theorem piece_is (num sum kind : Nat) (body : List Nat) : ((((([] ++ [82]) ++ four num) ++ four sum) ++ four body.length) ++ [kind]) ++ body = body0 num sum kind body := by
  simp [body0]

end Go.Proofs.YthbojlbgjmecoaaGreat.DJ


/- pieceAt: the last part. -/
namespace Go.Proofs.YthbojlbgjmecoaaGreat.DJ
open Go.RowKit

theorem results_cell2 {P : Program} {fn : Func} {p u : Tmp} {ty : TypeId} (h : fn.results = #[.cell p ty, .tmp u]) (tmps : Array Value) (w : World) (g : Nat) (t : TypeId) (cs : Array Value) (fr : Nat × Nat) (d : TypeDesc)
    (hp : tmps.getD p undef = .pointer (some ⟨g, 0, none⟩)) (hg : w.heap[g]? = some (.cells cs t fr)) (hu : P.underlying ty = some d) (hd : (match d with | .struct _ | .array _ _ => true | _ => false) = true) (hi : (P.info? ty).map (·.size) = some cs.size) :
    (results fn tmps).run P w = .ok (.tuple #[.agg cs, tmps.getD u undef]) w := by
  rw [results_cell_tmp h, hp]
  simp [asAddr, run_loadVar_row w g t ty cs fr d hg hu hd hi]

/-- What pieceAt answers. -/
def PcP (bs : List Nat) (num : Nat) (a : Option Addr) (w : World) (e : Ending) (w' : World) : Prop :=
  Below w.heap.size w w' ∧ match whole bs num with
    | none => e = .returned (.tuple #[.agg #[.int .u32 0, .int .u8 0, .slice none 0 0], .bool false])
    | some (s, k, bd) => ∃ b off c, a = some ⟨b, off, none⟩ ∧ e = .returned (.tuple #[.agg #[.int .u32 (s : Int), .int .u8 (k : Int), .slice (some ⟨b, off + 14, none⟩) bd.length c], .bool true]) ∧ bd.length ≤ c
theorem whole_no {bs : List Nat} {num : Nat} (hn : num < 4294967296) (h : ¬ (18 ≤ bs.length ∧ bs.getD 0 0 = 82 ∧ told (bs.drop 1) = num ∧ told (bs.drop 9) ≤ 1048576 ∧ told (bs.drop 9) + 18 ≤ bs.length ∧ ¬ (num = 0 ∧ bs.getD 13 0 ≠ 0) ∧ told (bs.drop (14 + told (bs.drop 9))) = fnv (bs.take (14 + told (bs.drop 9))))) : whole bs num = none := by
  cases hw : whole bs num with
  | none => rfl
  | some t => exact absurd (whole_inv hn hw) h
theorem bset {n : Nat} {w X : World} (h : Below n w X) {b : Nat} (hb : n ≤ b) (o : Nat) (v : Value) : Below n w (X.setCell ⟨b, o, none⟩ v) := ⟨h.os, h.tape, h.output, by simp; exact h.size, fun k hk => (Below.heap_setCell _ _ _ k (by simp; omega)).trans (h.block k hk)⟩
theorem row3 {X : World} {b : Nat} {t : TypeId} {x0 x1 x2 : Value} (h : X.heap[b]? = some (.cells #[x0, x1, x2] t (0, 0))) (v0 v1 v2 : Value) : (((X.setCell ⟨b, 0, none⟩ v0).setCell ⟨b, 1, none⟩ v1).setCell ⟨b, 2, none⟩ v2).heap[b]? = some (.cells #[v0, v1, v2] t (0, 0)) :=
  heap_setCell_same _ _ 2 _ _ _ (heap_setCell_same _ _ 1 _ _ _ (heap_setCell_same _ _ 0 _ _ _ h))
theorem useP {P Q : Prop} (h : P) (k : P → Q) : Q := k h
end Go.Proofs.YthbojlbgjmecoaaGreat.DJ
