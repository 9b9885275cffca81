import Derived.Test.YtakcdgeanbpllaaGreatDoorDnA
/- appendWord, size, bytes. -/
namespace Go.Proofs.YtakcdgeanbpllaaGreatDoor.DJ
open Go.RowKit

def StopJ (P : Prop) : Prop := P
theorem stopJ {P : Prop} (h : StopJ P) : P := h
theorem byts4 (w : World) (n : Nat) (hn : n < 4294967296) : Byts (w.alloc (.cells #[.int .u8 ((n : Int) % 256), .int .u8 ((n : Int) / 256 % 256), .int .u8 ((n : Int) / 65536 % 256), .int .u8 ((n : Int) / 16777216)] 5)) (some ⟨w.heap.size, 0, none⟩) (four n) := by
  have hr := heap_new w (.cells #[.int .u8 ((n : Int) % 256), .int .u8 ((n : Int) / 256 % 256), .int .u8 ((n : Int) / 65536 % 256), .int .u8 ((n : Int) / 16777216)] 5)
  refine ⟨fun x hx => four_byte hx, .inr ⟨w.heap.size, 0, rfl, by simp, fun i hi => ?_⟩⟩
  rw [four_len] at hi
  rw [Nat.zero_add]
  rcases (by omega : i = 0 ∨ i = 1 ∨ i = 2 ∨ i = 3) with rfl | rfl | rfl | rfl
  · exact (cell_of_row _ _ 0 _ _ _ hr).trans (by simp [four])
  · exact (cell_of_row _ _ 1 _ _ _ hr).trans (by simp [four])
  · exact (cell_of_row _ _ 2 _ _ _ hr).trans (by simp [four])
  · refine (cell_of_row _ _ 3 _ _ _ hr).trans ?_
    have : (n : Int) / 16777216 = ((n / 16777216 % 256 : Nat) : Int) := by omega
    simp only [four, List.getElem_cons_succ, List.getElem_cons_zero, ← this]
    rfl
theorem own_new {w : World} {base : Nat} {v : Value} {n : Nat} {xs : List Value} (h : w.ownsRow base 5 1 v n xs) (o : Obj) : (w.alloc o).ownsRow base 5 1 v n xs := (GrS.of_below (S := fun _ => False) ((Below.refl _ _).alloc (Nat.le_refl _) o)).own h (fun _ _ h => h)
theorem below_own {base : Nat} {w w1 w2 : World} {v : Value} {n : Nat} {xs : List Value} (hb : Below base w w1) (hg : w1.grownBy w2 v.ownBlock) (hv : w1.ownsRow base 5 1 v n xs) (hbase : base ≤ w1.heap.size) : Below base w w2 := hb.grown hg hbase (fun _ hk => (own_row hv hk).1)

set_option maxRecDepth 4000 in
set_option maxHeartbeats 1000000 in
theorem appendWord_any (n : Nat) (hn : n < 4294967296) (v : Value) (xs : List Nat) (base : Nat) (w : World) (hb : base ≤ w.heap.size) (hv : w.ownsRow base 5 1 v xs.length (bysV xs)) (hlen : xs.length ≤ 100000000) :
    Calls Tryz.prog 58 #[v, .int .u32 (n : Int)] w fun e w' => ∃ v', e = .returned v' ∧ w'.ownsRow base 5 1 v' (xs.length + 4) (bysV (xs ++ four n)) ∧ Below base w w' := by
  have hn0 : (0 : Int) ≤ (n : Int) := by omega
  have hn1 : (n : Int) < 4294967296 := by omega
  have hB := byts4 w n hn
  have hv1 := own_new hv (.cells #[.int .u8 ((n : Int) % 256), .int .u8 ((n : Int) / 256 % 256), .int .u8 ((n : Int) / 65536 % 256), .int .u8 ((n : Int) / 16777216)] 5)
  have hb1 : Below base w (w.alloc (.cells #[.int .u8 ((n : Int) % 256), .int .u8 ((n : Int) / 256 % 256), .int .u8 ((n : Int) / 65536 % 256), .int .u8 ((n : Int) / 16777216)] 5)) := (Below.refl _ _).alloc hb _
  have hs1 : base ≤ (w.alloc (.cells #[.int .u8 ((n : Int) % 256), .int .u8 ((n : Int) / 256 % 256), .int .u8 ((n : Int) / 65536 % 256), .int .u8 ((n : Int) / 16777216)] 5)).heap.size := by simp; omega
  go_enter Tryz.func58, Tryz.ntmps58
  go_wp2_with (at_builtin; go_loud (refine wpList_layN _ rfl _ _ rfl base hs1 v xs rfl hv1 (some ⟨w.heap.size, 0, none⟩) 4 (four n) rfl (by simp) hB (by rw [four_len]; omega) ?_); intro v1 w1 ho1 hg1 _)
  go_ret
  exact ⟨v1, rfl, ho1, below_own hb1 hg1 hv1 hs1⟩

set_option maxRecDepth 4000 in
set_option maxHeartbeats 1000000 in
theorem psize_any (s k : Int) (a : Option Addr) (n c : Nat) (hn : n ≤ 100000000) (w : World) :
    Calls Tryz.prog 57 #[.agg #[.int .u32 s, .int .u8 k, .slice a n c]] w fun e w' => e = .returned (.int .i64 (18 + n : Nat)) ∧ Below w.heap.size w w' := by
  have hn' : (n : Int) ≤ 100000000 := by omega
  have hn0 : (0 : Int) ≤ (n : Int) := by omega
  have hb1 := (Below.refl w.heap.size w).alloc (Nat.le_refl _) (.cells #[.int .u32 s, .int .u8 k, .slice a n c] 82)
  have hr := heap_new w (.cells #[.int .u32 s, .int .u8 k, .slice a n c] 82)
  have c2 := cell_of_row _ _ 2 _ _ _ hr
  simp only [List.getElem?_toArray, List.getElem?_cons_zero, List.getElem?_cons_succ] at c2
  go_enter Tryz.func57, Tryz.ntmps57
  go_wp2
  go_ret
  exact ⟨congrArg (fun z => Ending.returned (.int .i64 z)) (by omega), hb1⟩
end Go.Proofs.YtakcdgeanbpllaaGreatDoor.DJ
