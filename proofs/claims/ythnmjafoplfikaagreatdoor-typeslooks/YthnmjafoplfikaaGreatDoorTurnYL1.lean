import Derived.Test.YthnmjafoplfikaaGreatDoorTurnYP
namespace Go.Proofs.YthnmjafoplfikaaGreatDoor
open Go.RowKit

/-- A call that only looks: what it answers; nothing below is changed. -/
def Lk (v : Value) (W : World) (e : Ending) (W' : World) : Prop := e = .returned v ∧ Below W.heap.size W W'
theorem at?_some {α : Type} {l : List α} {n : Int} (h0 : 0 ≤ n) (h1 : n < l.length) : at? l n = some (l[n.toNat]'(by omega)) := by
  unfold at?
  rw [if_pos h0, List.getElem?_eq_getElem]
theorem at?_none {α : Type} {l : List α} {n : Int} (h : ¬ (0 ≤ n ∧ n < l.length)) : at? l n = none := by
  unfold at?
  by_cases h0 : 0 ≤ n
  · rw [if_pos h0, List.getElem?_eq_none]
    omega
  · rw [if_neg h0]
theorem at?_is {α : Type} (l : List α) (n : Int) : (at? l n).isSome = (decide (0 ≤ n) && decide (n < l.length)) := by
  by_cases h : 0 ≤ n ∧ n < l.length
  · rw [at?_some h.1 h.2]
    simp [h.1, h.2]
  · rw [at?_none h]
    by_cases h0 : 0 ≤ n
    · have : ¬ n < l.length := fun h1 => h ⟨h0, h1⟩
      simp [h0, this]
    · simp [h0]
set_option maxRecDepth 20000 in
theorem has_grp (a : Option Addr) (l c : Nat) (n : Int) (W : World) : Calls Tryz.prog 70 #[.slice a l c, .int .i64 n] W (Lk (.bool (decide (0 ≤ n) && decide (n < l))) W) := by
  have hfin : Lk (.bool (decide (0 ≤ n) && decide (n < l))) W (.returned (.bool (decide (0 ≤ n) && decide (n < l)))) W := ⟨rfl, Below.refl _ _⟩
  by_cases h0 : 0 ≤ n
  · rw [decide_eq_true h0, Bool.true_and] at hfin ⊢
    go_enter Tryz.func70, Tryz.ntmps70
    go_wp2
    go_ret
    exact hfin
  · rw [decide_eq_false h0, Bool.false_and] at hfin ⊢
    have h0' : n < 0 := by omega
    go_enter Tryz.func70, Tryz.ntmps70
    go_wp2
    go_ret
    exact hfin
set_option maxRecDepth 20000 in
theorem has_lns (a : Option Addr) (l c : Nat) (n : Int) (W : World) : Calls Tryz.prog 27 #[.slice a l c, .int .i64 n] W (Lk (.bool (decide (0 ≤ n) && decide (n < l))) W) := by
  have hfin : Lk (.bool (decide (0 ≤ n) && decide (n < l))) W (.returned (.bool (decide (0 ≤ n) && decide (n < l)))) W := ⟨rfl, Below.refl _ _⟩
  by_cases h0 : 0 ≤ n
  · rw [decide_eq_true h0, Bool.true_and] at hfin ⊢
    go_enter Tryz.func27, Tryz.ntmps27
    go_wp2
    go_ret
    exact hfin
  · rw [decide_eq_false h0, Bool.false_and] at hfin ⊢
    have h0' : n < 0 := by omega
    go_enter Tryz.func27, Tryz.ntmps27
    go_wp2
    go_ret
    exact hfin
set_option maxRecDepth 20000 in
theorem has_tab (a : Option Addr) (l c : Nat) (n : Int) (W : World) : Calls Tryz.prog 123 #[.slice a l c, .int .i64 n] W (Lk (.bool (decide (0 ≤ n) && decide (n < l))) W) := by
  have hfin : Lk (.bool (decide (0 ≤ n) && decide (n < l))) W (.returned (.bool (decide (0 ≤ n) && decide (n < l)))) W := ⟨rfl, Below.refl _ _⟩
  by_cases h0 : 0 ≤ n
  · rw [decide_eq_true h0, Bool.true_and] at hfin ⊢
    go_enter Tryz.func123, Tryz.ntmps123
    go_wp2
    go_ret
    exact hfin
  · rw [decide_eq_false h0, Bool.false_and] at hfin ⊢
    have h0' : n < 0 := by omega
    go_enter Tryz.func123, Tryz.ntmps123
    go_wp2
    go_ret
    exact hfin
set_option maxRecDepth 20000 in
theorem has_opt (a : Option Addr) (l c : Nat) (n : Int) (W : World) : Calls Tryz.prog 25 #[.slice a l c, .int .i64 n] W (Lk (.bool (decide (0 ≤ n) && decide (n < l))) W) := by
  have hfin : Lk (.bool (decide (0 ≤ n) && decide (n < l))) W (.returned (.bool (decide (0 ≤ n) && decide (n < l)))) W := ⟨rfl, Below.refl _ _⟩
  by_cases h0 : 0 ≤ n
  · rw [decide_eq_true h0, Bool.true_and] at hfin ⊢
    go_enter Tryz.func25, Tryz.ntmps25
    go_wp2
    go_ret
    exact hfin
  · rw [decide_eq_false h0, Bool.false_and] at hfin ⊢
    have h0' : n < 0 := by omega
    go_enter Tryz.func25, Tryz.ntmps25
    go_wp2
    go_ret
    exact hfin
set_option maxRecDepth 20000 in
theorem has_str (a : Option Addr) (l c : Nat) (n : Int) (W : World) : Calls Tryz.prog 69 #[.slice a l c, .int .i64 n] W (Lk (.bool (decide (0 ≤ n) && decide (n < l))) W) := by
  have hfin : Lk (.bool (decide (0 ≤ n) && decide (n < l))) W (.returned (.bool (decide (0 ≤ n) && decide (n < l)))) W := ⟨rfl, Below.refl _ _⟩
  by_cases h0 : 0 ≤ n
  · rw [decide_eq_true h0, Bool.true_and] at hfin ⊢
    go_enter Tryz.func69, Tryz.ntmps69
    go_wp2
    go_ret
    exact hfin
  · rw [decide_eq_false h0, Bool.false_and] at hfin ⊢
    have h0' : n < 0 := by omega
    go_enter Tryz.func69, Tryz.ntmps69
    go_wp2
    go_ret
    exact hfin
set_option maxRecDepth 20000 in
theorem kin_any (k o s : Int) (hk : isK k = true) (W : World) : Calls Tryz.prog 122 #[.agg #[.int .i64 k, .int .i64 o], .int .i64 s] W (Lk (.bool (inK k s)) W) := by
  have hfin : Lk (.bool (inK k s)) W (.returned (.bool (inK k s))) (W.alloc (.cells #[.int .i64 k, .int .i64 o] 163)) := ⟨rfl, (Below.refl _ _).alloc (Nat.le_refl _) _⟩
  have h5 : k = 1 ∨ k = 2 ∨ k = 3 ∨ k = 4 ∨ k = 5 := by simp [isK] at hk; omega
  rcases h5 with rfl | rfl | rfl | rfl | rfl
  · have e : inK 1 s = (bits BinOp.and IntKind.i64 s 2 != 0) := rfl
    rw [e] at hfin ⊢
    clear hk e
    go_enter Tryz.func122, Tryz.ntmps122
    go_wp2
    go_ret
    exact hfin
  · have e : inK 2 s = (bits BinOp.and IntKind.i64 s 4 != 0) := rfl
    rw [e] at hfin ⊢
    clear hk e
    go_enter Tryz.func122, Tryz.ntmps122
    go_wp2
    go_ret
    exact hfin
  · have e : inK 3 s = (bits BinOp.and IntKind.i64 s 8 != 0) := rfl
    rw [e] at hfin ⊢
    clear hk e
    go_enter Tryz.func122, Tryz.ntmps122
    go_wp2
    go_ret
    exact hfin
  · have e : inK 4 s = (bits BinOp.and IntKind.i64 s 16 != 0) := rfl
    rw [e] at hfin ⊢
    clear hk e
    go_enter Tryz.func122, Tryz.ntmps122
    go_wp2
    go_ret
    exact hfin
  · have e : inK 5 s = (bits BinOp.and IntKind.i64 s 32 != 0) := rfl
    rw [e] at hfin ⊢
    clear hk e
    go_enter Tryz.func122, Tryz.ntmps122
    go_wp2
    go_ret
    exact hfin
set_option maxRecDepth 20000 in
theorem isKind_any (n : Int) (W : World) : Calls Tryz.prog 28 #[.int .i64 n] W fun e W' => e = .returned (.bool (isK n)) ∧ W = W' := by
  unfold isK
  by_cases h0 : 1 ≤ n
  · rw [decide_eq_true h0, Bool.true_and]
    go_enter Tryz.func28, Tryz.ntmps28
    go_wp2
    go_ret
    exact ⟨rfl, rfl⟩
  · rw [decide_eq_false h0, Bool.false_and]
    have h0' : n < 1 := by omega
    go_enter Tryz.func28, Tryz.ntmps28
    go_wp2
    go_ret
    exact ⟨rfl, rfl⟩
set_option maxRecDepth 20000 in
theorem plain_any (n : Int) (W : World) : Calls Tryz.prog 114 #[.int .i64 n] W fun e W' => e = .returned (.agg #[.int .i64 n, .int .i64 (-1)]) ∧ W.alloc (.cells #[.int .i64 n, .int .i64 (-1)] 163) = W' := by
  go_enter Tryz.func114, Tryz.ntmps114
  go_wp2
  exact bodyPost_ret (v := .agg #[.int .i64 n, .int .i64 (-1)]) (by simp [results, Tryz.results114, go_sem]) rfl ⟨rfl, rfl⟩
end Go.Proofs.YthnmjafoplfikaaGreatDoor
