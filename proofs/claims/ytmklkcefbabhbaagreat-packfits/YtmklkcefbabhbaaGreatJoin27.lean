import Derived.Test.YtmklkcefbabhbaaGreatJoin25
/- The numbers of an expression. -/
namespace Go.Proofs.YtmklkcefbabhbaaGreat.R6
open Go.RowKit

set_option maxRecDepth 20000 in
set_option maxHeartbeats 4000000 in
theorem nu_m_24 (num den mode : Int) (args : Fo) (a : Option Addr) (c : Nat) (hm : (1 : Int) ≤ mode) (W : World) : Calls Tryz.prog 104 #[.agg #[.int .i64 24, .int .i64 num, .int .i64 den, .int .i64 mode, .slice a args.len c]] W (Lk (.bool (nuB ⟨24, num, den, mode, args⟩)) W) := by
  have hB : Below W.heap.size W (W.alloc (.cells #[.int .i64 24, .int .i64 num, .int .i64 den, .int .i64 mode, .slice a args.len c] 59)) := (Below.refl _ _).alloc (Nat.le_refl _) _
  have hnu : nuB ⟨24, num, den, mode, args⟩ = ((true) && (den == 0) && (mode == 0)) := by
    rfl
  rw [hnu]
  clear hnu
  cases hD : (den == 0) with
  | false =>
    go_enter Tryz.func104, Tryz.ntmps104
    go_wp2
    go_ret
    exact ⟨rfl, hB⟩
  | true =>
    go_enter Tryz.func104, Tryz.ntmps104
    go_wp2
    go_ret
    exact ⟨rfl, hB⟩
set_option maxRecDepth 20000 in
set_option maxHeartbeats 4000000 in
theorem nu_m_16 (num den mode : Int) (args : Fo) (a : Option Addr) (c : Nat) (hm : (1 : Int) ≤ mode) (W : World) : Calls Tryz.prog 104 #[.agg #[.int .i64 16, .int .i64 num, .int .i64 den, .int .i64 mode, .slice a args.len c]] W (Lk (.bool (nuB ⟨16, num, den, mode, args⟩)) W) := by
  have hB : Below W.heap.size W (W.alloc (.cells #[.int .i64 16, .int .i64 num, .int .i64 den, .int .i64 mode, .slice a args.len c] 59)) := (Below.refl _ _).alloc (Nat.le_refl _) _
  have hnu : nuB ⟨16, num, den, mode, args⟩ = ((wi num (-1000000000) 1000000000) && (wi den 1 1000000000) && (decide (mode ≤ 5))) := by
    rw [show (decide (mode ≤ 5)) = wi mode 1 5 by unfold wi; simp; try omega]
    rfl
  rw [hnu]
  clear hnu
  cases hN : (wi num (-1000000000) 1000000000) with
  | false =>
    cases hD : (wi den 1 1000000000) with
    | false =>
      have hwn : ∀ W, Calls Tryz.prog 108 #[.int .i64 num, .int .i64 (-1000000000), .int .i64 1000000000] W fun e W' => e = .returned (.bool false) ∧ W' = W := fun W => by
        have := within_any num (-1000000000) 1000000000 W
        rw [hN] at this
        exact this
      have hwd : ∀ W, Calls Tryz.prog 108 #[.int .i64 den, .int .i64 1, .int .i64 1000000000] W fun e W' => e = .returned (.bool false) ∧ W' = W := fun W => by
        have := within_any den 1 1000000000 W
        rw [hD] at this
        exact this
      go_enter Tryz.func104, Tryz.ntmps104
      go_wp2_with (first | (go_at_call 108; with_reducible refine (hwn _).mono ?_; rintro e w1 ⟨rfl, hw⟩; subst w1) | (go_at_call 108; with_reducible refine (hwd _).mono ?_; rintro e w1 ⟨rfl, hw⟩; subst w1))
      go_ret
      exact ⟨rfl, hB⟩
    | true =>
      have hwn : ∀ W, Calls Tryz.prog 108 #[.int .i64 num, .int .i64 (-1000000000), .int .i64 1000000000] W fun e W' => e = .returned (.bool false) ∧ W' = W := fun W => by
        have := within_any num (-1000000000) 1000000000 W
        rw [hN] at this
        exact this
      have hwd : ∀ W, Calls Tryz.prog 108 #[.int .i64 den, .int .i64 1, .int .i64 1000000000] W fun e W' => e = .returned (.bool true) ∧ W' = W := fun W => by
        have := within_any den 1 1000000000 W
        rw [hD] at this
        exact this
      go_enter Tryz.func104, Tryz.ntmps104
      go_wp2_with (first | (go_at_call 108; with_reducible refine (hwn _).mono ?_; rintro e w1 ⟨rfl, hw⟩; subst w1) | (go_at_call 108; with_reducible refine (hwd _).mono ?_; rintro e w1 ⟨rfl, hw⟩; subst w1))
      go_ret
      exact ⟨rfl, hB⟩
  | true =>
    cases hD : (wi den 1 1000000000) with
    | false =>
      have hwn : ∀ W, Calls Tryz.prog 108 #[.int .i64 num, .int .i64 (-1000000000), .int .i64 1000000000] W fun e W' => e = .returned (.bool true) ∧ W' = W := fun W => by
        have := within_any num (-1000000000) 1000000000 W
        rw [hN] at this
        exact this
      have hwd : ∀ W, Calls Tryz.prog 108 #[.int .i64 den, .int .i64 1, .int .i64 1000000000] W fun e W' => e = .returned (.bool false) ∧ W' = W := fun W => by
        have := within_any den 1 1000000000 W
        rw [hD] at this
        exact this
      go_enter Tryz.func104, Tryz.ntmps104
      go_wp2_with (first | (go_at_call 108; with_reducible refine (hwn _).mono ?_; rintro e w1 ⟨rfl, hw⟩; subst w1) | (go_at_call 108; with_reducible refine (hwd _).mono ?_; rintro e w1 ⟨rfl, hw⟩; subst w1))
      go_ret
      exact ⟨rfl, hB⟩
    | true =>
      have hwn : ∀ W, Calls Tryz.prog 108 #[.int .i64 num, .int .i64 (-1000000000), .int .i64 1000000000] W fun e W' => e = .returned (.bool true) ∧ W' = W := fun W => by
        have := within_any num (-1000000000) 1000000000 W
        rw [hN] at this
        exact this
      have hwd : ∀ W, Calls Tryz.prog 108 #[.int .i64 den, .int .i64 1, .int .i64 1000000000] W fun e W' => e = .returned (.bool true) ∧ W' = W := fun W => by
        have := within_any den 1 1000000000 W
        rw [hD] at this
        exact this
      go_enter Tryz.func104, Tryz.ntmps104
      go_wp2_with (first | (go_at_call 108; with_reducible refine (hwn _).mono ?_; rintro e w1 ⟨rfl, hw⟩; subst w1) | (go_at_call 108; with_reducible refine (hwd _).mono ?_; rintro e w1 ⟨rfl, hw⟩; subst w1))
      go_ret
      exact ⟨rfl, hB⟩
set_option maxRecDepth 20000 in
set_option maxHeartbeats 4000000 in
theorem nu_m_18 (num den mode : Int) (args : Fo) (a : Option Addr) (c : Nat) (hm : (1 : Int) ≤ mode) (W : World) : Calls Tryz.prog 104 #[.agg #[.int .i64 18, .int .i64 num, .int .i64 den, .int .i64 mode, .slice a args.len c]] W (Lk (.bool (nuB ⟨18, num, den, mode, args⟩)) W) := by
  have hB : Below W.heap.size W (W.alloc (.cells #[.int .i64 18, .int .i64 num, .int .i64 den, .int .i64 mode, .slice a args.len c] 59)) := (Below.refl _ _).alloc (Nat.le_refl _) _
  have hnu : nuB ⟨18, num, den, mode, args⟩ = ((num == 0) && (den == 0) && (decide (mode ≤ 5))) := by
    rw [show (decide (mode ≤ 5)) = wi mode 1 5 by unfold wi; simp; try omega]
    rfl
  rw [hnu]
  clear hnu
  cases hN : (num == 0) with
  | false =>
    go_enter Tryz.func104, Tryz.ntmps104
    go_wp2
    go_ret
    exact ⟨rfl, hB⟩
  | true =>
    cases hD : (den == 0) with
    | false =>
      go_enter Tryz.func104, Tryz.ntmps104
      go_wp2
      go_ret
      exact ⟨rfl, hB⟩
    | true =>
      go_enter Tryz.func104, Tryz.ntmps104
      go_wp2
      go_ret
      exact ⟨rfl, hB⟩
set_option maxRecDepth 20000 in
set_option maxHeartbeats 4000000 in
theorem nu_m_23 (num den mode : Int) (args : Fo) (a : Option Addr) (c : Nat) (hm : (1 : Int) ≤ mode) (W : World) : Calls Tryz.prog 104 #[.agg #[.int .i64 23, .int .i64 num, .int .i64 den, .int .i64 mode, .slice a args.len c]] W (Lk (.bool (nuB ⟨23, num, den, mode, args⟩)) W) := by
  have hB : Below W.heap.size W (W.alloc (.cells #[.int .i64 23, .int .i64 num, .int .i64 den, .int .i64 mode, .slice a args.len c] 59)) := (Below.refl _ _).alloc (Nat.le_refl _) _
  have hnu : nuB ⟨23, num, den, mode, args⟩ = ((wi num 1 9999999999999) && (den == 0) && (decide (mode ≤ 5))) := by
    rw [show (decide (mode ≤ 5)) = wi mode 1 5 by unfold wi; simp; try omega]
    rfl
  rw [hnu]
  clear hnu
  cases hN : (wi num 1 9999999999999) with
  | false =>
    have hwn : ∀ W, Calls Tryz.prog 108 #[.int .i64 num, .int .i64 1, .int .i64 9999999999999] W fun e W' => e = .returned (.bool false) ∧ W' = W := fun W => by
      have := within_any num 1 9999999999999 W
      rw [hN] at this
      exact this
    go_enter Tryz.func104, Tryz.ntmps104
    go_wp2_with (first | (go_at_call 108; with_reducible refine (hwn _).mono ?_; rintro e w1 ⟨rfl, hw⟩; subst w1))
    go_ret
    exact ⟨rfl, hB⟩
  | true =>
    cases hD : (den == 0) with
    | false =>
      have hwn : ∀ W, Calls Tryz.prog 108 #[.int .i64 num, .int .i64 1, .int .i64 9999999999999] W fun e W' => e = .returned (.bool true) ∧ W' = W := fun W => by
        have := within_any num 1 9999999999999 W
        rw [hN] at this
        exact this
      go_enter Tryz.func104, Tryz.ntmps104
      go_wp2_with (first | (go_at_call 108; with_reducible refine (hwn _).mono ?_; rintro e w1 ⟨rfl, hw⟩; subst w1))
      go_ret
      exact ⟨rfl, hB⟩
    | true =>
      have hwn : ∀ W, Calls Tryz.prog 108 #[.int .i64 num, .int .i64 1, .int .i64 9999999999999] W fun e W' => e = .returned (.bool true) ∧ W' = W := fun W => by
        have := within_any num 1 9999999999999 W
        rw [hN] at this
        exact this
      go_enter Tryz.func104, Tryz.ntmps104
      go_wp2_with (first | (go_at_call 108; with_reducible refine (hwn _).mono ?_; rintro e w1 ⟨rfl, hw⟩; subst w1))
      go_ret
      exact ⟨rfl, hB⟩
set_option maxRecDepth 20000 in
set_option maxHeartbeats 4000000 in
theorem nu_m_x (op : Int) (c1 : ¬ op = 1) (c2 : ¬ op = 2) (c3 : ¬ op = 3) (c4 : ¬ op = 4) (c5 : ¬ op = 5) (c6 : ¬ op = 6) (c7 : ¬ op = 7) (c8 : ¬ op = 8) (c9 : ¬ op = 9) (c10 : ¬ op = 10) (c11 : ¬ op = 11) (c12 : ¬ op = 12) (c24 : ¬ op = 24) (c16 : ¬ op = 16) (c18 : ¬ op = 18) (c23 : ¬ op = 23) (num den mode : Int) (args : Fo) (a : Option Addr) (c : Nat) (hm : (1 : Int) ≤ mode) (W : World) : Calls Tryz.prog 104 #[.agg #[.int .i64 op, .int .i64 num, .int .i64 den, .int .i64 mode, .slice a args.len c]] W (Lk (.bool (nuB ⟨op, num, den, mode, args⟩)) W) := by
  have hB : Below W.heap.size W (W.alloc (.cells #[.int .i64 op, .int .i64 num, .int .i64 den, .int .i64 mode, .slice a args.len c] 59)) := (Below.refl _ _).alloc (Nat.le_refl _) _
  have hnu : nuB ⟨op, num, den, mode, args⟩ = ((num == 0) && (den == 0) && (mode == 0)) := by
    unfold nuB
    simp only
    rw [if_neg (by omega), if_neg (by omega), if_neg (by omega), if_neg (by omega), if_neg (by omega), if_neg (by omega), if_neg (by omega), if_neg (by omega), if_neg (by omega), if_neg (by omega)]
    rfl
  rw [hnu]
  clear hnu
  have e1 : (op == 1) = false := by simp; omega
  have e2 : (op == 2) = false := by simp; omega
  have e3 : (op == 3) = false := by simp; omega
  have e4 : (op == 4) = false := by simp; omega
  have e5 : (op == 5) = false := by simp; omega
  have e6 : (op == 6) = false := by simp; omega
  have e7 : (op == 7) = false := by simp; omega
  have e8 : (op == 8) = false := by simp; omega
  have e9 : (op == 9) = false := by simp; omega
  have e10 : (op == 10) = false := by simp; omega
  have e11 : (op == 11) = false := by simp; omega
  have e12 : (op == 12) = false := by simp; omega
  have e24 : (op == 24) = false := by simp; omega
  have e16 : (op == 16) = false := by simp; omega
  have e18 : (op == 18) = false := by simp; omega
  have e23 : (op == 23) = false := by simp; omega
  clear c1 c2 c3 c4 c5 c6 c7 c8 c9 c10 c11 c12 c24 c16 c18 c23
  cases hN : (num == 0) with
  | false =>
    go_enter Tryz.func104, Tryz.ntmps104
    go_wp2
    go_ret
    exact ⟨rfl, hB⟩
  | true =>
    cases hD : (den == 0) with
    | false =>
      go_enter Tryz.func104, Tryz.ntmps104
      go_wp2
      go_ret
      exact ⟨rfl, hB⟩
    | true =>
      go_enter Tryz.func104, Tryz.ntmps104
      go_wp2
      go_ret
      exact ⟨rfl, hB⟩
end Go.Proofs.YtmklkcefbabhbaaGreat.R6


/- The numbers of an expression. -/
namespace Go.Proofs.YtmklkcefbabhbaaGreat.R6
open Go.RowKit

set_option maxRecDepth 20000 in
set_option maxHeartbeats 4000000 in
theorem nu_m_7 (num den mode : Int) (args : Fo) (a : Option Addr) (c : Nat) (hm : (1 : Int) ≤ mode) (W : World) : Calls Tryz.prog 104 #[.agg #[.int .i64 7, .int .i64 num, .int .i64 den, .int .i64 mode, .slice a args.len c]] W (Lk (.bool (nuB ⟨7, num, den, mode, args⟩)) W) := by
  have hB : Below W.heap.size W (W.alloc (.cells #[.int .i64 7, .int .i64 num, .int .i64 den, .int .i64 mode, .slice a args.len c] 59)) := (Below.refl _ _).alloc (Nat.le_refl _) _
  have hnu : nuB ⟨7, num, den, mode, args⟩ = ((true) && (den == 0) && (mode == 0)) := by
    rfl
  rw [hnu]
  clear hnu
  cases hD : (den == 0) with
  | false =>
    go_enter Tryz.func104, Tryz.ntmps104
    go_wp2
    go_ret
    exact ⟨rfl, hB⟩
  | true =>
    go_enter Tryz.func104, Tryz.ntmps104
    go_wp2
    go_ret
    exact ⟨rfl, hB⟩
set_option maxRecDepth 20000 in
set_option maxHeartbeats 4000000 in
theorem nu_m_8 (num den mode : Int) (args : Fo) (a : Option Addr) (c : Nat) (hm : (1 : Int) ≤ mode) (W : World) : Calls Tryz.prog 104 #[.agg #[.int .i64 8, .int .i64 num, .int .i64 den, .int .i64 mode, .slice a args.len c]] W (Lk (.bool (nuB ⟨8, num, den, mode, args⟩)) W) := by
  have hB : Below W.heap.size W (W.alloc (.cells #[.int .i64 8, .int .i64 num, .int .i64 den, .int .i64 mode, .slice a args.len c] 59)) := (Below.refl _ _).alloc (Nat.le_refl _) _
  have hnu : nuB ⟨8, num, den, mode, args⟩ = ((true) && (den == 0) && (mode == 0)) := by
    rfl
  rw [hnu]
  clear hnu
  cases hD : (den == 0) with
  | false =>
    go_enter Tryz.func104, Tryz.ntmps104
    go_wp2
    go_ret
    exact ⟨rfl, hB⟩
  | true =>
    go_enter Tryz.func104, Tryz.ntmps104
    go_wp2
    go_ret
    exact ⟨rfl, hB⟩
set_option maxRecDepth 20000 in
set_option maxHeartbeats 4000000 in
theorem nu_m_9 (num den mode : Int) (args : Fo) (a : Option Addr) (c : Nat) (hm : (1 : Int) ≤ mode) (W : World) : Calls Tryz.prog 104 #[.agg #[.int .i64 9, .int .i64 num, .int .i64 den, .int .i64 mode, .slice a args.len c]] W (Lk (.bool (nuB ⟨9, num, den, mode, args⟩)) W) := by
  have hB : Below W.heap.size W (W.alloc (.cells #[.int .i64 9, .int .i64 num, .int .i64 den, .int .i64 mode, .slice a args.len c] 59)) := (Below.refl _ _).alloc (Nat.le_refl _) _
  have hnu : nuB ⟨9, num, den, mode, args⟩ = ((true) && (den == 0) && (mode == 0)) := by
    rfl
  rw [hnu]
  clear hnu
  cases hD : (den == 0) with
  | false =>
    go_enter Tryz.func104, Tryz.ntmps104
    go_wp2
    go_ret
    exact ⟨rfl, hB⟩
  | true =>
    go_enter Tryz.func104, Tryz.ntmps104
    go_wp2
    go_ret
    exact ⟨rfl, hB⟩
set_option maxRecDepth 20000 in
set_option maxHeartbeats 4000000 in
theorem nu_m_10 (num den mode : Int) (args : Fo) (a : Option Addr) (c : Nat) (hm : (1 : Int) ≤ mode) (W : World) : Calls Tryz.prog 104 #[.agg #[.int .i64 10, .int .i64 num, .int .i64 den, .int .i64 mode, .slice a args.len c]] W (Lk (.bool (nuB ⟨10, num, den, mode, args⟩)) W) := by
  have hB : Below W.heap.size W (W.alloc (.cells #[.int .i64 10, .int .i64 num, .int .i64 den, .int .i64 mode, .slice a args.len c] 59)) := (Below.refl _ _).alloc (Nat.le_refl _) _
  have hnu : nuB ⟨10, num, den, mode, args⟩ = ((true) && (den == 0) && (mode == 0)) := by
    rfl
  rw [hnu]
  clear hnu
  cases hD : (den == 0) with
  | false =>
    go_enter Tryz.func104, Tryz.ntmps104
    go_wp2
    go_ret
    exact ⟨rfl, hB⟩
  | true =>
    go_enter Tryz.func104, Tryz.ntmps104
    go_wp2
    go_ret
    exact ⟨rfl, hB⟩
set_option maxRecDepth 20000 in
set_option maxHeartbeats 4000000 in
theorem nu_m_11 (num den mode : Int) (args : Fo) (a : Option Addr) (c : Nat) (hm : (1 : Int) ≤ mode) (W : World) : Calls Tryz.prog 104 #[.agg #[.int .i64 11, .int .i64 num, .int .i64 den, .int .i64 mode, .slice a args.len c]] W (Lk (.bool (nuB ⟨11, num, den, mode, args⟩)) W) := by
  have hB : Below W.heap.size W (W.alloc (.cells #[.int .i64 11, .int .i64 num, .int .i64 den, .int .i64 mode, .slice a args.len c] 59)) := (Below.refl _ _).alloc (Nat.le_refl _) _
  have hnu : nuB ⟨11, num, den, mode, args⟩ = ((true) && (den == 0) && (mode == 0)) := by
    rfl
  rw [hnu]
  clear hnu
  cases hD : (den == 0) with
  | false =>
    go_enter Tryz.func104, Tryz.ntmps104
    go_wp2
    go_ret
    exact ⟨rfl, hB⟩
  | true =>
    go_enter Tryz.func104, Tryz.ntmps104
    go_wp2
    go_ret
    exact ⟨rfl, hB⟩
set_option maxRecDepth 20000 in
set_option maxHeartbeats 4000000 in
theorem nu_m_12 (num den mode : Int) (args : Fo) (a : Option Addr) (c : Nat) (hm : (1 : Int) ≤ mode) (W : World) : Calls Tryz.prog 104 #[.agg #[.int .i64 12, .int .i64 num, .int .i64 den, .int .i64 mode, .slice a args.len c]] W (Lk (.bool (nuB ⟨12, num, den, mode, args⟩)) W) := by
  have hB : Below W.heap.size W (W.alloc (.cells #[.int .i64 12, .int .i64 num, .int .i64 den, .int .i64 mode, .slice a args.len c] 59)) := (Below.refl _ _).alloc (Nat.le_refl _) _
  have hnu : nuB ⟨12, num, den, mode, args⟩ = ((true) && (den == 0) && (mode == 0)) := by
    rfl
  rw [hnu]
  clear hnu
  cases hD : (den == 0) with
  | false =>
    go_enter Tryz.func104, Tryz.ntmps104
    go_wp2
    go_ret
    exact ⟨rfl, hB⟩
  | true =>
    go_enter Tryz.func104, Tryz.ntmps104
    go_wp2
    go_ret
    exact ⟨rfl, hB⟩
end Go.Proofs.YtmklkcefbabhbaaGreat.R6


/- The numbers of an expression. -/
namespace Go.Proofs.YtmklkcefbabhbaaGreat.R6
open Go.RowKit

set_option maxRecDepth 20000 in
set_option maxHeartbeats 4000000 in
theorem nu_m_1 (num den mode : Int) (args : Fo) (a : Option Addr) (c : Nat) (hm : (1 : Int) ≤ mode) (W : World) : Calls Tryz.prog 104 #[.agg #[.int .i64 1, .int .i64 num, .int .i64 den, .int .i64 mode, .slice a args.len c]] W (Lk (.bool (nuB ⟨1, num, den, mode, args⟩)) W) := by
  have hB : Below W.heap.size W (W.alloc (.cells #[.int .i64 1, .int .i64 num, .int .i64 den, .int .i64 mode, .slice a args.len c] 59)) := (Below.refl _ _).alloc (Nat.le_refl _) _
  have hnu : nuB ⟨1, num, den, mode, args⟩ = ((wi num (-9999999999999) 9999999999999) && (den == 0) && (mode == 0)) := by
    rfl
  rw [hnu]
  clear hnu
  cases hN : (wi num (-9999999999999) 9999999999999) with
  | false =>
    have hwn : ∀ W, Calls Tryz.prog 108 #[.int .i64 num, .int .i64 (-9999999999999), .int .i64 9999999999999] W fun e W' => e = .returned (.bool false) ∧ W' = W := fun W => by
      have := within_any num (-9999999999999) 9999999999999 W
      rw [hN] at this
      exact this
    go_enter Tryz.func104, Tryz.ntmps104
    go_wp2_with (first | (go_at_call 108; with_reducible refine (hwn _).mono ?_; rintro e w1 ⟨rfl, hw⟩; subst w1))
    go_ret
    exact ⟨rfl, hB⟩
  | true =>
    cases hD : (den == 0) with
    | false =>
      have hwn : ∀ W, Calls Tryz.prog 108 #[.int .i64 num, .int .i64 (-9999999999999), .int .i64 9999999999999] W fun e W' => e = .returned (.bool true) ∧ W' = W := fun W => by
        have := within_any num (-9999999999999) 9999999999999 W
        rw [hN] at this
        exact this
      go_enter Tryz.func104, Tryz.ntmps104
      go_wp2_with (first | (go_at_call 108; with_reducible refine (hwn _).mono ?_; rintro e w1 ⟨rfl, hw⟩; subst w1))
      go_ret
      exact ⟨rfl, hB⟩
    | true =>
      have hwn : ∀ W, Calls Tryz.prog 108 #[.int .i64 num, .int .i64 (-9999999999999), .int .i64 9999999999999] W fun e W' => e = .returned (.bool true) ∧ W' = W := fun W => by
        have := within_any num (-9999999999999) 9999999999999 W
        rw [hN] at this
        exact this
      go_enter Tryz.func104, Tryz.ntmps104
      go_wp2_with (first | (go_at_call 108; with_reducible refine (hwn _).mono ?_; rintro e w1 ⟨rfl, hw⟩; subst w1))
      go_ret
      exact ⟨rfl, hB⟩
set_option maxRecDepth 20000 in
set_option maxHeartbeats 4000000 in
theorem nu_m_2 (num den mode : Int) (args : Fo) (a : Option Addr) (c : Nat) (hm : (1 : Int) ≤ mode) (W : World) : Calls Tryz.prog 104 #[.agg #[.int .i64 2, .int .i64 num, .int .i64 den, .int .i64 mode, .slice a args.len c]] W (Lk (.bool (nuB ⟨2, num, den, mode, args⟩)) W) := by
  have hB : Below W.heap.size W (W.alloc (.cells #[.int .i64 2, .int .i64 num, .int .i64 den, .int .i64 mode, .slice a args.len c] 59)) := (Below.refl _ _).alloc (Nat.le_refl _) _
  have hnu : nuB ⟨2, num, den, mode, args⟩ = ((wi num (-1000000000) 1000000000) && (den == 0) && (mode == 0)) := by
    rfl
  rw [hnu]
  clear hnu
  cases hN : (wi num (-1000000000) 1000000000) with
  | false =>
    have hwn : ∀ W, Calls Tryz.prog 108 #[.int .i64 num, .int .i64 (-1000000000), .int .i64 1000000000] W fun e W' => e = .returned (.bool false) ∧ W' = W := fun W => by
      have := within_any num (-1000000000) 1000000000 W
      rw [hN] at this
      exact this
    go_enter Tryz.func104, Tryz.ntmps104
    go_wp2_with (first | (go_at_call 108; with_reducible refine (hwn _).mono ?_; rintro e w1 ⟨rfl, hw⟩; subst w1))
    go_ret
    exact ⟨rfl, hB⟩
  | true =>
    cases hD : (den == 0) with
    | false =>
      have hwn : ∀ W, Calls Tryz.prog 108 #[.int .i64 num, .int .i64 (-1000000000), .int .i64 1000000000] W fun e W' => e = .returned (.bool true) ∧ W' = W := fun W => by
        have := within_any num (-1000000000) 1000000000 W
        rw [hN] at this
        exact this
      go_enter Tryz.func104, Tryz.ntmps104
      go_wp2_with (first | (go_at_call 108; with_reducible refine (hwn _).mono ?_; rintro e w1 ⟨rfl, hw⟩; subst w1))
      go_ret
      exact ⟨rfl, hB⟩
    | true =>
      have hwn : ∀ W, Calls Tryz.prog 108 #[.int .i64 num, .int .i64 (-1000000000), .int .i64 1000000000] W fun e W' => e = .returned (.bool true) ∧ W' = W := fun W => by
        have := within_any num (-1000000000) 1000000000 W
        rw [hN] at this
        exact this
      go_enter Tryz.func104, Tryz.ntmps104
      go_wp2_with (first | (go_at_call 108; with_reducible refine (hwn _).mono ?_; rintro e w1 ⟨rfl, hw⟩; subst w1))
      go_ret
      exact ⟨rfl, hB⟩
set_option maxRecDepth 20000 in
set_option maxHeartbeats 4000000 in
theorem nu_m_3 (num den mode : Int) (args : Fo) (a : Option Addr) (c : Nat) (hm : (1 : Int) ≤ mode) (W : World) : Calls Tryz.prog 104 #[.agg #[.int .i64 3, .int .i64 num, .int .i64 den, .int .i64 mode, .slice a args.len c]] W (Lk (.bool (nuB ⟨3, num, den, mode, args⟩)) W) := by
  have hB : Below W.heap.size W (W.alloc (.cells #[.int .i64 3, .int .i64 num, .int .i64 den, .int .i64 mode, .slice a args.len c] 59)) := (Below.refl _ _).alloc (Nat.le_refl _) _
  have hnu : nuB ⟨3, num, den, mode, args⟩ = ((wi num 0 1) && (den == 0) && (mode == 0)) := by
    rfl
  rw [hnu]
  clear hnu
  cases hN : (wi num 0 1) with
  | false =>
    have hwn : ∀ W, Calls Tryz.prog 108 #[.int .i64 num, .int .i64 0, .int .i64 1] W fun e W' => e = .returned (.bool false) ∧ W' = W := fun W => by
      have := within_any num 0 1 W
      rw [hN] at this
      exact this
    go_enter Tryz.func104, Tryz.ntmps104
    go_wp2_with (first | (go_at_call 108; with_reducible refine (hwn _).mono ?_; rintro e w1 ⟨rfl, hw⟩; subst w1))
    go_ret
    exact ⟨rfl, hB⟩
  | true =>
    cases hD : (den == 0) with
    | false =>
      have hwn : ∀ W, Calls Tryz.prog 108 #[.int .i64 num, .int .i64 0, .int .i64 1] W fun e W' => e = .returned (.bool true) ∧ W' = W := fun W => by
        have := within_any num 0 1 W
        rw [hN] at this
        exact this
      go_enter Tryz.func104, Tryz.ntmps104
      go_wp2_with (first | (go_at_call 108; with_reducible refine (hwn _).mono ?_; rintro e w1 ⟨rfl, hw⟩; subst w1))
      go_ret
      exact ⟨rfl, hB⟩
    | true =>
      have hwn : ∀ W, Calls Tryz.prog 108 #[.int .i64 num, .int .i64 0, .int .i64 1] W fun e W' => e = .returned (.bool true) ∧ W' = W := fun W => by
        have := within_any num 0 1 W
        rw [hN] at this
        exact this
      go_enter Tryz.func104, Tryz.ntmps104
      go_wp2_with (first | (go_at_call 108; with_reducible refine (hwn _).mono ?_; rintro e w1 ⟨rfl, hw⟩; subst w1))
      go_ret
      exact ⟨rfl, hB⟩
set_option maxRecDepth 20000 in
set_option maxHeartbeats 4000000 in
theorem nu_m_4 (num den mode : Int) (args : Fo) (a : Option Addr) (c : Nat) (hm : (1 : Int) ≤ mode) (W : World) : Calls Tryz.prog 104 #[.agg #[.int .i64 4, .int .i64 num, .int .i64 den, .int .i64 mode, .slice a args.len c]] W (Lk (.bool (nuB ⟨4, num, den, mode, args⟩)) W) := by
  have hB : Below W.heap.size W (W.alloc (.cells #[.int .i64 4, .int .i64 num, .int .i64 den, .int .i64 mode, .slice a args.len c] 59)) := (Below.refl _ _).alloc (Nat.le_refl _) _
  have hnu : nuB ⟨4, num, den, mode, args⟩ = ((wi num 0 109572) && (den == 0) && (mode == 0)) := by
    rfl
  rw [hnu]
  clear hnu
  cases hN : (wi num 0 109572) with
  | false =>
    have hwn : ∀ W, Calls Tryz.prog 108 #[.int .i64 num, .int .i64 0, .int .i64 109572] W fun e W' => e = .returned (.bool false) ∧ W' = W := fun W => by
      have := within_any num 0 109572 W
      rw [hN] at this
      exact this
    go_enter Tryz.func104, Tryz.ntmps104
    go_wp2_with (first | (go_at_call 108; with_reducible refine (hwn _).mono ?_; rintro e w1 ⟨rfl, hw⟩; subst w1))
    go_ret
    exact ⟨rfl, hB⟩
  | true =>
    cases hD : (den == 0) with
    | false =>
      have hwn : ∀ W, Calls Tryz.prog 108 #[.int .i64 num, .int .i64 0, .int .i64 109572] W fun e W' => e = .returned (.bool true) ∧ W' = W := fun W => by
        have := within_any num 0 109572 W
        rw [hN] at this
        exact this
      go_enter Tryz.func104, Tryz.ntmps104
      go_wp2_with (first | (go_at_call 108; with_reducible refine (hwn _).mono ?_; rintro e w1 ⟨rfl, hw⟩; subst w1))
      go_ret
      exact ⟨rfl, hB⟩
    | true =>
      have hwn : ∀ W, Calls Tryz.prog 108 #[.int .i64 num, .int .i64 0, .int .i64 109572] W fun e W' => e = .returned (.bool true) ∧ W' = W := fun W => by
        have := within_any num 0 109572 W
        rw [hN] at this
        exact this
      go_enter Tryz.func104, Tryz.ntmps104
      go_wp2_with (first | (go_at_call 108; with_reducible refine (hwn _).mono ?_; rintro e w1 ⟨rfl, hw⟩; subst w1))
      go_ret
      exact ⟨rfl, hB⟩
set_option maxRecDepth 20000 in
set_option maxHeartbeats 4000000 in
theorem nu_m_5 (num den mode : Int) (args : Fo) (a : Option Addr) (c : Nat) (hm : (1 : Int) ≤ mode) (W : World) : Calls Tryz.prog 104 #[.agg #[.int .i64 5, .int .i64 num, .int .i64 den, .int .i64 mode, .slice a args.len c]] W (Lk (.bool (nuB ⟨5, num, den, mode, args⟩)) W) := by
  have hB : Below W.heap.size W (W.alloc (.cells #[.int .i64 5, .int .i64 num, .int .i64 den, .int .i64 mode, .slice a args.len c] 59)) := (Below.refl _ _).alloc (Nat.le_refl _) _
  have hnu : nuB ⟨5, num, den, mode, args⟩ = ((true) && (true) && (mode == 0)) := by
    rfl
  rw [hnu]
  clear hnu
  go_enter Tryz.func104, Tryz.ntmps104
  go_wp2
  go_ret
  exact ⟨rfl, hB⟩
set_option maxRecDepth 20000 in
set_option maxHeartbeats 4000000 in
theorem nu_m_6 (num den mode : Int) (args : Fo) (a : Option Addr) (c : Nat) (hm : (1 : Int) ≤ mode) (W : World) : Calls Tryz.prog 104 #[.agg #[.int .i64 6, .int .i64 num, .int .i64 den, .int .i64 mode, .slice a args.len c]] W (Lk (.bool (nuB ⟨6, num, den, mode, args⟩)) W) := by
  have hB : Below W.heap.size W (W.alloc (.cells #[.int .i64 6, .int .i64 num, .int .i64 den, .int .i64 mode, .slice a args.len c] 59)) := (Below.refl _ _).alloc (Nat.le_refl _) _
  have hnu : nuB ⟨6, num, den, mode, args⟩ = ((true) && (den == 0) && (mode == 0)) := by
    rfl
  rw [hnu]
  clear hnu
  cases hD : (den == 0) with
  | false =>
    go_enter Tryz.func104, Tryz.ntmps104
    go_wp2
    go_ret
    exact ⟨rfl, hB⟩
  | true =>
    go_enter Tryz.func104, Tryz.ntmps104
    go_wp2
    go_ret
    exact ⟨rfl, hB⟩
end Go.Proofs.YtmklkcefbabhbaaGreat.R6
