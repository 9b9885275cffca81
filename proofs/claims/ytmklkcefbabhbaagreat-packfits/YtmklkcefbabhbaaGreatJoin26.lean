import Derived.Test.YtmklkcefbabhbaaGreatJoin25
/- The numbers of an expression. -/
namespace Go.Proofs.YtmklkcefbabhbaaGreat.R6
open Go.RowKit

set_option maxRecDepth 20000 in
set_option maxHeartbeats 4000000 in
theorem nu_n_7 (num den mode : Int) (args : Fo) (a : Option Addr) (c : Nat) (hm : ¬ (1 : Int) ≤ mode) (W : World) : Calls Tryz.prog 104 #[.agg #[.int .i64 7, .int .i64 num, .int .i64 den, .int .i64 mode, .slice a args.len c]] W (Lk (.bool (nuB ⟨7, num, den, mode, args⟩)) W) := by
  have hB : Below W.heap.size W (W.alloc (.cells #[.int .i64 7, .int .i64 num, .int .i64 den, .int .i64 mode, .slice a args.len c] 59)) := (Below.refl _ _).alloc (Nat.le_refl _) _
  have hnu : nuB ⟨7, num, den, mode, args⟩ = ((true) && (den == 0) && (mode == 0)) := by
    rfl
  rw [hnu]
  clear hnu
  cases hD : (den == 0) with
  | false =>
    go_enter Tryz.func104, Tryz.ntmps104
    go_wp2
    go_ret
    exact ⟨rfl, hB⟩
  | true =>
    go_enter Tryz.func104, Tryz.ntmps104
    go_wp2
    go_ret
    exact ⟨rfl, hB⟩
set_option maxRecDepth 20000 in
set_option maxHeartbeats 4000000 in
theorem nu_n_8 (num den mode : Int) (args : Fo) (a : Option Addr) (c : Nat) (hm : ¬ (1 : Int) ≤ mode) (W : World) : Calls Tryz.prog 104 #[.agg #[.int .i64 8, .int .i64 num, .int .i64 den, .int .i64 mode, .slice a args.len c]] W (Lk (.bool (nuB ⟨8, num, den, mode, args⟩)) W) := by
  have hB : Below W.heap.size W (W.alloc (.cells #[.int .i64 8, .int .i64 num, .int .i64 den, .int .i64 mode, .slice a args.len c] 59)) := (Below.refl _ _).alloc (Nat.le_refl _) _
  have hnu : nuB ⟨8, num, den, mode, args⟩ = ((true) && (den == 0) && (mode == 0)) := by
    rfl
  rw [hnu]
  clear hnu
  cases hD : (den == 0) with
  | false =>
    go_enter Tryz.func104, Tryz.ntmps104
    go_wp2
    go_ret
    exact ⟨rfl, hB⟩
  | true =>
    go_enter Tryz.func104, Tryz.ntmps104
    go_wp2
    go_ret
    exact ⟨rfl, hB⟩
set_option maxRecDepth 20000 in
set_option maxHeartbeats 4000000 in
theorem nu_n_9 (num den mode : Int) (args : Fo) (a : Option Addr) (c : Nat) (hm : ¬ (1 : Int) ≤ mode) (W : World) : Calls Tryz.prog 104 #[.agg #[.int .i64 9, .int .i64 num, .int .i64 den, .int .i64 mode, .slice a args.len c]] W (Lk (.bool (nuB ⟨9, num, den, mode, args⟩)) W) := by
  have hB : Below W.heap.size W (W.alloc (.cells #[.int .i64 9, .int .i64 num, .int .i64 den, .int .i64 mode, .slice a args.len c] 59)) := (Below.refl _ _).alloc (Nat.le_refl _) _
  have hnu : nuB ⟨9, num, den, mode, args⟩ = ((true) && (den == 0) && (mode == 0)) := by
    rfl
  rw [hnu]
  clear hnu
  cases hD : (den == 0) with
  | false =>
    go_enter Tryz.func104, Tryz.ntmps104
    go_wp2
    go_ret
    exact ⟨rfl, hB⟩
  | true =>
    go_enter Tryz.func104, Tryz.ntmps104
    go_wp2
    go_ret
    exact ⟨rfl, hB⟩
set_option maxRecDepth 20000 in
set_option maxHeartbeats 4000000 in
theorem nu_n_10 (num den mode : Int) (args : Fo) (a : Option Addr) (c : Nat) (hm : ¬ (1 : Int) ≤ mode) (W : World) : Calls Tryz.prog 104 #[.agg #[.int .i64 10, .int .i64 num, .int .i64 den, .int .i64 mode, .slice a args.len c]] W (Lk (.bool (nuB ⟨10, num, den, mode, args⟩)) W) := by
  have hB : Below W.heap.size W (W.alloc (.cells #[.int .i64 10, .int .i64 num, .int .i64 den, .int .i64 mode, .slice a args.len c] 59)) := (Below.refl _ _).alloc (Nat.le_refl _) _
  have hnu : nuB ⟨10, num, den, mode, args⟩ = ((true) && (den == 0) && (mode == 0)) := by
    rfl
  rw [hnu]
  clear hnu
  cases hD : (den == 0) with
  | false =>
    go_enter Tryz.func104, Tryz.ntmps104
    go_wp2
    go_ret
    exact ⟨rfl, hB⟩
  | true =>
    go_enter Tryz.func104, Tryz.ntmps104
    go_wp2
    go_ret
    exact ⟨rfl, hB⟩
set_option maxRecDepth 20000 in
set_option maxHeartbeats 4000000 in
theorem nu_n_11 (num den mode : Int) (args : Fo) (a : Option Addr) (c : Nat) (hm : ¬ (1 : Int) ≤ mode) (W : World) : Calls Tryz.prog 104 #[.agg #[.int .i64 11, .int .i64 num, .int .i64 den, .int .i64 mode, .slice a args.len c]] W (Lk (.bool (nuB ⟨11, num, den, mode, args⟩)) W) := by
  have hB : Below W.heap.size W (W.alloc (.cells #[.int .i64 11, .int .i64 num, .int .i64 den, .int .i64 mode, .slice a args.len c] 59)) := (Below.refl _ _).alloc (Nat.le_refl _) _
  have hnu : nuB ⟨11, num, den, mode, args⟩ = ((true) && (den == 0) && (mode == 0)) := by
    rfl
  rw [hnu]
  clear hnu
  cases hD : (den == 0) with
  | false =>
    go_enter Tryz.func104, Tryz.ntmps104
    go_wp2
    go_ret
    exact ⟨rfl, hB⟩
  | true =>
    go_enter Tryz.func104, Tryz.ntmps104
    go_wp2
    go_ret
    exact ⟨rfl, hB⟩
set_option maxRecDepth 20000 in
set_option maxHeartbeats 4000000 in
theorem nu_n_12 (num den mode : Int) (args : Fo) (a : Option Addr) (c : Nat) (hm : ¬ (1 : Int) ≤ mode) (W : World) : Calls Tryz.prog 104 #[.agg #[.int .i64 12, .int .i64 num, .int .i64 den, .int .i64 mode, .slice a args.len c]] W (Lk (.bool (nuB ⟨12, num, den, mode, args⟩)) W) := by
  have hB : Below W.heap.size W (W.alloc (.cells #[.int .i64 12, .int .i64 num, .int .i64 den, .int .i64 mode, .slice a args.len c] 59)) := (Below.refl _ _).alloc (Nat.le_refl _) _
  have hnu : nuB ⟨12, num, den, mode, args⟩ = ((true) && (den == 0) && (mode == 0)) := by
    rfl
  rw [hnu]
  clear hnu
  cases hD : (den == 0) with
  | false =>
    go_enter Tryz.func104, Tryz.ntmps104
    go_wp2
    go_ret
    exact ⟨rfl, hB⟩
  | true =>
    go_enter Tryz.func104, Tryz.ntmps104
    go_wp2
    go_ret
    exact ⟨rfl, hB⟩
end Go.Proofs.YtmklkcefbabhbaaGreat.R6


/- The numbers of an expression. -/
namespace Go.Proofs.YtmklkcefbabhbaaGreat.R6
open Go.RowKit

set_option maxRecDepth 20000 in
set_option maxHeartbeats 4000000 in
theorem nu_n_1 (num den mode : Int) (args : Fo) (a : Option Addr) (c : Nat) (hm : ¬ (1 : Int) ≤ mode) (W : World) : Calls Tryz.prog 104 #[.agg #[.int .i64 1, .int .i64 num, .int .i64 den, .int .i64 mode, .slice a args.len c]] W (Lk (.bool (nuB ⟨1, num, den, mode, args⟩)) W) := by
  have hB : Below W.heap.size W (W.alloc (.cells #[.int .i64 1, .int .i64 num, .int .i64 den, .int .i64 mode, .slice a args.len c] 59)) := (Below.refl _ _).alloc (Nat.le_refl _) _
  have hnu : nuB ⟨1, num, den, mode, args⟩ = ((wi num (-9999999999999) 9999999999999) && (den == 0) && (mode == 0)) := by
    rfl
  rw [hnu]
  clear hnu
  cases hN : (wi num (-9999999999999) 9999999999999) with
  | false =>
    have hwn : ∀ W, Calls Tryz.prog 108 #[.int .i64 num, .int .i64 (-9999999999999), .int .i64 9999999999999] W fun e W' => e = .returned (.bool false) ∧ W' = W := fun W => by
      have := within_any num (-9999999999999) 9999999999999 W
      rw [hN] at this
      exact this
    go_enter Tryz.func104, Tryz.ntmps104
    go_wp2_with (first | (go_at_call 108; with_reducible refine (hwn _).mono ?_; rintro e w1 ⟨rfl, hw⟩; subst w1))
    go_ret
    exact ⟨rfl, hB⟩
  | true =>
    cases hD : (den == 0) with
    | false =>
      have hwn : ∀ W, Calls Tryz.prog 108 #[.int .i64 num, .int .i64 (-9999999999999), .int .i64 9999999999999] W fun e W' => e = .returned (.bool true) ∧ W' = W := fun W => by
        have := within_any num (-9999999999999) 9999999999999 W
        rw [hN] at this
        exact this
      go_enter Tryz.func104, Tryz.ntmps104
      go_wp2_with (first | (go_at_call 108; with_reducible refine (hwn _).mono ?_; rintro e w1 ⟨rfl, hw⟩; subst w1))
      go_ret
      exact ⟨rfl, hB⟩
    | true =>
      have hwn : ∀ W, Calls Tryz.prog 108 #[.int .i64 num, .int .i64 (-9999999999999), .int .i64 9999999999999] W fun e W' => e = .returned (.bool true) ∧ W' = W := fun W => by
        have := within_any num (-9999999999999) 9999999999999 W
        rw [hN] at this
        exact this
      go_enter Tryz.func104, Tryz.ntmps104
      go_wp2_with (first | (go_at_call 108; with_reducible refine (hwn _).mono ?_; rintro e w1 ⟨rfl, hw⟩; subst w1))
      go_ret
      exact ⟨rfl, hB⟩
set_option maxRecDepth 20000 in
set_option maxHeartbeats 4000000 in
theorem nu_n_2 (num den mode : Int) (args : Fo) (a : Option Addr) (c : Nat) (hm : ¬ (1 : Int) ≤ mode) (W : World) : Calls Tryz.prog 104 #[.agg #[.int .i64 2, .int .i64 num, .int .i64 den, .int .i64 mode, .slice a args.len c]] W (Lk (.bool (nuB ⟨2, num, den, mode, args⟩)) W) := by
  have hB : Below W.heap.size W (W.alloc (.cells #[.int .i64 2, .int .i64 num, .int .i64 den, .int .i64 mode, .slice a args.len c] 59)) := (Below.refl _ _).alloc (Nat.le_refl _) _
  have hnu : nuB ⟨2, num, den, mode, args⟩ = ((wi num (-1000000000) 1000000000) && (den == 0) && (mode == 0)) := by
    rfl
  rw [hnu]
  clear hnu
  cases hN : (wi num (-1000000000) 1000000000) with
  | false =>
    have hwn : ∀ W, Calls Tryz.prog 108 #[.int .i64 num, .int .i64 (-1000000000), .int .i64 1000000000] W fun e W' => e = .returned (.bool false) ∧ W' = W := fun W => by
      have := within_any num (-1000000000) 1000000000 W
      rw [hN] at this
      exact this
    go_enter Tryz.func104, Tryz.ntmps104
    go_wp2_with (first | (go_at_call 108; with_reducible refine (hwn _).mono ?_; rintro e w1 ⟨rfl, hw⟩; subst w1))
    go_ret
    exact ⟨rfl, hB⟩
  | true =>
    cases hD : (den == 0) with
    | false =>
      have hwn : ∀ W, Calls Tryz.prog 108 #[.int .i64 num, .int .i64 (-1000000000), .int .i64 1000000000] W fun e W' => e = .returned (.bool true) ∧ W' = W := fun W => by
        have := within_any num (-1000000000) 1000000000 W
        rw [hN] at this
        exact this
      go_enter Tryz.func104, Tryz.ntmps104
      go_wp2_with (first | (go_at_call 108; with_reducible refine (hwn _).mono ?_; rintro e w1 ⟨rfl, hw⟩; subst w1))
      go_ret
      exact ⟨rfl, hB⟩
    | true =>
      have hwn : ∀ W, Calls Tryz.prog 108 #[.int .i64 num, .int .i64 (-1000000000), .int .i64 1000000000] W fun e W' => e = .returned (.bool true) ∧ W' = W := fun W => by
        have := within_any num (-1000000000) 1000000000 W
        rw [hN] at this
        exact this
      go_enter Tryz.func104, Tryz.ntmps104
      go_wp2_with (first | (go_at_call 108; with_reducible refine (hwn _).mono ?_; rintro e w1 ⟨rfl, hw⟩; subst w1))
      go_ret
      exact ⟨rfl, hB⟩
set_option maxRecDepth 20000 in
set_option maxHeartbeats 4000000 in
theorem nu_n_3 (num den mode : Int) (args : Fo) (a : Option Addr) (c : Nat) (hm : ¬ (1 : Int) ≤ mode) (W : World) : Calls Tryz.prog 104 #[.agg #[.int .i64 3, .int .i64 num, .int .i64 den, .int .i64 mode, .slice a args.len c]] W (Lk (.bool (nuB ⟨3, num, den, mode, args⟩)) W) := by
  have hB : Below W.heap.size W (W.alloc (.cells #[.int .i64 3, .int .i64 num, .int .i64 den, .int .i64 mode, .slice a args.len c] 59)) := (Below.refl _ _).alloc (Nat.le_refl _) _
  have hnu : nuB ⟨3, num, den, mode, args⟩ = ((wi num 0 1) && (den == 0) && (mode == 0)) := by
    rfl
  rw [hnu]
  clear hnu
  cases hN : (wi num 0 1) with
  | false =>
    have hwn : ∀ W, Calls Tryz.prog 108 #[.int .i64 num, .int .i64 0, .int .i64 1] W fun e W' => e = .returned (.bool false) ∧ W' = W := fun W => by
      have := within_any num 0 1 W
      rw [hN] at this
      exact this
    go_enter Tryz.func104, Tryz.ntmps104
    go_wp2_with (first | (go_at_call 108; with_reducible refine (hwn _).mono ?_; rintro e w1 ⟨rfl, hw⟩; subst w1))
    go_ret
    exact ⟨rfl, hB⟩
  | true =>
    cases hD : (den == 0) with
    | false =>
      have hwn : ∀ W, Calls Tryz.prog 108 #[.int .i64 num, .int .i64 0, .int .i64 1] W fun e W' => e = .returned (.bool true) ∧ W' = W := fun W => by
        have := within_any num 0 1 W
        rw [hN] at this
        exact this
      go_enter Tryz.func104, Tryz.ntmps104
      go_wp2_with (first | (go_at_call 108; with_reducible refine (hwn _).mono ?_; rintro e w1 ⟨rfl, hw⟩; subst w1))
      go_ret
      exact ⟨rfl, hB⟩
    | true =>
      have hwn : ∀ W, Calls Tryz.prog 108 #[.int .i64 num, .int .i64 0, .int .i64 1] W fun e W' => e = .returned (.bool true) ∧ W' = W := fun W => by
        have := within_any num 0 1 W
        rw [hN] at this
        exact this
      go_enter Tryz.func104, Tryz.ntmps104
      go_wp2_with (first | (go_at_call 108; with_reducible refine (hwn _).mono ?_; rintro e w1 ⟨rfl, hw⟩; subst w1))
      go_ret
      exact ⟨rfl, hB⟩
set_option maxRecDepth 20000 in
set_option maxHeartbeats 4000000 in
theorem nu_n_4 (num den mode : Int) (args : Fo) (a : Option Addr) (c : Nat) (hm : ¬ (1 : Int) ≤ mode) (W : World) : Calls Tryz.prog 104 #[.agg #[.int .i64 4, .int .i64 num, .int .i64 den, .int .i64 mode, .slice a args.len c]] W (Lk (.bool (nuB ⟨4, num, den, mode, args⟩)) W) := by
  have hB : Below W.heap.size W (W.alloc (.cells #[.int .i64 4, .int .i64 num, .int .i64 den, .int .i64 mode, .slice a args.len c] 59)) := (Below.refl _ _).alloc (Nat.le_refl _) _
  have hnu : nuB ⟨4, num, den, mode, args⟩ = ((wi num 0 109572) && (den == 0) && (mode == 0)) := by
    rfl
  rw [hnu]
  clear hnu
  cases hN : (wi num 0 109572) with
  | false =>
    have hwn : ∀ W, Calls Tryz.prog 108 #[.int .i64 num, .int .i64 0, .int .i64 109572] W fun e W' => e = .returned (.bool false) ∧ W' = W := fun W => by
      have := within_any num 0 109572 W
      rw [hN] at this
      exact this
    go_enter Tryz.func104, Tryz.ntmps104
    go_wp2_with (first | (go_at_call 108; with_reducible refine (hwn _).mono ?_; rintro e w1 ⟨rfl, hw⟩; subst w1))
    go_ret
    exact ⟨rfl, hB⟩
  | true =>
    cases hD : (den == 0) with
    | false =>
      have hwn : ∀ W, Calls Tryz.prog 108 #[.int .i64 num, .int .i64 0, .int .i64 109572] W fun e W' => e = .returned (.bool true) ∧ W' = W := fun W => by
        have := within_any num 0 109572 W
        rw [hN] at this
        exact this
      go_enter Tryz.func104, Tryz.ntmps104
      go_wp2_with (first | (go_at_call 108; with_reducible refine (hwn _).mono ?_; rintro e w1 ⟨rfl, hw⟩; subst w1))
      go_ret
      exact ⟨rfl, hB⟩
    | true =>
      have hwn : ∀ W, Calls Tryz.prog 108 #[.int .i64 num, .int .i64 0, .int .i64 109572] W fun e W' => e = .returned (.bool true) ∧ W' = W := fun W => by
        have := within_any num 0 109572 W
        rw [hN] at this
        exact this
      go_enter Tryz.func104, Tryz.ntmps104
      go_wp2_with (first | (go_at_call 108; with_reducible refine (hwn _).mono ?_; rintro e w1 ⟨rfl, hw⟩; subst w1))
      go_ret
      exact ⟨rfl, hB⟩
set_option maxRecDepth 20000 in
set_option maxHeartbeats 4000000 in
theorem nu_n_5 (num den mode : Int) (args : Fo) (a : Option Addr) (c : Nat) (hm : ¬ (1 : Int) ≤ mode) (W : World) : Calls Tryz.prog 104 #[.agg #[.int .i64 5, .int .i64 num, .int .i64 den, .int .i64 mode, .slice a args.len c]] W (Lk (.bool (nuB ⟨5, num, den, mode, args⟩)) W) := by
  have hB : Below W.heap.size W (W.alloc (.cells #[.int .i64 5, .int .i64 num, .int .i64 den, .int .i64 mode, .slice a args.len c] 59)) := (Below.refl _ _).alloc (Nat.le_refl _) _
  have hnu : nuB ⟨5, num, den, mode, args⟩ = ((true) && (true) && (mode == 0)) := by
    rfl
  rw [hnu]
  clear hnu
  go_enter Tryz.func104, Tryz.ntmps104
  go_wp2
  go_ret
  exact ⟨rfl, hB⟩
set_option maxRecDepth 20000 in
set_option maxHeartbeats 4000000 in
theorem nu_n_6 (num den mode : Int) (args : Fo) (a : Option Addr) (c : Nat) (hm : ¬ (1 : Int) ≤ mode) (W : World) : Calls Tryz.prog 104 #[.agg #[.int .i64 6, .int .i64 num, .int .i64 den, .int .i64 mode, .slice a args.len c]] W (Lk (.bool (nuB ⟨6, num, den, mode, args⟩)) W) := by
  have hB : Below W.heap.size W (W.alloc (.cells #[.int .i64 6, .int .i64 num, .int .i64 den, .int .i64 mode, .slice a args.len c] 59)) := (Below.refl _ _).alloc (Nat.le_refl _) _
  have hnu : nuB ⟨6, num, den, mode, args⟩ = ((true) && (den == 0) && (mode == 0)) := by
    rfl
  rw [hnu]
  clear hnu
  cases hD : (den == 0) with
  | false =>
    go_enter Tryz.func104, Tryz.ntmps104
    go_wp2
    go_ret
    exact ⟨rfl, hB⟩
  | true =>
    go_enter Tryz.func104, Tryz.ntmps104
    go_wp2
    go_ret
    exact ⟨rfl, hB⟩
end Go.Proofs.YtmklkcefbabhbaaGreat.R6
