import Derived.Test.YtnmcniibcjjflaaDoorJoin7
import Derived.Test.YtnmcniibcjjflaaDoorJoin6
namespace Go.Proofs.YtnmcniibcjjflaaDoor
open Go.RowKit

/-- What is asked of the division on paper. -/
def Parts (a : Option Addr) (len cap : Nat) (n q r : Nat) (w : World) : Prop := Calls Tryd.prog 79 #[.slice a len cap, .int .i64 n] w fun e w' => e = .returned (.tuple #[.int .i64 (q : Int), .int .i64 (r : Int)]) ∧ w' = w

set_option maxHeartbeats 1000000 in
theorem rnd1 (a : Option Addr) (len cap n q r : Nat) (w : World) (_hq : (q : Int) ≤ 100000000000000) (_hr : (r : Int) < n) (_hn : (n : Int) ≤ 10000000000000) (hp : Parts a len cap n q r w) (c : (0 : Int) < r) :
    Calls Tryd.prog 69 #[.slice a len cap, .bool true, .int .i64 n, .int .i64 1] w fun e w' => e = .returned (.int .i64 (M.sgn true (M.rq true 1 q r n))) ∧ w' = w := by
  have e0 : M.rq true 1 q r n = q + 1 := M.rq_yes (by omega) rfl
  rw [e0]
  have e9 : M.sgn true (q + 1) = -((q : Int) + 1) := by simp [M.sgn]
  rw [e9]
  have hp' : Calls _ _ _ _ _ := hp
  clear e0 e9 hp
  go_enter Tryd.func69, Tryd.ntmps69
  go_wp2_with (go_at_call 79; refine hp'.mono ?_; clear hp'; rintro e w' ⟨rfl, rfl⟩)
  go_ret
  exact ⟨rfl, rfl⟩

set_option maxHeartbeats 1000000 in
theorem rnd2 (a : Option Addr) (len cap n q r : Nat) (w : World) (_hq : (q : Int) ≤ 100000000000000) (_hr : (r : Int) < n) (_hn : (n : Int) ≤ 10000000000000) (hp : Parts a len cap n q r w) (c : r = 0) :
    Calls Tryd.prog 69 #[.slice a len cap, .bool true, .int .i64 n, .int .i64 1] w fun e w' => e = .returned (.int .i64 (M.sgn true (M.rq true 1 q r n))) ∧ w' = w := by
  have e0 : M.rq true 1 q r n = q := M.rq_no (.inl c)
  rw [e0]
  have e9 : M.sgn true (q) = -(q : Int) := by simp [M.sgn]
  rw [e9]
  have hp' : Calls _ _ _ _ _ := hp
  clear e0 e9 hp
  subst c
  go_enter Tryd.func69, Tryd.ntmps69
  go_wp2_with (go_at_call 79; refine hp'.mono ?_; clear hp'; rintro e w' ⟨rfl, rfl⟩)
  go_ret
  exact ⟨rfl, rfl⟩

set_option maxHeartbeats 1000000 in
theorem rnd3 (a : Option Addr) (len cap n q r : Nat) (w : World) (_hq : (q : Int) ≤ 100000000000000) (_hr : (r : Int) < n) (_hn : (n : Int) ≤ 10000000000000) (hp : Parts a len cap n q r w)  :
    Calls Tryd.prog 69 #[.slice a len cap, .bool true, .int .i64 n, .int .i64 2] w fun e w' => e = .returned (.int .i64 (M.sgn true (M.rq true 2 q r n))) ∧ w' = w := by
  have e0 : M.rq true 2 q r n = q := M.rq_no (.inr rfl)
  rw [e0]
  have e9 : M.sgn true (q) = -(q : Int) := by simp [M.sgn]
  rw [e9]
  have hp' : Calls _ _ _ _ _ := hp
  clear e0 e9 hp
  go_enter Tryd.func69, Tryd.ntmps69
  go_wp2_with (go_at_call 79; refine hp'.mono ?_; clear hp'; rintro e w' ⟨rfl, rfl⟩)
  go_ret
  exact ⟨rfl, rfl⟩

set_option maxHeartbeats 1000000 in
theorem rnd4 (a : Option Addr) (len cap n q r : Nat) (w : World) (_hq : (q : Int) ≤ 100000000000000) (_hr : (r : Int) < n) (_hn : (n : Int) ≤ 10000000000000) (hp : Parts a len cap n q r w) (c : (n : Int) - r < r) :
    Calls Tryd.prog 69 #[.slice a len cap, .bool true, .int .i64 n, .int .i64 4] w fun e w' => e = .returned (.int .i64 (M.sgn true (M.rq true 4 q r n))) ∧ w' = w := by
  have e0 : M.rq true 4 q r n = q + 1 := M.rq_yes (by omega) (by simp [M.outw]; omega)
  rw [e0]
  have e9 : M.sgn true (q + 1) = -((q : Int) + 1) := by simp [M.sgn]
  rw [e9]
  have hp' : Calls _ _ _ _ _ := hp
  clear e0 e9 hp
  go_enter Tryd.func69, Tryd.ntmps69
  go_wp2_with (go_at_call 79; refine hp'.mono ?_; clear hp'; rintro e w' ⟨rfl, rfl⟩)
  go_ret
  exact ⟨rfl, rfl⟩

set_option maxHeartbeats 1000000 in
theorem rnd5 (a : Option Addr) (len cap n q r : Nat) (w : World) (_hq : (q : Int) ≤ 100000000000000) (_hr : (r : Int) < n) (_hn : (n : Int) ≤ 10000000000000) (hp : Parts a len cap n q r w) (c : decide ((n : Int) - r < r) = false) (c2 : ((r : Int) == (n : Int) - r) = false) :
    Calls Tryd.prog 69 #[.slice a len cap, .bool true, .int .i64 n, .int .i64 4] w fun e w' => e = .returned (.int .i64 (M.sgn true (M.rq true 4 q r n))) ∧ w' = w := by
  have e0 : M.rq true 4 q r n = q := M.rq_no (.inr (by simp at c c2; simp [M.outw]; omega))
  rw [e0]
  have e9 : M.sgn true (q) = -(q : Int) := by simp [M.sgn]
  rw [e9]
  have hp' : Calls _ _ _ _ _ := hp
  clear e0 e9 hp
  go_enter Tryd.func69, Tryd.ntmps69
  go_wp2_with (go_at_call 79; refine hp'.mono ?_; clear hp'; rintro e w' ⟨rfl, rfl⟩)
  go_ret
  exact ⟨rfl, rfl⟩

set_option maxHeartbeats 1000000 in
theorem rnd6 (a : Option Addr) (len cap n q r : Nat) (w : World) (_hq : (q : Int) ≤ 100000000000000) (_hr : (r : Int) < n) (_hn : (n : Int) ≤ 10000000000000) (hp : Parts a len cap n q r w) (c : decide ((n : Int) - r < r) = false) (c2 : ((r : Int) == (n : Int) - r) = true) :
    Calls Tryd.prog 69 #[.slice a len cap, .bool true, .int .i64 n, .int .i64 4] w fun e w' => e = .returned (.int .i64 (M.sgn true (M.rq true 4 q r n))) ∧ w' = w := by
  have e0 : M.rq true 4 q r n = q := M.rq_no (.inr (by simp at c; simp [M.outw]; omega))
  rw [e0]
  have e9 : M.sgn true (q) = -(q : Int) := by simp [M.sgn]
  rw [e9]
  have hp' : Calls _ _ _ _ _ := hp
  clear e0 e9 hp
  go_enter Tryd.func69, Tryd.ntmps69
  go_wp2_with (go_at_call 79; refine hp'.mono ?_; clear hp'; rintro e w' ⟨rfl, rfl⟩)
  go_ret
  exact ⟨rfl, rfl⟩

set_option maxHeartbeats 1000000 in
theorem rnd7 (a : Option Addr) (len cap n q r : Nat) (w : World) (_hq : (q : Int) ≤ 100000000000000) (_hr : (r : Int) < n) (_hn : (n : Int) ≤ 10000000000000) (hp : Parts a len cap n q r w) (c : (n : Int) - r < r) :
    Calls Tryd.prog 69 #[.slice a len cap, .bool true, .int .i64 n, .int .i64 5] w fun e w' => e = .returned (.int .i64 (M.sgn true (M.rq true 5 q r n))) ∧ w' = w := by
  have e0 : M.rq true 5 q r n = q + 1 := M.rq_yes (by omega) (by simp [M.outw]; omega)
  rw [e0]
  have e9 : M.sgn true (q + 1) = -((q : Int) + 1) := by simp [M.sgn]
  rw [e9]
  have hp' : Calls _ _ _ _ _ := hp
  clear e0 e9 hp
  go_enter Tryd.func69, Tryd.ntmps69
  go_wp2_with (go_at_call 79; refine hp'.mono ?_; clear hp'; rintro e w' ⟨rfl, rfl⟩)
  go_ret
  exact ⟨rfl, rfl⟩

set_option maxHeartbeats 1000000 in
theorem rnd8 (a : Option Addr) (len cap n q r : Nat) (w : World) (_hq : (q : Int) ≤ 100000000000000) (_hr : (r : Int) < n) (_hn : (n : Int) ≤ 10000000000000) (hp : Parts a len cap n q r w) (c : decide ((n : Int) - r < r) = false) (c2 : ((r : Int) == (n : Int) - r) = false) :
    Calls Tryd.prog 69 #[.slice a len cap, .bool true, .int .i64 n, .int .i64 5] w fun e w' => e = .returned (.int .i64 (M.sgn true (M.rq true 5 q r n))) ∧ w' = w := by
  have e0 : M.rq true 5 q r n = q := M.rq_no (.inr (by simp at c c2; simp [M.outw]; omega))
  rw [e0]
  have e9 : M.sgn true (q) = -(q : Int) := by simp [M.sgn]
  rw [e9]
  have hp' : Calls _ _ _ _ _ := hp
  clear e0 e9 hp
  go_enter Tryd.func69, Tryd.ntmps69
  go_wp2_with (go_at_call 79; refine hp'.mono ?_; clear hp'; rintro e w' ⟨rfl, rfl⟩)
  go_ret
  exact ⟨rfl, rfl⟩

set_option maxHeartbeats 1000000 in
theorem rnd9 (a : Option Addr) (len cap n q r : Nat) (w : World) (_hq : (q : Int) ≤ 100000000000000) (_hr : (r : Int) < n) (_hn : (n : Int) ≤ 10000000000000) (hp : Parts a len cap n q r w) (c : decide ((n : Int) - r < r) = false) (c2 : ((r : Int) == (n : Int) - r) = true) (c3 : ((q : Int) % 2 == 1) = true) :
    Calls Tryd.prog 69 #[.slice a len cap, .bool true, .int .i64 n, .int .i64 5] w fun e w' => e = .returned (.int .i64 (M.sgn true (M.rq true 5 q r n))) ∧ w' = w := by
  have e0 : M.rq true 5 q r n = q + 1 := M.rq_yes (by simp at c2; omega) (by simp at c2 c3; simp [M.outw]; omega)
  rw [e0]
  have e9 : M.sgn true (q + 1) = -((q : Int) + 1) := by simp [M.sgn]
  rw [e9]
  have hp' : Calls _ _ _ _ _ := hp
  clear e0 e9 hp
  go_enter Tryd.func69, Tryd.ntmps69
  go_wp2_with (go_at_call 79; refine hp'.mono ?_; clear hp'; rintro e w' ⟨rfl, rfl⟩)
  go_ret
  exact ⟨rfl, rfl⟩

set_option maxHeartbeats 1000000 in
theorem rnd10 (a : Option Addr) (len cap n q r : Nat) (w : World) (_hq : (q : Int) ≤ 100000000000000) (_hr : (r : Int) < n) (_hn : (n : Int) ≤ 10000000000000) (hp : Parts a len cap n q r w) (c : decide ((n : Int) - r < r) = false) (c2 : ((r : Int) == (n : Int) - r) = true) (c3 : ((q : Int) % 2 == 1) = false) :
    Calls Tryd.prog 69 #[.slice a len cap, .bool true, .int .i64 n, .int .i64 5] w fun e w' => e = .returned (.int .i64 (M.sgn true (M.rq true 5 q r n))) ∧ w' = w := by
  have e0 : M.rq true 5 q r n = q := M.rq_no (.inr (by simp at c c2 c3; simp [M.outw]; omega))
  rw [e0]
  have e9 : M.sgn true (q) = -(q : Int) := by simp [M.sgn]
  rw [e9]
  have hp' : Calls _ _ _ _ _ := hp
  clear e0 e9 hp
  go_enter Tryd.func69, Tryd.ntmps69
  go_wp2_with (go_at_call 79; refine hp'.mono ?_; clear hp'; rintro e w' ⟨rfl, rfl⟩)
  go_ret
  exact ⟨rfl, rfl⟩

set_option maxHeartbeats 1000000 in
theorem rnd11 (a : Option Addr) (len cap n q r : Nat) (mode : Int) (w : World) (_hq : (q : Int) ≤ 100000000000000) (_hr : (r : Int) < n) (_hn : (n : Int) ≤ 10000000000000) (hp : Parts a len cap n q r w) (e1 : (mode == 1) = false) (e2 : (mode == 2) = false) (e4 : (mode == 4) = false) (e5 : (mode == 5) = false) :
    Calls Tryd.prog 69 #[.slice a len cap, .bool true, .int .i64 n, .int .i64 mode] w fun e w' => e = .returned (.int .i64 (M.sgn true (M.rq true mode q r n))) ∧ w' = w := by
  have e0 : M.rq true mode q r n = q := M.rq_no (.inr (by simp at e1 e2 e4 e5; simp [M.outw, e1, e2, e4, e5]))
  rw [e0]
  have e9 : M.sgn true (q) = -(q : Int) := by simp [M.sgn]
  rw [e9]
  have hp' : Calls _ _ _ _ _ := hp
  clear e0 e9 hp
  go_enter Tryd.func69, Tryd.ntmps69
  go_wp2_with (go_at_call 79; refine hp'.mono ?_; clear hp'; rintro e w' ⟨rfl, rfl⟩)
  go_ret
  exact ⟨rfl, rfl⟩

set_option maxHeartbeats 1000000 in
theorem rnd12 (a : Option Addr) (len cap n q r : Nat) (w : World) (_hq : (q : Int) ≤ 100000000000000) (_hr : (r : Int) < n) (_hn : (n : Int) ≤ 10000000000000) (hp : Parts a len cap n q r w)  :
    Calls Tryd.prog 69 #[.slice a len cap, .bool false, .int .i64 n, .int .i64 1] w fun e w' => e = .returned (.int .i64 (M.sgn false (M.rq false 1 q r n))) ∧ w' = w := by
  have e0 : M.rq false 1 q r n = q := M.rq_no (.inr rfl)
  rw [e0]
  have e9 : M.sgn false (q) = (q : Int) := by simp [M.sgn]
  rw [e9]
  have hp' : Calls _ _ _ _ _ := hp
  clear e0 e9 hp
  go_enter Tryd.func69, Tryd.ntmps69
  go_wp2_with (go_at_call 79; refine hp'.mono ?_; clear hp'; rintro e w' ⟨rfl, rfl⟩)
  go_ret
  exact ⟨rfl, rfl⟩

set_option maxHeartbeats 1000000 in
theorem rnd13 (a : Option Addr) (len cap n q r : Nat) (w : World) (_hq : (q : Int) ≤ 100000000000000) (_hr : (r : Int) < n) (_hn : (n : Int) ≤ 10000000000000) (hp : Parts a len cap n q r w) (c : (0 : Int) < r) :
    Calls Tryd.prog 69 #[.slice a len cap, .bool false, .int .i64 n, .int .i64 2] w fun e w' => e = .returned (.int .i64 (M.sgn false (M.rq false 2 q r n))) ∧ w' = w := by
  have e0 : M.rq false 2 q r n = q + 1 := M.rq_yes (by omega) rfl
  rw [e0]
  have e9 : M.sgn false (q + 1) = ((q : Int) + 1) := by simp [M.sgn]
  rw [e9]
  have hp' : Calls _ _ _ _ _ := hp
  clear e0 e9 hp
  go_enter Tryd.func69, Tryd.ntmps69
  go_wp2_with (go_at_call 79; refine hp'.mono ?_; clear hp'; rintro e w' ⟨rfl, rfl⟩)
  go_ret
  exact ⟨rfl, rfl⟩

set_option maxHeartbeats 1000000 in
theorem rnd14 (a : Option Addr) (len cap n q r : Nat) (w : World) (_hq : (q : Int) ≤ 100000000000000) (_hr : (r : Int) < n) (_hn : (n : Int) ≤ 10000000000000) (hp : Parts a len cap n q r w) (c : r = 0) :
    Calls Tryd.prog 69 #[.slice a len cap, .bool false, .int .i64 n, .int .i64 2] w fun e w' => e = .returned (.int .i64 (M.sgn false (M.rq false 2 q r n))) ∧ w' = w := by
  have e0 : M.rq false 2 q r n = q := M.rq_no (.inl c)
  rw [e0]
  have e9 : M.sgn false (q) = (q : Int) := by simp [M.sgn]
  rw [e9]
  have hp' : Calls _ _ _ _ _ := hp
  clear e0 e9 hp
  subst c
  go_enter Tryd.func69, Tryd.ntmps69
  go_wp2_with (go_at_call 79; refine hp'.mono ?_; clear hp'; rintro e w' ⟨rfl, rfl⟩)
  go_ret
  exact ⟨rfl, rfl⟩

set_option maxHeartbeats 1000000 in
theorem rnd15 (a : Option Addr) (len cap n q r : Nat) (w : World) (_hq : (q : Int) ≤ 100000000000000) (_hr : (r : Int) < n) (_hn : (n : Int) ≤ 10000000000000) (hp : Parts a len cap n q r w) (c : (n : Int) - r < r) :
    Calls Tryd.prog 69 #[.slice a len cap, .bool false, .int .i64 n, .int .i64 4] w fun e w' => e = .returned (.int .i64 (M.sgn false (M.rq false 4 q r n))) ∧ w' = w := by
  have e0 : M.rq false 4 q r n = q + 1 := M.rq_yes (by omega) (by simp [M.outw]; omega)
  rw [e0]
  have e9 : M.sgn false (q + 1) = ((q : Int) + 1) := by simp [M.sgn]
  rw [e9]
  have hp' : Calls _ _ _ _ _ := hp
  clear e0 e9 hp
  go_enter Tryd.func69, Tryd.ntmps69
  go_wp2_with (go_at_call 79; refine hp'.mono ?_; clear hp'; rintro e w' ⟨rfl, rfl⟩)
  go_ret
  exact ⟨rfl, rfl⟩

set_option maxHeartbeats 1000000 in
theorem rnd16 (a : Option Addr) (len cap n q r : Nat) (w : World) (_hq : (q : Int) ≤ 100000000000000) (_hr : (r : Int) < n) (_hn : (n : Int) ≤ 10000000000000) (hp : Parts a len cap n q r w) (c : decide ((n : Int) - r < r) = false) (c2 : ((r : Int) == (n : Int) - r) = false) :
    Calls Tryd.prog 69 #[.slice a len cap, .bool false, .int .i64 n, .int .i64 4] w fun e w' => e = .returned (.int .i64 (M.sgn false (M.rq false 4 q r n))) ∧ w' = w := by
  have e0 : M.rq false 4 q r n = q := M.rq_no (.inr (by simp at c c2; simp [M.outw]; omega))
  rw [e0]
  have e9 : M.sgn false (q) = (q : Int) := by simp [M.sgn]
  rw [e9]
  have hp' : Calls _ _ _ _ _ := hp
  clear e0 e9 hp
  go_enter Tryd.func69, Tryd.ntmps69
  go_wp2_with (go_at_call 79; refine hp'.mono ?_; clear hp'; rintro e w' ⟨rfl, rfl⟩)
  go_ret
  exact ⟨rfl, rfl⟩

set_option maxHeartbeats 1000000 in
theorem rnd17 (a : Option Addr) (len cap n q r : Nat) (w : World) (_hq : (q : Int) ≤ 100000000000000) (_hr : (r : Int) < n) (_hn : (n : Int) ≤ 10000000000000) (hp : Parts a len cap n q r w) (c : decide ((n : Int) - r < r) = false) (c2 : ((r : Int) == (n : Int) - r) = true) :
    Calls Tryd.prog 69 #[.slice a len cap, .bool false, .int .i64 n, .int .i64 4] w fun e w' => e = .returned (.int .i64 (M.sgn false (M.rq false 4 q r n))) ∧ w' = w := by
  have e0 : M.rq false 4 q r n = q + 1 := M.rq_yes (by simp at c2; omega) (by simp at c2; simp [M.outw]; omega)
  rw [e0]
  have e9 : M.sgn false (q + 1) = ((q : Int) + 1) := by simp [M.sgn]
  rw [e9]
  have hp' : Calls _ _ _ _ _ := hp
  clear e0 e9 hp
  go_enter Tryd.func69, Tryd.ntmps69
  go_wp2_with (go_at_call 79; refine hp'.mono ?_; clear hp'; rintro e w' ⟨rfl, rfl⟩)
  go_ret
  exact ⟨rfl, rfl⟩

set_option maxHeartbeats 1000000 in
theorem rnd18 (a : Option Addr) (len cap n q r : Nat) (w : World) (_hq : (q : Int) ≤ 100000000000000) (_hr : (r : Int) < n) (_hn : (n : Int) ≤ 10000000000000) (hp : Parts a len cap n q r w) (c : (n : Int) - r < r) :
    Calls Tryd.prog 69 #[.slice a len cap, .bool false, .int .i64 n, .int .i64 5] w fun e w' => e = .returned (.int .i64 (M.sgn false (M.rq false 5 q r n))) ∧ w' = w := by
  have e0 : M.rq false 5 q r n = q + 1 := M.rq_yes (by omega) (by simp [M.outw]; omega)
  rw [e0]
  have e9 : M.sgn false (q + 1) = ((q : Int) + 1) := by simp [M.sgn]
  rw [e9]
  have hp' : Calls _ _ _ _ _ := hp
  clear e0 e9 hp
  go_enter Tryd.func69, Tryd.ntmps69
  go_wp2_with (go_at_call 79; refine hp'.mono ?_; clear hp'; rintro e w' ⟨rfl, rfl⟩)
  go_ret
  exact ⟨rfl, rfl⟩

set_option maxHeartbeats 1000000 in
theorem rnd19 (a : Option Addr) (len cap n q r : Nat) (w : World) (_hq : (q : Int) ≤ 100000000000000) (_hr : (r : Int) < n) (_hn : (n : Int) ≤ 10000000000000) (hp : Parts a len cap n q r w) (c : decide ((n : Int) - r < r) = false) (c2 : ((r : Int) == (n : Int) - r) = false) :
    Calls Tryd.prog 69 #[.slice a len cap, .bool false, .int .i64 n, .int .i64 5] w fun e w' => e = .returned (.int .i64 (M.sgn false (M.rq false 5 q r n))) ∧ w' = w := by
  have e0 : M.rq false 5 q r n = q := M.rq_no (.inr (by simp at c c2; simp [M.outw]; omega))
  rw [e0]
  have e9 : M.sgn false (q) = (q : Int) := by simp [M.sgn]
  rw [e9]
  have hp' : Calls _ _ _ _ _ := hp
  clear e0 e9 hp
  go_enter Tryd.func69, Tryd.ntmps69
  go_wp2_with (go_at_call 79; refine hp'.mono ?_; clear hp'; rintro e w' ⟨rfl, rfl⟩)
  go_ret
  exact ⟨rfl, rfl⟩

set_option maxHeartbeats 1000000 in
theorem rnd20 (a : Option Addr) (len cap n q r : Nat) (w : World) (_hq : (q : Int) ≤ 100000000000000) (_hr : (r : Int) < n) (_hn : (n : Int) ≤ 10000000000000) (hp : Parts a len cap n q r w) (c : decide ((n : Int) - r < r) = false) (c2 : ((r : Int) == (n : Int) - r) = true) (c3 : ((q : Int) % 2 == 1) = true) :
    Calls Tryd.prog 69 #[.slice a len cap, .bool false, .int .i64 n, .int .i64 5] w fun e w' => e = .returned (.int .i64 (M.sgn false (M.rq false 5 q r n))) ∧ w' = w := by
  have e0 : M.rq false 5 q r n = q + 1 := M.rq_yes (by simp at c2; omega) (by simp at c2 c3; simp [M.outw]; omega)
  rw [e0]
  have e9 : M.sgn false (q + 1) = ((q : Int) + 1) := by simp [M.sgn]
  rw [e9]
  have hp' : Calls _ _ _ _ _ := hp
  clear e0 e9 hp
  go_enter Tryd.func69, Tryd.ntmps69
  go_wp2_with (go_at_call 79; refine hp'.mono ?_; clear hp'; rintro e w' ⟨rfl, rfl⟩)
  go_ret
  exact ⟨rfl, rfl⟩

set_option maxHeartbeats 1000000 in
theorem rnd21 (a : Option Addr) (len cap n q r : Nat) (w : World) (_hq : (q : Int) ≤ 100000000000000) (_hr : (r : Int) < n) (_hn : (n : Int) ≤ 10000000000000) (hp : Parts a len cap n q r w) (c : decide ((n : Int) - r < r) = false) (c2 : ((r : Int) == (n : Int) - r) = true) (c3 : ((q : Int) % 2 == 1) = false) :
    Calls Tryd.prog 69 #[.slice a len cap, .bool false, .int .i64 n, .int .i64 5] w fun e w' => e = .returned (.int .i64 (M.sgn false (M.rq false 5 q r n))) ∧ w' = w := by
  have e0 : M.rq false 5 q r n = q := M.rq_no (.inr (by simp at c c2 c3; simp [M.outw]; omega))
  rw [e0]
  have e9 : M.sgn false (q) = (q : Int) := by simp [M.sgn]
  rw [e9]
  have hp' : Calls _ _ _ _ _ := hp
  clear e0 e9 hp
  go_enter Tryd.func69, Tryd.ntmps69
  go_wp2_with (go_at_call 79; refine hp'.mono ?_; clear hp'; rintro e w' ⟨rfl, rfl⟩)
  go_ret
  exact ⟨rfl, rfl⟩

set_option maxHeartbeats 1000000 in
theorem rnd22 (a : Option Addr) (len cap n q r : Nat) (mode : Int) (w : World) (_hq : (q : Int) ≤ 100000000000000) (_hr : (r : Int) < n) (_hn : (n : Int) ≤ 10000000000000) (hp : Parts a len cap n q r w) (e1 : (mode == 1) = false) (e2 : (mode == 2) = false) (e4 : (mode == 4) = false) (e5 : (mode == 5) = false) :
    Calls Tryd.prog 69 #[.slice a len cap, .bool false, .int .i64 n, .int .i64 mode] w fun e w' => e = .returned (.int .i64 (M.sgn false (M.rq false mode q r n))) ∧ w' = w := by
  have e0 : M.rq false mode q r n = q := M.rq_no (.inr (by simp at e1 e2 e4 e5; simp [M.outw, e1, e2, e4, e5]))
  rw [e0]
  have e9 : M.sgn false (q) = (q : Int) := by simp [M.sgn]
  rw [e9]
  have hp' : Calls _ _ _ _ _ := hp
  clear e0 e9 hp
  go_enter Tryd.func69, Tryd.ntmps69
  go_wp2_with (go_at_call 79; refine hp'.mono ?_; clear hp'; rintro e w' ⟨rfl, rfl⟩)
  go_ret
  exact ⟨rfl, rfl⟩

end Go.Proofs.YtnmcniibcjjflaaDoor
