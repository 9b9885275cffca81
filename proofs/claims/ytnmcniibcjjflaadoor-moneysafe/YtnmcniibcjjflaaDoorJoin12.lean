import Derived.Test.YtnmcniibcjjflaaDoorJoin4
import Derived.Lib.Mul64
import Derived.Laws.Bits64b
import Derived.Test.YtnmcniibcjjflaaDoorJoin6
namespace Go.Proofs.YtnmcniibcjjflaaDoor
open Go.RowKit

theorem size_any (n : Int) (w : World) (h1 : -10000000000000 ≤ n) (h2 : n ≤ 10000000000000) :
    Calls Tryd.prog 75 #[.int .i64 n] w fun e w' => e = .returned (.int .u64 (n.natAbs : Int)) ∧ w' = w := by
  by_cases h : n < 0
  · have e : (n.natAbs : Int) = -n := by omega
    rw [e]
    go_enter Tryd.func75, Tryd.ntmps75
    go_wp2
    go_ret
    exact ⟨rfl, rfl⟩
  · have e : (n.natAbs : Int) = n := by omega
    rw [e]
    go_enter Tryd.func75, Tryd.ntmps75
    go_wp2
    go_ret
    exact ⟨rfl, rfl⟩

theorem maskN (a : Nat) (ha : a < 18446744073709551616) : bits .and .u64 (a : Int) 4294967295 = ((a % 4294967296 : Nat) : Int) := by
  have h := bits_and_u64_nat a 4294967295 ha (by omega)
  have e : a &&& 4294967295 = a % 4294967296 := Nat.and_two_pow_sub_one_eq_mod a 32
  rw [e] at h
  exact h
theorem divN (a : Nat) : (a : Int) / 4294967296 = ((a / 4294967296 : Nat) : Int) := by omega
theorem mulN (a b : Nat) : (a : Int) * (b : Int) = ((a * b : Nat) : Int) := (Int.natCast_mul a b).symm
theorem addN (a b : Nat) : (a : Int) + (b : Int) = ((a + b : Nat) : Int) := (Int.natCast_add a b).symm
theorem wrapN (a : Nat) (ha : a < 18446744073709551616) : IntKind.u64.wrap (a : Int) = (a : Int) := by rw [IntKind.wrap_u64]; omega
theorem wrapM (a : Nat) : IntKind.u64.wrap (a : Int) = ((a % 18446744073709551616 : Nat) : Int) := by rw [IntKind.wrap_u64]; omega

theorem quoN (a b : Nat) : (a : Int) / (b : Int) = ((a / b : Nat) : Int) := (Int.natCast_ediv a b).symm
theorem remN (a b : Nat) : (a : Int) % (b : Int) = ((a % b : Nat) : Int) := (Int.natCast_emod a b).symm

set_option maxHeartbeats 1000000 in
theorem mul64_any (x y : Nat) (hx : x < 18446744073709551616) (hy : y < 18446744073709551616) (w : World) :
    Calls Tryd.prog 74 #[.int .u64 x, .int .u64 y] w fun e w' => e = .returned (.tuple #[.int .u64 ((x * y / 18446744073709551616 : Nat) : Int), .int .u64 ((x * y % 18446744073709551616 : Nat) : Int)]) ∧ w' = w := by
  obtain ⟨bd, bt, bw, hhi⟩ := Lib.mul64_hi x y hx hy
  have ba := Lib.half_mul_le (a := x / 4294967296) (b := y / 4294967296) (by omega) (by omega)
  have bb := Lib.half_mul_le (a := x / 4294967296) (b := y % 4294967296) (by omega) (by omega)
  have bc := Lib.half_mul_le (a := x % 4294967296) (b := y / 4294967296) (by omega) (by omega)
  have ba' : x / 4294967296 * (y / 4294967296) < 18446744073709551616 := by omega
  have bb' : x / 4294967296 * (y % 4294967296) < 18446744073709551616 := by omega
  have bc' : x % 4294967296 * (y / 4294967296) < 18446744073709551616 := by omega
  have bh1 : x / 4294967296 * (y / 4294967296) + (x / 4294967296 * (y % 4294967296) + x % 4294967296 * (y % 4294967296) / 4294967296) / 4294967296 < 18446744073709551616 := by omega
  have bh : x / 4294967296 * (y / 4294967296) + (x / 4294967296 * (y % 4294967296) + x % 4294967296 * (y % 4294967296) / 4294967296) / 4294967296 + ((x / 4294967296 * (y % 4294967296) + x % 4294967296 * (y % 4294967296) / 4294967296) % 4294967296 + x % 4294967296 * (y / 4294967296)) / 4294967296 < 18446744073709551616 := by omega
  go_enter Tryd.func74, Tryd.ntmps74
  go_wp2
  simp only [maskN x hx, maskN y hy, divN, mulN, addN, wrapN _ bd, wrapN _ bb', wrapN _ bt, maskN _ bt, wrapN _ bc', wrapN _ bw, wrapN _ ba', wrapN _ bh1, wrapN _ bh, wrapM (x * y)]
  rw [hhi]
  go_ret2
  exact ⟨rfl, rfl⟩

set_option maxHeartbeats 1000000 in
theorem div64_small (lo y : Nat) (hy : 0 < y) (h1 : lo < 18446744073709551616) (h2 : y < 18446744073709551616) (w : World) :
    Calls Tryd.prog 76 #[.int .u64 0, .int .u64 lo, .int .u64 y] w fun e w' => e = .returned (.tuple #[.int .u64 ((lo / y : Nat) : Int), .int .u64 ((lo % y : Nat) : Int)]) ∧ Below w.heap.size w w' := by
  have hy0 : ((y : Int) == 0) = false := by simp; omega
  have hyn : ¬ (y : Int) = 0 := by omega
  have hle : ¬ (y : Int) ≤ 0 := by omega
  go_enter Tryd.func76, Tryd.ntmps76
  go_wp2
  go_quiet (fail)
  go_wp2
  simp only [quoN, remN, wrapN (lo / y) (Nat.lt_of_le_of_lt (Nat.div_le_self _ _) h1)]
  go_ret2
  exact ⟨rfl, below_drewN (Below.refl _ _) _⟩

set_option maxHeartbeats 1000000 in
theorem ratio_any (a num den : Int) (w : World) (a1 : -10000000000000 ≤ a) (a2 : a ≤ 10000000000000) (n1 : -10000000000000 ≤ num) (n2 : num ≤ 10000000000000) (d1 : -10000000000000 ≤ den) (d2 : den ≤ 10000000000000)
    (s : Bool) (hs : Hid (s = ((decide (a < 0) != decide (num < 0)) != decide (den < 0)))) :
    Calls Tryd.prog 56 #[.int .i64 a, .int .i64 num, .int .i64 den] w fun e w' =>
      e = .returned (.agg #[.bool s, .int .u64 ((a.natAbs * num.natAbs / 18446744073709551616 : Nat) : Int), .int .u64 ((a.natAbs * num.natAbs % 18446744073709551616 : Nat) : Int), .int .u64 (den.natAbs : Int)]) ∧ Below w.heap.size w w' := by
  have hA : a.natAbs < 18446744073709551616 := by omega
  have hN : num.natAbs < 18446744073709551616 := by omega
  go_enter Tryd.func56, Tryd.ntmps56
  go_wp2_with (first | (go_at_call 75; refine (size_any _ _ ?_ ?_).mono ?_; assumption; assumption; rintro e w' ⟨rfl, rfl⟩) | (go_at_call 74; refine (mul64_any _ _ hA hN _).mono ?_; rintro e w' ⟨rfl, rfl⟩))
  exact bodyPost_ret (v := .agg #[.bool s, .int .u64 ((a.natAbs * num.natAbs / 18446744073709551616 : Nat) : Int), .int .u64 ((a.natAbs * num.natAbs % 18446744073709551616 : Nat) : Int), .int .u64 (den.natAbs : Int)])
    (by rw [hs.out]; simp [results, Tryd.results56, go_sem]; generalize decide (a < 0) = x; generalize decide (num < 0) = y; generalize decide (den < 0) = z; cases x <;> cases y <;> cases z <;> rfl) rfl ⟨rfl, by simpa using (Below.refl w.heap.size w).alloc (Nat.le_refl _) _⟩

end Go.Proofs.YtnmcniibcjjflaaDoor


namespace Go.Proofs.YtnmcniibcjjflaaDoor
open Go.RowKit

abbrev qv (s : Bool) (hi lo d : Nat) : Value := .agg #[.bool s, .int .u64 hi, .int .u64 lo, .int .u64 d]
abbrev cellsQ (s : Bool) (hi lo d : Nat) : Obj := .cells #[.bool s, .int .u64 hi, .int .u64 lo, .int .u64 d] 73

set_option maxHeartbeats 1000000 in
theorem outward_any (s : Bool) (hi lo d n r : Nat) (mode : Int) (w : World) (hr : r < d) (hd : d < 18446744073709551616) :
    Calls Tryd.prog 77 #[qv s hi lo d, .int .i64 mode, .int .u64 n, .int .u64 r] w fun e w' => e = .returned (.bool (M.outw s mode n r d)) ∧ Below w.heap.size w w' := by
  by_cases m1 : mode = 1
  · subst m1
    go_enter Tryd.func77, Tryd.ntmps77
    go_wp2
    go_ret
    exact ⟨rfl, (Below.refl _ _).alloc (Nat.le_refl _) _⟩
  by_cases m2 : mode = 2
  · subst m2
    go_enter Tryd.func77, Tryd.ntmps77
    go_wp2
    go_ret
    exact ⟨rfl, (Below.refl _ _).alloc (Nat.le_refl _) _⟩
  by_cases m4 : mode = 4
  · subst m4
    by_cases c : (d : Int) - r < r
    · have e : M.outw s 4 n r d = true := by simp [M.outw]; omega
      rw [e]
      go_enter Tryd.func77, Tryd.ntmps77
      go_wp2
      go_ret
      exact ⟨rfl, (Below.refl _ _).alloc (Nat.le_refl _) _⟩
    · by_cases c2 : (r : Int) = (d : Int) - r
      · have e : M.outw s 4 n r d = !s := by
          have h2 : d = 2 * r := by omega
          subst h2
          cases s <;> simp [M.outw]
        rw [e]
        have c3 : decide ((d : Int) - r < r) = false := by simpa using c
        have c4 : ((r : Int) == (d : Int) - r) = true := by simpa using c2
        clear c c2
        go_enter Tryd.func77, Tryd.ntmps77
        go_wp2
        go_ret
        exact ⟨rfl, (Below.refl _ _).alloc (Nat.le_refl _) _⟩
      · have e : M.outw s 4 n r d = false := by simp [M.outw]; omega
        rw [e]
        have c3 : decide ((d : Int) - r < r) = false := by simpa using c
        have c4 : ((r : Int) == (d : Int) - r) = false := by simpa using c2
        clear c c2
        go_enter Tryd.func77, Tryd.ntmps77
        go_wp2
        go_ret
        exact ⟨rfl, (Below.refl _ _).alloc (Nat.le_refl _) _⟩
  by_cases m5 : mode = 5
  · subst m5
    by_cases c : (d : Int) - r < r
    · have e : M.outw s 5 n r d = true := by simp [M.outw]; omega
      rw [e]
      go_enter Tryd.func77, Tryd.ntmps77
      go_wp2
      go_ret
      exact ⟨rfl, (Below.refl _ _).alloc (Nat.le_refl _) _⟩
    · by_cases c2 : (r : Int) = (d : Int) - r
      · have e : M.outw s 5 n r d = ((n : Int) % 2 == 1) := by rw [Bool.eq_iff_iff]; simp [M.outw]; omega
        rw [e]
        have c3 : decide ((d : Int) - r < r) = false := by simpa using c
        have c4 : ((r : Int) == (d : Int) - r) = true := by simpa using c2
        clear c c2
        go_enter Tryd.func77, Tryd.ntmps77
        go_wp2
        go_ret
        exact ⟨rfl, (Below.refl _ _).alloc (Nat.le_refl _) _⟩
      · have e : M.outw s 5 n r d = false := by simp [M.outw]; omega
        rw [e]
        have c3 : decide ((d : Int) - r < r) = false := by simpa using c
        have c4 : ((r : Int) == (d : Int) - r) = false := by simpa using c2
        clear c c2
        go_enter Tryd.func77, Tryd.ntmps77
        go_wp2
        go_ret
        exact ⟨rfl, (Below.refl _ _).alloc (Nat.le_refl _) _⟩
  have e : M.outw s mode n r d = false := by simp [M.outw, m1, m2, m4, m5]
  rw [e]
  have e1 : (mode == 1) = false := by simpa using m1
  have e2 : (mode == 2) = false := by simpa using m2
  have e4 : (mode == 4) = false := by simpa using m4
  have e5 : (mode == 5) = false := by simpa using m5
  clear m1 m2 m4 m5
  go_enter Tryd.func77, Tryd.ntmps77
  go_wp2
  go_ret
  exact ⟨rfl, (Below.refl _ _).alloc (Nat.le_refl _) _⟩

set_option maxHeartbeats 2000000 in
theorem whole_far (s : Bool) (hi lo d : Nat) (mode : Int) (w : World) (h : d ≤ hi) :
    Calls Tryd.prog 57 #[qv s hi lo d, .int .i64 mode] w fun e w' => e = .returned (.tuple #[.int .i64 0, .bool false]) ∧ Below w.heap.size w w' := by
  have h' : (d : Int) ≤ hi := by omega
  go_enter Tryd.func57, Tryd.ntmps57
  go_wp2
  go_ret2
  exact ⟨rfl, (Below.refl _ _).alloc (Nat.le_refl _) _⟩

/-- The four cells of the receiver. -/
theorem quad (w : World) (s : Bool) (hi lo d : Nat) {w1 : World} (hb : Below (w.alloc (cellsQ s hi lo d)).heap.size (w.alloc (cellsQ s hi lo d)) w1) :
    w1.cell? ⟨w.heap.size, 0, none⟩ = some (.bool s) ∧ w1.cell? ⟨w.heap.size, 1, none⟩ = some (.int .u64 hi) ∧ w1.cell? ⟨w.heap.size, 2, none⟩ = some (.int .u64 lo) ∧ w1.cell? ⟨w.heap.size, 3, none⟩ = some (.int .u64 d) ∧ Below w.heap.size w w1 := by
  refine ⟨?_, ?_, ?_, ?_, below_step ((Below.refl _ _).alloc (Nat.le_refl _) _) hb⟩
  · rw [hb.cell (p := ⟨w.heap.size, 0, none⟩) (by simp), World.cell?_alloc_at _ _ _ _ rfl]; rfl
  · rw [hb.cell (p := ⟨w.heap.size, 1, none⟩) (by simp), World.cell?_alloc_at _ _ _ _ rfl]; rfl
  · rw [hb.cell (p := ⟨w.heap.size, 2, none⟩) (by simp), World.cell?_alloc_at _ _ _ _ rfl]; rfl
  · rw [hb.cell (p := ⟨w.heap.size, 3, none⟩) (by simp), World.cell?_alloc_at _ _ _ _ rfl]; rfl

/-- What is asked of the division. -/
def Divides (hi lo d p : Nat) : Prop := ∀ w : World, Calls Tryd.prog 76 #[.int .u64 hi, .int .u64 lo, .int .u64 d] w fun e w' => e = .returned (.tuple #[.int .u64 ((p / d : Nat) : Int), .int .u64 ((p % d : Nat) : Int)]) ∧ Below w.heap.size w w'

set_option maxHeartbeats 2000000 in
theorem whole_over (s : Bool) (hi lo d p : Nat) (mode : Int) (w : World) (h : hi < d) (hdiv : Divides hi lo d p) (hq : 9999999999999 < p / d) :
    Calls Tryd.prog 57 #[qv s hi lo d, .int .i64 mode] w fun e w' => e = .returned (.tuple #[.int .i64 0, .bool false]) ∧ Below w.heap.size w w' := by
  have h' : ¬ (d : Int) ≤ hi := by omega
  have hc := hdiv (w.alloc (cellsQ s hi lo d))
  generalize p / d = q at *
  generalize p % d = r at *
  have hq' : (9999999999999 : Int) < q := by omega
  clear hdiv
  go_enter Tryd.func57, Tryd.ntmps57
  go_wp2_with (go_at_call 76; refine hc.mono ?_; clear hc; rintro e w1 ⟨rfl, hb1⟩; obtain ⟨x0, x1, x2, x3, hB1⟩ := quad w s hi lo d hb1; clear hb1)
  go_ret2
  exact ⟨rfl, hB1⟩

set_option maxHeartbeats 2000000 in
theorem whole_flat (s : Bool) (hi lo d p : Nat) (mode : Int) (w : World) (h : hi < d) (hdiv : Divides hi lo d p) (hq : p / d ≤ 9999999999999) (hr : p % d = 0) :
    Calls Tryd.prog 57 #[qv s hi lo d, .int .i64 mode] w fun e w' => e = .returned (.tuple #[.int .i64 (M.sgn s (p / d)), .bool true]) ∧ Below w.heap.size w w' := by
  have h' : ¬ (d : Int) ≤ hi := by omega
  have hc := hdiv (w.alloc (cellsQ s hi lo d))
  rw [hr] at hc
  generalize p / d = q at *
  have hq' : ¬ (9999999999999 : Int) < q := by omega
  have hq2 : (q : Int) ≤ 9999999999999 := by omega
  clear hdiv hr
  cases s
  all_goals
    go_enter Tryd.func57, Tryd.ntmps57
    go_wp2_with (go_at_call 76; refine hc.mono ?_; clear hc; rintro e w1 ⟨rfl, hb1⟩; obtain ⟨x0, x1, x2, x3, hB1⟩ := quad w _ hi lo d hb1; clear hb1)
    go_ret2
    exact ⟨rfl, hB1⟩

set_option maxHeartbeats 4000000 in
theorem whole_rest (s : Bool) (hi lo d p : Nat) (mode : Int) (w : World) (h : hi < d) (hd : d < 18446744073709551616) (hdiv : Divides hi lo d p) (hq : p / d ≤ 9999999999999) (hr : p % d ≠ 0) (b : Bool) (ho : M.outw s mode (p / d) (p % d) d = b) :
    Calls Tryd.prog 57 #[qv s hi lo d, .int .i64 mode] w fun e w' => e = .returned (.tuple #[.int .i64 (M.sgn s (if b then p / d + 1 else p / d)), .bool true]) ∧ Below w.heap.size w w' := by
  have h' : ¬ (d : Int) ≤ hi := by omega
  have hc := hdiv (w.alloc (cellsQ s hi lo d))
  have hod := fun w1 : World => outward_any s hi lo d (p / d) (p % d) mode w1 (Nat.mod_lt _ (by omega)) hd
  rw [ho] at hod
  generalize p / d = q at *
  generalize p % d = r at *
  have hq' : ¬ (9999999999999 : Int) < q := by omega
  have hq2 : (q : Int) ≤ 9999999999999 := by omega
  have hr' : ((r : Int) != 0) = true := by simp; omega
  clear hdiv ho hr
  cases s <;> cases b
  all_goals
    go_enter Tryd.func57, Tryd.ntmps57
    go_wp2_with (first | (go_at_call 76; refine hc.mono ?_; clear hc; rintro e w1 ⟨rfl, hb1⟩; obtain ⟨x0, x1, x2, x3, hB1⟩ := quad w _ hi lo d hb1; clear hb1) | (go_at_call 77; refine (hod _).mono ?_; clear hod; rintro e w2 ⟨rfl, hb2⟩; have y0 := (hb2.cell (p := ⟨w.heap.size, 0, none⟩) (World.block_lt_of_cell? _ _ x0)).trans x0; have hB2 := below_step hB1 hb2; clear hb2))
    go_ret2
    exact ⟨rfl, hB2⟩

theorem whole_any (s : Bool) (hi lo d p : Nat) (mode : Int) (w : World) (hp : p = hi * 18446744073709551616 + lo) (hd0 : 0 < d) (hd : d < 18446744073709551616) (hdiv : hi < d → Divides hi lo d p) (r : Int × Bool) (hr : Hid (r = M.wh s mode p d)) :
    Calls Tryd.prog 57 #[qv s hi lo d, .int .i64 mode] w fun e w' => e = .returned (.tuple #[.int .i64 r.1, .bool r.2]) ∧ Below w.heap.size w w' := by
  rw [hr.out]
  by_cases h : hi < d
  · by_cases hq : p / d ≤ 9999999999999
    · have e : M.wh s mode p d = (M.sgn s (M.rndn s mode p d), true) := by simp [M.wh, hq]
      rw [e]
      by_cases hr0 : p % d = 0
      · rw [M.rndn_zero hr0]
        exact whole_flat s hi lo d p mode w h (hdiv h) hq hr0
      · cases ho : M.outw s mode (p / d) (p % d) d with
        | false => rw [M.rndn_no ho]; exact whole_rest s hi lo d p mode w h hd (hdiv h) hq hr0 false ho
        | true => rw [M.rndn_yes hr0 ho]; exact whole_rest s hi lo d p mode w h hd (hdiv h) hq hr0 true ho
    · have e : M.wh s mode p d = (0, false) := by simp [M.wh, hq]
      rw [e]
      exact whole_over s hi lo d p mode w h (hdiv h) (by omega)
  · have hq : ¬ p / d ≤ 9999999999999 := by
      have h1 : d * 18446744073709551616 ≤ p := by
        rw [hp]
        exact Nat.le_trans (Nat.mul_le_mul_right _ (by omega)) (Nat.le_add_right _ _)
      have h2 : 18446744073709551616 ≤ p / d := by rw [Nat.le_div_iff_mul_le hd0, Nat.mul_comm]; exact h1
      omega
    have e : M.wh s mode p d = (0, false) := by simp [M.wh, hq]
    rw [e]
    exact whole_far s hi lo d mode w (by omega)

end Go.Proofs.YtnmcniibcjjflaaDoor
