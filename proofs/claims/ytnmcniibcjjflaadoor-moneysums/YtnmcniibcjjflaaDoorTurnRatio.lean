import Derived.Test.YtnmcniibcjjflaaDoorJoin5
import Derived.Lib.Mul64
import Derived.Laws.Bits64b
namespace Go.Proofs.YtnmcniibcjjflaaDoor
open Go.RowKit

theorem size_any (n : Int) (w : World) (h1 : -10000000000000 ≤ n) (h2 : n ≤ 10000000000000) :
    Calls Tryd.prog 75 #[.int .i64 n] w fun e w' => e = .returned (.int .u64 (n.natAbs : Int)) ∧ w' = w := by
  by_cases h : n < 0
  · have e : (n.natAbs : Int) = -n := by omega
    rw [e]
    go_enter Tryd.func75, Tryd.ntmps75
    go_wp2
    go_ret
    exact ⟨rfl, rfl⟩
  · have e : (n.natAbs : Int) = n := by omega
    rw [e]
    go_enter Tryd.func75, Tryd.ntmps75
    go_wp2
    go_ret
    exact ⟨rfl, rfl⟩

theorem maskN (a : Nat) (ha : a < 18446744073709551616) : bits .and .u64 (a : Int) 4294967295 = ((a % 4294967296 : Nat) : Int) := by
  have h := bits_and_u64_nat a 4294967295 ha (by omega)
  have e : a &&& 4294967295 = a % 4294967296 := Nat.and_two_pow_sub_one_eq_mod a 32
  rw [e] at h
  exact h
theorem divN (a : Nat) : (a : Int) / 4294967296 = ((a / 4294967296 : Nat) : Int) := by omega
theorem mulN (a b : Nat) : (a : Int) * (b : Int) = ((a * b : Nat) : Int) := (Int.natCast_mul a b).symm
theorem addN (a b : Nat) : (a : Int) + (b : Int) = ((a + b : Nat) : Int) := (Int.natCast_add a b).symm
theorem wrapN (a : Nat) (ha : a < 18446744073709551616) : IntKind.u64.wrap (a : Int) = (a : Int) := by rw [IntKind.wrap_u64]; omega
theorem wrapM (a : Nat) : IntKind.u64.wrap (a : Int) = ((a % 18446744073709551616 : Nat) : Int) := by rw [IntKind.wrap_u64]; omega

theorem quoN (a b : Nat) : (a : Int) / (b : Int) = ((a / b : Nat) : Int) := (Int.natCast_ediv a b).symm
theorem remN (a b : Nat) : (a : Int) % (b : Int) = ((a % b : Nat) : Int) := (Int.natCast_emod a b).symm

set_option maxHeartbeats 1000000 in
theorem mul64_any (x y : Nat) (hx : x < 18446744073709551616) (hy : y < 18446744073709551616) (w : World) :
    Calls Tryd.prog 74 #[.int .u64 x, .int .u64 y] w fun e w' => e = .returned (.tuple #[.int .u64 ((x * y / 18446744073709551616 : Nat) : Int), .int .u64 ((x * y % 18446744073709551616 : Nat) : Int)]) ∧ w' = w := by
  obtain ⟨bd, bt, bw, hhi⟩ := Lib.mul64_hi x y hx hy
  have ba := Lib.half_mul_le (a := x / 4294967296) (b := y / 4294967296) (by omega) (by omega)
  have bb := Lib.half_mul_le (a := x / 4294967296) (b := y % 4294967296) (by omega) (by omega)
  have bc := Lib.half_mul_le (a := x % 4294967296) (b := y / 4294967296) (by omega) (by omega)
  have ba' : x / 4294967296 * (y / 4294967296) < 18446744073709551616 := by omega
  have bb' : x / 4294967296 * (y % 4294967296) < 18446744073709551616 := by omega
  have bc' : x % 4294967296 * (y / 4294967296) < 18446744073709551616 := by omega
  have bh1 : x / 4294967296 * (y / 4294967296) + (x / 4294967296 * (y % 4294967296) + x % 4294967296 * (y % 4294967296) / 4294967296) / 4294967296 < 18446744073709551616 := by omega
  have bh : x / 4294967296 * (y / 4294967296) + (x / 4294967296 * (y % 4294967296) + x % 4294967296 * (y % 4294967296) / 4294967296) / 4294967296 + ((x / 4294967296 * (y % 4294967296) + x % 4294967296 * (y % 4294967296) / 4294967296) % 4294967296 + x % 4294967296 * (y / 4294967296)) / 4294967296 < 18446744073709551616 := by omega
  go_enter Tryd.func74, Tryd.ntmps74
  go_wp2
  simp only [maskN x hx, maskN y hy, divN, mulN, addN, wrapN _ bd, wrapN _ bb', wrapN _ bt, maskN _ bt, wrapN _ bc', wrapN _ bw, wrapN _ ba', wrapN _ bh1, wrapN _ bh, wrapM (x * y)]
  rw [hhi]
  go_ret2
  exact ⟨rfl, rfl⟩

set_option maxHeartbeats 1000000 in
theorem div64_small (lo y : Nat) (hy : 0 < y) (h1 : lo < 18446744073709551616) (h2 : y < 18446744073709551616) (w : World) :
    Calls Tryd.prog 76 #[.int .u64 0, .int .u64 lo, .int .u64 y] w fun e w' => e = .returned (.tuple #[.int .u64 ((lo / y : Nat) : Int), .int .u64 ((lo % y : Nat) : Int)]) ∧ Below w.heap.size w w' := by
  have hy0 : ((y : Int) == 0) = false := by simp; omega
  have hyn : ¬ (y : Int) = 0 := by omega
  have hle : ¬ (y : Int) ≤ 0 := by omega
  go_enter Tryd.func76, Tryd.ntmps76
  go_wp2
  go_quiet (fail)
  go_wp2
  simp only [quoN, remN, wrapN (lo / y) (Nat.lt_of_le_of_lt (Nat.div_le_self _ _) h1)]
  go_ret2
  exact ⟨rfl, below_drewN (Below.refl _ _) _⟩

set_option maxHeartbeats 1000000 in
theorem ratio_any (a num den : Int) (w : World) (a1 : -10000000000000 ≤ a) (a2 : a ≤ 10000000000000) (n1 : -10000000000000 ≤ num) (n2 : num ≤ 10000000000000) (d1 : -10000000000000 ≤ den) (d2 : den ≤ 10000000000000)
    (s : Bool) (hs : Hid (s = ((decide (a < 0) != decide (num < 0)) != decide (den < 0)))) :
    Calls Tryd.prog 56 #[.int .i64 a, .int .i64 num, .int .i64 den] w fun e w' =>
      e = .returned (.agg #[.bool s, .int .u64 ((a.natAbs * num.natAbs / 18446744073709551616 : Nat) : Int), .int .u64 ((a.natAbs * num.natAbs % 18446744073709551616 : Nat) : Int), .int .u64 (den.natAbs : Int)]) ∧ Below w.heap.size w w' := by
  have hA : a.natAbs < 18446744073709551616 := by omega
  have hN : num.natAbs < 18446744073709551616 := by omega
  go_enter Tryd.func56, Tryd.ntmps56
  go_wp2_with (first | (go_at_call 75; refine (size_any _ _ ?_ ?_).mono ?_; assumption; assumption; rintro e w' ⟨rfl, rfl⟩) | (go_at_call 74; refine (mul64_any _ _ hA hN _).mono ?_; rintro e w' ⟨rfl, rfl⟩))
  exact bodyPost_ret (v := .agg #[.bool s, .int .u64 ((a.natAbs * num.natAbs / 18446744073709551616 : Nat) : Int), .int .u64 ((a.natAbs * num.natAbs % 18446744073709551616 : Nat) : Int), .int .u64 (den.natAbs : Int)])
    (by rw [hs.out]; simp [results, Tryd.results56, go_sem]; generalize decide (a < 0) = x; generalize decide (num < 0) = y; generalize decide (den < 0) = z; cases x <;> cases y <;> cases z <;> rfl) rfl ⟨rfl, by simpa using (Below.refl w.heap.size w).alloc (Nat.le_refl _) _⟩

end Go.Proofs.YtnmcniibcjjflaaDoor
