import Derived.Test.YtnmcniibcjjflaaDoorWhole
import Derived.Test.YtnmcniibcjjflaaDoorFitting
import Derived.Test.YtnmcniibcjjflaaDoorTakes
import Derived.Test.YtnmcniibcjjflaaDoorRows2
namespace Go.Proofs.YtnmcniibcjjflaaDoor
open Go.RowKit

theorem ratio_v (a num den : Int) (w : World) (a1 : -10000000000000 ≤ a) (a2 : a ≤ 10000000000000) (n1 : -10000000000000 ≤ num) (n2 : num ≤ 10000000000000) (d1 : -10000000000000 ≤ den) (d2 : den ≤ 10000000000000)
    (s : Bool) (hs : Hid (s = ((decide (a < 0) != decide (num < 0)) != decide (den < 0)))) (hi lo d : Nat) (h1 : Hid (hi = a.natAbs * num.natAbs / 18446744073709551616)) (h2 : Hid (lo = a.natAbs * num.natAbs % 18446744073709551616)) (h3 : Hid (d = den.natAbs)) :
    Calls Tryd.prog 56 #[.int .i64 a, .int .i64 num, .int .i64 den] w fun e w' => e = .returned (qv s hi lo d) ∧ Below w.heap.size w w' := by
  rw [h1.out, h2.out, h3.out]
  exact ratio_any a num den w a1 a2 n1 n2 d1 d2 s hs

theorem divides_small (p d : Nat) (hp : p < 18446744073709551616) (hd : 0 < d) (hd2 : d < 18446744073709551616) : Divides (p / 18446744073709551616) (p % 18446744073709551616) d p := by
  rw [Nat.div_eq_of_lt hp, Nat.mod_eq_of_lt hp]
  exact fun w => div64_small p d hd hp hd2 w

/-- What a quotient of two numbers within bounds is as a value: ratio, whole, fitting, one behind the other. -/
structure Quo (a num den mode : Int) (s : Bool) (hi lo d p : Nat) (r : Int × Bool) : Prop where
  a1 : -10000000000000 ≤ a
  a2 : a ≤ 10000000000000
  n1 : -10000000000000 ≤ num
  n2 : num ≤ 10000000000000
  d1 : -10000000000000 ≤ den
  d2 : den ≤ 10000000000000
  hs : s = ((decide (a < 0) != decide (num < 0)) != decide (den < 0))
  h1 : hi = a.natAbs * num.natAbs / 18446744073709551616
  h2 : lo = a.natAbs * num.natAbs % 18446744073709551616
  h3 : d = den.natAbs
  hp : p = a.natAbs * num.natAbs
  h0 : den ≠ 0
  div : hi < d → Divides hi lo d p
  hr : r = M.wh s mode p d

theorem Quo.ratio {a num den mode : Int} {s : Bool} {hi lo d p : Nat} {r : Int × Bool} (q : Quo a num den mode s hi lo d p r) (w : World) :
    Calls Tryd.prog 56 #[.int .i64 a, .int .i64 num, .int .i64 den] w fun e w' => e = .returned (qv s hi lo d) ∧ Below w.heap.size w w' :=
  ratio_v a num den w q.a1 q.a2 q.n1 q.n2 q.d1 q.d2 s q.hs hi lo d q.h1 q.h2 q.h3

theorem Quo.whole {a num den mode : Int} {s : Bool} {hi lo d p : Nat} {r : Int × Bool} (q : Quo a num den mode s hi lo d p r) (w : World) :
    Calls Tryd.prog 57 #[qv s hi lo d, .int .i64 mode] w fun e w' => e = .returned (.tuple #[.int .i64 r.1, .bool r.2]) ∧ Below w.heap.size w w' :=
  whole_any s hi lo d p mode w (by rw [q.hp, q.h1, q.h2]; omega) (by have := q.h3; have := q.h0; omega) (by have := q.h3; have := q.d1; have := q.d2; omega) q.div r q.hr

end Go.Proofs.YtnmcniibcjjflaaDoor
