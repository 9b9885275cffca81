import Derived.Test.YtjllbepecfajeabDoorKnown
import Derived.Test.YtjllbepecfajeabDoorPlain12
import Derived.Test.YtjllbepecfajeabDoorDivided
import Derived.Test.YtjllbepecfajeabDoorHeld1
import Derived.Test.YtjllbepecfajeabDoorBackV
namespace Go.Proofs.YtjllbepecfajeabDoor
open Go.RowKit

theorem scale_near (N num den mode : Int) (hN : -1000000 ≤ N ∧ N ≤ 1000000) (hnum : -900000000 ≤ num ∧ num ≤ 900000000) (hden : 1 ≤ den ∧ den ≤ 900000000) (hmode : 1 ≤ mode ∧ mode ≤ 5) (w : World) (hK : Kinds w)
    (hq : N.natAbs * num.natAbs / den.natAbs ≤ 1000000000000) (v : Int) (hv : Hid (v = M.sgn (decide (N < 0) != decide (num < 0)) (M.rndn (decide (N < 0) != decide (num < 0)) mode (N.natAbs * num.natAbs) den.natAbs))) :
    Calls Tryd.prog 14 #[.agg #[.int .i64 1, .int .i64 N], .int .i64 num, .int .i64 den, .int .i64 mode] w fun e w' => e = .returned (.agg #[.int .i64 1, .int .i64 v]) ∧ Below w.heap.size w w' := by
  have hp : N.natAbs * num.natAbs ≤ 1000000 * 900000000 := Nat.mul_le_mul (by omega) (by omega)
  have hvb : M.valid 1 v = true := by
    have h1 := M.rndn_le (decide (N < 0) != decide (num < 0)) mode (N.natAbs * num.natAbs) den.natAbs
    have h2 := hv.out
    unfold M.sgn at h2
    have h3 : -9999999999999 ≤ v ∧ v ≤ 9999999999999 := by
      split at h2 <;> omega
    unfold M.valid; simp; omega
  have tk : takesB 1 8 = true := rfl
  refine scale_any 1 N num den mode w hK (div_105 N num den (by omega)) (v, true) ?_ (1, v) ?_
  · unfold Hid M.wh; rw [if_pos (by omega), hv.out]
  · unfold Hid; rw [tk, M.refuse_good1 (by unfold M.valid; simp; omega) (by omega), M.ans_none, M.scl_ok (by omega) (by omega) hmode, M.fit_ok hvb]

/-- What a round of the loop wants. -/
structure NearAt (N num den k mode v up L : Int) : Prop where
  one : Hid (v = M.sgn (decide (N < 0) != decide (num < 0)) (M.rndn (decide (N < 0) != decide (num < 0)) mode (N.natAbs * num.natAbs) den.natAbs))
  two : Hid (v = M.sgn (decide (N < 0) != decide (num * k < 0)) (M.rndn (decide (N < 0) != decide (num * k < 0)) mode (N.natAbs * (num * k).natAbs) (den * k).natAbs))
  q1 : N.natAbs * num.natAbs / den.natAbs ≤ 1000000000000
  q2 : N.natAbs * (num * k).natAbs / (den * k).natAbs ≤ 1000000000000
  hnum : -900000000 ≤ num * k ∧ num * k ≤ 900000000
  hden : 1 ≤ den * k ∧ den * k ≤ 900000000
  vd : wrap64 (v * den) = v * den
  left : wrap64 (up - v * den) = L
  bd : -den < L ∧ L < den
  m1 : mode = 1 → 0 ≤ L ∧ L < den
  m2 : mode = 2 → L ≤ 0 ∧ -den < L
  m3 : mode = 3 → -den < L ∧ L < den ∧ (L = 0 ∨ (0 < L ↔ 0 < up))
  m4 : mode = 4 → 2 * L < den ∧ -den ≤ 2 * L
  m5 : mode = 5 → 2 * L ≤ den ∧ -den ≤ 2 * L ∧ ((2 * L ≠ den ∧ 2 * L ≠ -den) ∨ v % 2 = 0)

theorem scale_two (N U D Q m v up L a b : Int) (hN : -1000000 ≤ N ∧ N ≤ 1000000) (hm : 1 ≤ m ∧ m ≤ 5) (H : Hid (NearAt N U D Q m v up L)) (ha : a = U * Q) (hb : b = D * Q) (w : World) (hK : Kinds w) :
    Calls Tryd.prog 14 #[.agg #[.int .i64 1, .int .i64 N], .int .i64 a, .int .i64 b, .int .i64 m] w fun e w' => e = .returned (.agg #[.int .i64 1, .int .i64 v]) ∧ Below w.heap.size w w' := by
  subst ha hb
  exact scale_near N (U * Q) (D * Q) m hN H.out.hnum H.out.hden hm w hK H.out.q2 v H.out.two

theorem near_at (N num den k mode : Int) (hN : -1000000 ≤ N ∧ N ≤ 1000000) (hnum : -1000000 ≤ num ∧ num ≤ 1000000) (hden : 1 ≤ den ∧ den ≤ 1000000) (hk : 1 ≤ k ∧ k ≤ 900) :
    ∃ v L, NearAt N num den k mode v (N * num) L := by
  have hp : N.natAbs * num.natAbs ≤ 1000000 * 1000000 := Nat.mul_le_mul (by omega) (by omega)
  have hq : N.natAbs * num.natAbs / den.natAbs ≤ 1000000000000 := Nat.le_trans (Nat.div_le_self _ _) (by omega)
  have hk0 : 0 < k.natAbs := by omega
  have e1 : N.natAbs * (num * k).natAbs = N.natAbs * num.natAbs * k.natAbs := by rw [Int.natAbs_mul, Nat.mul_assoc]
  have e2 : (den * k).natAbs = den.natAbs * k.natAbs := Int.natAbs_mul _ _
  have ed : ((den.natAbs : Nat) : Int) = den := Int.natAbs_of_nonneg (by omega)
  have b1 : num.natAbs * k.natAbs ≤ 1000000 * 900 := Nat.mul_le_mul (by omega) (by omega)
  have b2 : den.natAbs * k.natAbs ≤ 1000000 * 900 := Nat.mul_le_mul (by omega) (by omega)
  have b3 : 1 * 1 ≤ den.natAbs * k.natAbs := Nat.mul_le_mul (by omega) (by omega)
  rw [← Int.natAbs_mul] at b1 b2 b3
  have b4 : 0 ≤ den * k := Int.mul_nonneg (by omega) (by omega)
  obtain ⟨v, hv⟩ : ∃ v, v = M.sgn (decide (N < 0) != decide (num < 0)) (M.rndn (decide (N < 0) != decide (num < 0)) mode (N.natAbs * num.natAbs) den.natAbs) := ⟨_, rfl⟩
  have nm := M.near_math _ mode _ den.natAbs (by omega) v (N * num) _ hv (M.sgn_mul N num) rfl
  have nr := M.near_rest _ mode _ den.natAbs (by omega) v (N * num) _ hv (M.sgn_mul N num) rfl
  have up : -1000000000000 ≤ N * num ∧ N * num ≤ 1000000000000 := by
    have := M.sgn_mul N num
    unfold M.sgn at this
    split at this <;> omega
  rw [ed] at nm nr
  refine ⟨v, N * num - v * den, hv, ?_, hq, ?_, by omega, by omega, wrap64_id (by omega) (by omega), wrap64_id (by omega) (by omega), nr, nm.1, nm.2.1, nm.2.2.1, nm.2.2.2.1, nm.2.2.2.2⟩
  · unfold Hid; rw [M.neg_mul_pos num k hk.1, e1, e2, M.rndn_mul _ _ _ _ _ hk0]; exact hv
  · rw [e1, e2, Nat.mul_div_mul_right _ _ hk0]; exact hq

end Go.Proofs.YtjllbepecfajeabDoor
