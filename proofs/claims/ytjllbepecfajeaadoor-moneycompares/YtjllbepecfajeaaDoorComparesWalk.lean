import Derived.Test.YtjllbepecfajeaaDoorCompare2
import Derived.Test.YtjllbepecfajeaaDoorRefCompare
import Derived.Test.YtjllbepecfajeaaDoorHeld
import Derived.Deep.RegionHeld3
namespace Go.Proofs.YtjllbepecfajeaaDoor
open Go.RowKit

theorem any_4 (k : Int) : ([(1 : Int), (2 : Int), (3 : Int), (4 : Int), (5 : Int)].any fun z => k == z) = takesB k 4 := by rw [takes_4, Bool.eq_iff_iff]; simp; omega

theorem rcompare_any (op k0 n0 k1 n1 : Int) (w : World) (r : Int × Int) (hr : r = M.ans (M.refuse (takesB k0 (useOf op)) k0 n0 [(k1, n1)]) (M.cmpn op n0 n1)) :
    Calls Tryd.prog 15 #[.int .i64 op, .agg #[.int .i64 k0, .int .i64 n0], .agg #[.int .i64 k1, .int .i64 n1]] w fun e w' => e = .returned (.agg #[.int .i64 r.1, .int .i64 r.2]) ∧ Below w.heap.size w w' := by
  cases h1 : M.mish [(k0, n0), (k1, n1)] with
  | some v =>
    rw [hr, M.refuse_some_any (x := v.1) (y := v.2) h1, M.ans_some]
    exact rcompare_some op k0 n0 k1 n1 w v.1 v.2 h1
  | none =>
    by_cases ho : op < 25 ∨ 30 < op
    · have e2 : M.cmpn op n0 n1 = (6, 5) := by unfold M.cmpn; rw [if_neg (by omega), if_neg (by omega), if_neg (by omega), if_neg (by omega), if_neg (by omega), if_neg (by omega)]
      have e3 : r = (6, 5) := by
        rw [hr, e2]
        rcases M.refuse_none_any (t := takesB k0 (useOf op)) h1 with h | h <;> rw [h] <;> rfl
      rw [e3]
      rcases ho with ho | ho
      · exact rcompare_lo op k0 n0 k1 n1 w ho h1
      · exact rcompare_hi op k0 n0 k1 n1 w ho h1
    · have : op = 25 ∨ op = 26 ∨ op = 27 ∨ op = 28 ∨ op = 29 ∨ op = 30 := by omega
      rcases this with rfl | rfl | rfl | rfl | rfl | rfl
      · have eu : useOf 25 = 4 := rfl
        rw [eu, ← any_4, M.refuse_alike h1] at hr
        cases h2 : M.alike k0 [(k0, n0), (k1, n1)] [1, 2, 3, 4, 5] with
        | false =>
          have e3 : r = (6, 5) := by rw [hr, h2]; rfl
          rw [e3]
          exact rcompare_25_no k0 n0 k1 n1 w h1 h2
        | true =>
          have e3 : r = (3, M.bit (n0 == n1)) := by rw [hr, h2]; rfl
          rw [e3]
          cases hy : (n0 == n1) with
          | true => exact rcompare_25_true k0 n0 k1 n1 w h1 h2 hy
          | false => exact rcompare_25_false k0 n0 k1 n1 w h1 h2 hy
      · have eu : useOf 26 = 4 := rfl
        rw [eu, ← any_4, M.refuse_alike h1] at hr
        cases h2 : M.alike k0 [(k0, n0), (k1, n1)] [1, 2, 3, 4, 5] with
        | false =>
          have e3 : r = (6, 5) := by rw [hr, h2]; rfl
          rw [e3]
          exact rcompare_26_no k0 n0 k1 n1 w h1 h2
        | true =>
          have e3 : r = (3, M.bit (n0 != n1)) := by rw [hr, h2]; rfl
          rw [e3]
          cases hy : (n0 != n1) with
          | true => exact rcompare_26_true k0 n0 k1 n1 w h1 h2 hy
          | false => exact rcompare_26_false k0 n0 k1 n1 w h1 h2 hy
      · have eu : useOf 27 = 2 := rfl
        rw [eu, ← any_2, M.refuse_alike h1] at hr
        cases h2 : M.alike k0 [(k0, n0), (k1, n1)] [1, 2, 4] with
        | false =>
          have e3 : r = (6, 5) := by rw [hr, h2]; rfl
          rw [e3]
          exact rcompare_27_no k0 n0 k1 n1 w h1 h2
        | true =>
          have e3 : r = (3, M.bit (decide (n0 < n1))) := by rw [hr, h2]; rfl
          rw [e3]
          by_cases hy : n0 < n1
          · rw [decide_eq_true hy]
            exact rcompare_27_true k0 n0 k1 n1 w h1 h2 hy
          · rw [decide_eq_false hy]
            exact rcompare_27_false k0 n0 k1 n1 w h1 h2 hy
      · have eu : useOf 28 = 2 := rfl
        rw [eu, ← any_2, M.refuse_alike h1] at hr
        cases h2 : M.alike k0 [(k0, n0), (k1, n1)] [1, 2, 4] with
        | false =>
          have e3 : r = (6, 5) := by rw [hr, h2]; rfl
          rw [e3]
          exact rcompare_28_no k0 n0 k1 n1 w h1 h2
        | true =>
          have e3 : r = (3, M.bit (decide (n0 ≤ n1))) := by rw [hr, h2]; rfl
          rw [e3]
          by_cases hy : n0 ≤ n1
          · rw [decide_eq_true hy]
            exact rcompare_28_true k0 n0 k1 n1 w h1 h2 hy
          · rw [decide_eq_false hy]
            exact rcompare_28_false k0 n0 k1 n1 w h1 h2 hy
      · have eu : useOf 29 = 2 := rfl
        rw [eu, ← any_2, M.refuse_alike h1] at hr
        cases h2 : M.alike k0 [(k0, n0), (k1, n1)] [1, 2, 4] with
        | false =>
          have e3 : r = (6, 5) := by rw [hr, h2]; rfl
          rw [e3]
          exact rcompare_29_no k0 n0 k1 n1 w h1 h2
        | true =>
          have e3 : r = (3, M.bit (decide (n1 < n0))) := by rw [hr, h2]; rfl
          rw [e3]
          by_cases hy : n1 < n0
          · rw [decide_eq_true hy]
            exact rcompare_29_true k0 n0 k1 n1 w h1 h2 hy
          · rw [decide_eq_false hy]
            exact rcompare_29_false k0 n0 k1 n1 w h1 h2 hy
      · have eu : useOf 30 = 2 := rfl
        rw [eu, ← any_2, M.refuse_alike h1] at hr
        cases h2 : M.alike k0 [(k0, n0), (k1, n1)] [1, 2, 4] with
        | false =>
          have e3 : r = (6, 5) := by rw [hr, h2]; rfl
          rw [e3]
          exact rcompare_30_no k0 n0 k1 n1 w h1 h2
        | true =>
          have e3 : r = (3, M.bit (decide (n1 ≤ n0))) := by rw [hr, h2]; rfl
          rw [e3]
          by_cases hy : n1 ≤ n0
          · rw [decide_eq_true hy]
            exact rcompare_30_true k0 n0 k1 n1 w h1 h2 hy
          · rw [decide_eq_false hy]
            exact rcompare_30_false k0 n0 k1 n1 w h1 h2 hy

set_option maxHeartbeats 4000000 in
theorem compares_walk (op k0 n0 k1 n1 : Int) (w : World) (hK : Kinds w) :
    Calls Tryd.prog 5 #[.int .i64 op, .agg #[.int .i64 k0, .int .i64 n0], .agg #[.int .i64 k1, .int .i64 n1]] w fun e w' => e = .returned (.bool true) ∧ Below w.heap.size w w' := by
  obtain ⟨A, hA⟩ : ∃ A, Hid (A = M.ans (M.refuse (takesB k0 (useOf op)) k0 n0 [(k1, n1)]) (M.cmpn op n0 n1)) := ⟨_, rfl⟩
  have h1 := first2 w k0 n0 k1 n1 hK _ rfl
  have h2 := keep2 h1 (Below.refl _ _).drew
  clear h1
  go_enter Tryd.func5, Tryd.ntmps5
  go_wp2
  go_region_held3 (fun X => X.cell? ⟨w.heap.size, 0, none⟩ = some (.int .i64 k0) ∧ X.cell? ⟨w.heap.size, 1, none⟩ = some (.int .i64 n0) ∧ X.cell? ⟨w.heap.size + 1, 0, none⟩ = some (.int .i64 k1) ∧ X.cell? ⟨w.heap.size + 1, 1, none⟩ = some (.int .i64 n1) ∧ Kinds X ∧ Below w.heap.size w X) (assumption)
    (first | (go_at_call 14; refine (held2 (w0 := w) (b0 := w.heap.size) (b1 := w.heap.size + 1) (x0 := .int .i64 k0) (y0 := .int .i64 n0) (x1 := .int .i64 k1) (y1 := .int .i64 n1) ?_ (fun h => compare_any op k0 n0 k1 n1 _ h A hA)).mono ?_; assumption; rintro e w1 ⟨rfl, hS1⟩) | (go_at_call 15; refine (held2 (w0 := w) (b0 := w.heap.size) (b1 := w.heap.size + 1) (x0 := .int .i64 k0) (y0 := .int .i64 n0) (x1 := .int .i64 k1) (y1 := .int .i64 n1) ?_ (fun _ => rcompare_any op k0 n0 k1 n1 _ A hA)).mono ?_; assumption; rintro e w1 ⟨rfl, hS1⟩))
  go_wp2
  go_ret
  exact ⟨rfl, hS1.2.2.2.2.2⟩

end Go.Proofs.YtjllbepecfajeaaDoor
