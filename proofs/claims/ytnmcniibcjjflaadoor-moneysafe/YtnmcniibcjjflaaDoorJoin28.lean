import Derived.Test.YtnmcniibcjjflaaDoorJoin27
import Derived.Test.YtnmcniibcjjflaaDoorTurnRefCompare
import Derived.Test.YtnmcniibcjjflaaDoorJoin25
import Derived.Deep.RegionHeld3
import Derived.Test.YtnmcniibcjjflaaDoorJoin6
namespace Go.Proofs.YtnmcniibcjjflaaDoor
open Go.RowKit

theorem any_4 (k : Int) : ([(1 : Int), (2 : Int), (3 : Int), (4 : Int), (5 : Int)].any fun z => k == z) = takesB k 4 := by rw [takes_4, Bool.eq_iff_iff]; simp; omega

theorem rcompare_any (op k0 n0 k1 n1 : Int) (w : World) (r : Int × Int) (hr : r = M.ans (M.refuse (takesB k0 (useOf op)) k0 n0 [(k1, n1)]) (M.cmpn op n0 n1)) :
    Calls Tryd.prog 47 #[.int .i64 op, .agg #[.int .i64 k0, .int .i64 n0], .agg #[.int .i64 k1, .int .i64 n1]] w fun e w' => e = .returned (.agg #[.int .i64 r.1, .int .i64 r.2]) ∧ Below w.heap.size w w' := by
  cases h1 : M.mish [(k0, n0), (k1, n1)] with
  | some v =>
    rw [hr, M.refuse_some_any (x := v.1) (y := v.2) h1, M.ans_some]
    exact rcompare_some op k0 n0 k1 n1 w v.1 v.2 h1
  | none =>
    by_cases ho : op < 25 ∨ 30 < op
    · have e2 : M.cmpn op n0 n1 = (6, 5) := by unfold M.cmpn; rw [if_neg (by omega), if_neg (by omega), if_neg (by omega), if_neg (by omega), if_neg (by omega), if_neg (by omega)]
      have e3 : r = (6, 5) := by
        rw [hr, e2]
        rcases M.refuse_none_any (t := takesB k0 (useOf op)) h1 with h | h <;> rw [h] <;> rfl
      rw [e3]
      rcases ho with ho | ho
      · exact rcompare_lo op k0 n0 k1 n1 w ho h1
      · exact rcompare_hi op k0 n0 k1 n1 w ho h1
    · have : op = 25 ∨ op = 26 ∨ op = 27 ∨ op = 28 ∨ op = 29 ∨ op = 30 := by omega
      rcases this with rfl | rfl | rfl | rfl | rfl | rfl
      · have eu : useOf 25 = 4 := rfl
        rw [eu, ← any_4, M.refuse_alike h1] at hr
        cases h2 : M.alike k0 [(k0, n0), (k1, n1)] [1, 2, 3, 4, 5] with
        | false =>
          have e3 : r = (6, 5) := by rw [hr, h2]; rfl
          rw [e3]
          exact rcompare_25_no k0 n0 k1 n1 w h1 h2
        | true =>
          have e3 : r = (3, M.bit (n0 == n1)) := by rw [hr, h2]; rfl
          rw [e3]
          cases hy : (n0 == n1) with
          | true => exact rcompare_25_true k0 n0 k1 n1 w h1 h2 hy
          | false => exact rcompare_25_false k0 n0 k1 n1 w h1 h2 hy
      · have eu : useOf 26 = 4 := rfl
        rw [eu, ← any_4, M.refuse_alike h1] at hr
        cases h2 : M.alike k0 [(k0, n0), (k1, n1)] [1, 2, 3, 4, 5] with
        | false =>
          have e3 : r = (6, 5) := by rw [hr, h2]; rfl
          rw [e3]
          exact rcompare_26_no k0 n0 k1 n1 w h1 h2
        | true =>
          have e3 : r = (3, M.bit (n0 != n1)) := by rw [hr, h2]; rfl
          rw [e3]
          cases hy : (n0 != n1) with
          | true => exact rcompare_26_true k0 n0 k1 n1 w h1 h2 hy
          | false => exact rcompare_26_false k0 n0 k1 n1 w h1 h2 hy
      · have eu : useOf 27 = 2 := rfl
        rw [eu, ← any_2, M.refuse_alike h1] at hr
        cases h2 : M.alike k0 [(k0, n0), (k1, n1)] [1, 2, 4] with
        | false =>
          have e3 : r = (6, 5) := by rw [hr, h2]; rfl
          rw [e3]
          exact rcompare_27_no k0 n0 k1 n1 w h1 h2
        | true =>
          have e3 : r = (3, M.bit (decide (n0 < n1))) := by rw [hr, h2]; rfl
          rw [e3]
          by_cases hy : n0 < n1
          · rw [decide_eq_true hy]
            exact rcompare_27_true k0 n0 k1 n1 w h1 h2 hy
          · rw [decide_eq_false hy]
            exact rcompare_27_false k0 n0 k1 n1 w h1 h2 hy
      · have eu : useOf 28 = 2 := rfl
        rw [eu, ← any_2, M.refuse_alike h1] at hr
        cases h2 : M.alike k0 [(k0, n0), (k1, n1)] [1, 2, 4] with
        | false =>
          have e3 : r = (6, 5) := by rw [hr, h2]; rfl
          rw [e3]
          exact rcompare_28_no k0 n0 k1 n1 w h1 h2
        | true =>
          have e3 : r = (3, M.bit (decide (n0 ≤ n1))) := by rw [hr, h2]; rfl
          rw [e3]
          by_cases hy : n0 ≤ n1
          · rw [decide_eq_true hy]
            exact rcompare_28_true k0 n0 k1 n1 w h1 h2 hy
          · rw [decide_eq_false hy]
            exact rcompare_28_false k0 n0 k1 n1 w h1 h2 hy
      · have eu : useOf 29 = 2 := rfl
        rw [eu, ← any_2, M.refuse_alike h1] at hr
        cases h2 : M.alike k0 [(k0, n0), (k1, n1)] [1, 2, 4] with
        | false =>
          have e3 : r = (6, 5) := by rw [hr, h2]; rfl
          rw [e3]
          exact rcompare_29_no k0 n0 k1 n1 w h1 h2
        | true =>
          have e3 : r = (3, M.bit (decide (n1 < n0))) := by rw [hr, h2]; rfl
          rw [e3]
          by_cases hy : n1 < n0
          · rw [decide_eq_true hy]
            exact rcompare_29_true k0 n0 k1 n1 w h1 h2 hy
          · rw [decide_eq_false hy]
            exact rcompare_29_false k0 n0 k1 n1 w h1 h2 hy
      · have eu : useOf 30 = 2 := rfl
        rw [eu, ← any_2, M.refuse_alike h1] at hr
        cases h2 : M.alike k0 [(k0, n0), (k1, n1)] [1, 2, 4] with
        | false =>
          have e3 : r = (6, 5) := by rw [hr, h2]; rfl
          rw [e3]
          exact rcompare_30_no k0 n0 k1 n1 w h1 h2
        | true =>
          have e3 : r = (3, M.bit (decide (n1 ≤ n0))) := by rw [hr, h2]; rfl
          rw [e3]
          by_cases hy : n1 ≤ n0
          · rw [decide_eq_true hy]
            exact rcompare_30_true k0 n0 k1 n1 w h1 h2 hy
          · rw [decide_eq_false hy]
            exact rcompare_30_false k0 n0 k1 n1 w h1 h2 hy

end Go.Proofs.YtnmcniibcjjflaaDoor


namespace Go.Proofs.YtnmcniibcjjflaaDoor
open Go.RowKit

set_option maxHeartbeats 1000000 in
theorem rmin_any (k0 n0 k1 n1 : Int) (w : World) (m : Int) (hm : (n1 < n0 ∧ m = n1) ∨ (¬ n1 < n0 ∧ m = n0)) (r : Int × Int) (hr : Hid (r = M.ans (M.refuse ([(1 : Int), (2 : Int), (4 : Int)].any fun z => k0 == z) k0 n0 [(k1, n1)]) (M.fit true k0 m))) :
    Calls Tryd.prog 40 #[.agg #[.int .i64 k0, .int .i64 n0], .agg #[.int .i64 k1, .int .i64 n1]] w fun e w' => e = .returned (.agg #[.int .i64 r.1, .int .i64 r.2]) ∧ Below w.heap.size w w' := by
  rcases hm with ⟨hlt, hm⟩ | ⟨hlt, hm⟩
  all_goals
    subst m
    have hc := chosen_any (w.heap.size + 1 + 1 + 1) (w.heap.size + 1 + 1 + 1 + 1) k0 n0 _ [(k1, n1)] [1, 2, 4] 2 3 (((((w.alloc (cellsV k0 n0)).alloc (cellsV k1 n1)).alloc (cellsV 0 0)).alloc (cellsV2 k0 n0 k1 n1)).alloc (ints3 1 2 4)) (((row_two _ k0 n0 k1 n1).alloc _).of (by simp)) ((ints_three _ 1 2 4).of (by simp)) r hr
    dsimp only [List.length] at hc
    clear hr
    go_enter Tryd.func40, Tryd.ntmps40
    go_wp2_with (go_at_call 63; refine hc.mono ?_; clear hc; rintro e w1 ⟨rfl, hb1⟩; obtain ⟨-, -, ⟨r0, r1, q0, q1⟩, hB1⟩ := start2 w k0 n0 k1 n1 (over_alloc _ (over_alloc _ hb1)); clear hb1)
    exact bodyPost_ret (v := .agg #[.int .i64 r.1, .int .i64 r.2]) (by simp [results, Tryd.results40, go_sem, r0, r1]) rfl ⟨rfl, (hB1.setCell (by simp; omega) _).setCell (by simp; omega) _⟩

set_option maxHeartbeats 1000000 in
theorem rmax_any (k0 n0 k1 n1 : Int) (w : World) (m : Int) (hm : (n0 < n1 ∧ m = n1) ∨ (¬ n0 < n1 ∧ m = n0)) (r : Int × Int) (hr : Hid (r = M.ans (M.refuse ([(1 : Int), (2 : Int), (4 : Int)].any fun z => k0 == z) k0 n0 [(k1, n1)]) (M.fit true k0 m))) :
    Calls Tryd.prog 41 #[.agg #[.int .i64 k0, .int .i64 n0], .agg #[.int .i64 k1, .int .i64 n1]] w fun e w' => e = .returned (.agg #[.int .i64 r.1, .int .i64 r.2]) ∧ Below w.heap.size w w' := by
  rcases hm with ⟨hlt, hm⟩ | ⟨hlt, hm⟩
  all_goals
    subst m
    have hc := chosen_any (w.heap.size + 1 + 1 + 1) (w.heap.size + 1 + 1 + 1 + 1) k0 n0 _ [(k1, n1)] [1, 2, 4] 2 3 (((((w.alloc (cellsV k0 n0)).alloc (cellsV k1 n1)).alloc (cellsV 0 0)).alloc (cellsV2 k0 n0 k1 n1)).alloc (ints3 1 2 4)) (((row_two _ k0 n0 k1 n1).alloc _).of (by simp)) ((ints_three _ 1 2 4).of (by simp)) r hr
    dsimp only [List.length] at hc
    clear hr
    go_enter Tryd.func41, Tryd.ntmps41
    go_wp2_with (go_at_call 63; refine hc.mono ?_; clear hc; rintro e w1 ⟨rfl, hb1⟩; obtain ⟨-, -, ⟨r0, r1, q0, q1⟩, hB1⟩ := start2 w k0 n0 k1 n1 (over_alloc _ (over_alloc _ hb1)); clear hb1)
    exact bodyPost_ret (v := .agg #[.int .i64 r.1, .int .i64 r.2]) (by simp [results, Tryd.results41, go_sem, r0, r1]) rfl ⟨rfl, (hB1.setCell (by simp; omega) _).setCell (by simp; omega) _⟩

set_option maxHeartbeats 1000000 in
theorem rclamp_any (k0 n0 k1 n1 k2 n2 : Int) (w : World) (m : Int) (hm : (n0 < n1 ∧ m = n1) ∨ (¬ n0 < n1 ∧ n2 < n0 ∧ m = n2) ∨ (¬ n0 < n1 ∧ ¬ n2 < n0 ∧ m = n0)) (r : Int × Int) (hr : Hid (r = M.ans (M.refuse ([(1 : Int), (2 : Int), (4 : Int)].any fun z => k0 == z) k0 n0 [(k1, n1), (k2, n2)]) (M.fit true k0 m))) :
    Calls Tryd.prog 42 #[.agg #[.int .i64 k0, .int .i64 n0], .agg #[.int .i64 k1, .int .i64 n1], .agg #[.int .i64 k2, .int .i64 n2]] w fun e w' => e = .returned (.agg #[.int .i64 r.1, .int .i64 r.2]) ∧ Below w.heap.size w w' := by
  rcases hm with ⟨hlt, hm⟩ | ⟨hlt, hgt, hm⟩ | ⟨hlt, hgt, hm⟩
  all_goals
    subst m
    have hc := chosen_any (w.heap.size + 1 + 1 + 1 + 1) (w.heap.size + 1 + 1 + 1 + 1 + 1) k0 n0 _ [(k1, n1), (k2, n2)] [1, 2, 4] 3 3 ((((((w.alloc (cellsV k0 n0)).alloc (cellsV k1 n1)).alloc (cellsV k2 n2)).alloc (cellsV 0 0)).alloc (cellsV3 k0 n0 k1 n1 k2 n2)).alloc (ints3 1 2 4)) (((row_three _ k0 n0 k1 n1 k2 n2).alloc _).of (by simp)) ((ints_three _ 1 2 4).of (by simp)) r hr
    dsimp only [List.length] at hc
    clear hr
    go_enter Tryd.func42, Tryd.ntmps42
    go_wp2_with (go_at_call 63; refine hc.mono ?_; clear hc; rintro e w1 ⟨rfl, hb1⟩; obtain ⟨-, -, -, ⟨r0, r1, q0, q1⟩, hB1⟩ := start3 w k0 n0 k1 n1 k2 n2 (over_alloc _ (over_alloc _ hb1)); clear hb1)
    exact bodyPost_ret (v := .agg #[.int .i64 r.1, .int .i64 r.2]) (by simp [results, Tryd.results42, go_sem, r0, r1]) rfl ⟨rfl, (hB1.setCell (by simp; omega) _).setCell (by simp; omega) _⟩

end Go.Proofs.YtnmcniibcjjflaaDoor


namespace Go.Proofs.YtnmcniibcjjflaaDoor
open Go.RowKit

set_option maxHeartbeats 1000000 in
theorem radd_any (k0 n0 k1 n1 : Int) (w : World) (r : Int × Int) (hr : Hid (r = M.ans (M.refuse ([(1 : Int), (2 : Int)].any fun z => k0 == z) k0 n0 [(k1, n1)]) (M.fit true k0 (wrap64 (n0 + n1))))) :
    Calls Tryd.prog 36 #[.agg #[.int .i64 k0, .int .i64 n0], .agg #[.int .i64 k1, .int .i64 n1]] w fun e w' => e = .returned (.agg #[.int .i64 r.1, .int .i64 r.2]) ∧ Below w.heap.size w w' := by
  have hc := chosen_any (w.heap.size + 1 + 1 + 1) (w.heap.size + 1 + 1 + 1 + 1) k0 n0 (wrap64 (n0 + n1)) [(k1, n1)] [1, 2] 2 2 (((((w.alloc (cellsV k0 n0)).alloc (cellsV k1 n1)).alloc (cellsV 0 0)).alloc (cellsV2 k0 n0 k1 n1)).alloc (ints2 1 2)) (((row_two _ k0 n0 k1 n1).alloc _).of (by simp)) ((ints_two _ 1 2).of (by simp)) r hr
  dsimp only [List.length] at hc
  clear hr
  go_enter Tryd.func36, Tryd.ntmps36
  go_wp2_with (go_at_call 63; refine hc.mono ?_; clear hc; rintro e w1 ⟨rfl, hb1⟩; obtain ⟨-, -, ⟨r0, r1, q0, q1⟩, hB1⟩ := start2 w k0 n0 k1 n1 (over_alloc _ (over_alloc _ hb1)); clear hb1)
  exact bodyPost_ret (v := .agg #[.int .i64 r.1, .int .i64 r.2]) (by simp [results, Tryd.results36, go_sem, r0, r1]) rfl ⟨rfl, (hB1.setCell (by simp; omega) _).setCell (by simp; omega) _⟩

set_option maxHeartbeats 1000000 in
theorem rsub_any (k0 n0 k1 n1 : Int) (w : World) (r : Int × Int) (hr : Hid (r = M.ans (M.refuse ([(1 : Int), (2 : Int)].any fun z => k0 == z) k0 n0 [(k1, n1)]) (M.fit true k0 (wrap64 (n0 - n1))))) :
    Calls Tryd.prog 37 #[.agg #[.int .i64 k0, .int .i64 n0], .agg #[.int .i64 k1, .int .i64 n1]] w fun e w' => e = .returned (.agg #[.int .i64 r.1, .int .i64 r.2]) ∧ Below w.heap.size w w' := by
  have hc := chosen_any (w.heap.size + 1 + 1 + 1) (w.heap.size + 1 + 1 + 1 + 1) k0 n0 (wrap64 (n0 - n1)) [(k1, n1)] [1, 2] 2 2 (((((w.alloc (cellsV k0 n0)).alloc (cellsV k1 n1)).alloc (cellsV 0 0)).alloc (cellsV2 k0 n0 k1 n1)).alloc (ints2 1 2)) (((row_two _ k0 n0 k1 n1).alloc _).of (by simp)) ((ints_two _ 1 2).of (by simp)) r hr
  dsimp only [List.length] at hc
  clear hr
  go_enter Tryd.func37, Tryd.ntmps37
  go_wp2_with (go_at_call 63; refine hc.mono ?_; clear hc; rintro e w1 ⟨rfl, hb1⟩; obtain ⟨-, -, ⟨r0, r1, q0, q1⟩, hB1⟩ := start2 w k0 n0 k1 n1 (over_alloc _ (over_alloc _ hb1)); clear hb1)
  exact bodyPost_ret (v := .agg #[.int .i64 r.1, .int .i64 r.2]) (by simp [results, Tryd.results37, go_sem, r0, r1]) rfl ⟨rfl, (hB1.setCell (by simp; omega) _).setCell (by simp; omega) _⟩

set_option maxHeartbeats 1000000 in
theorem rneg_any (k0 n0 : Int) (w : World) (r : Int × Int) (hr : Hid (r = M.ans (M.refuse ([(1 : Int), (2 : Int)].any fun z => k0 == z) k0 n0 []) (M.fit true k0 (wrap64 (-n0))))) :
    Calls Tryd.prog 38 #[.agg #[.int .i64 k0, .int .i64 n0]] w fun e w' => e = .returned (.agg #[.int .i64 r.1, .int .i64 r.2]) ∧ Below w.heap.size w w' := by
  have hc := chosen_any (w.heap.size + 1 + 1) (w.heap.size + 1 + 1 + 1) k0 n0 (wrap64 (-n0)) [] [1, 2] 1 2 ((((w.alloc (cellsV k0 n0)).alloc (cellsV 0 0)).alloc (cellsV k0 n0)).alloc (ints2 1 2)) (((row_one _ k0 n0).alloc _).of (by simp)) ((ints_two _ 1 2).of (by simp)) r hr
  dsimp only [List.length] at hc
  clear hr
  go_enter Tryd.func38, Tryd.ntmps38
  go_wp2_with (go_at_call 63; refine hc.mono ?_; clear hc; rintro e w1 ⟨rfl, hb1⟩; obtain ⟨-, ⟨r0, r1, q0, q1⟩, hB1⟩ := start1 w k0 n0 (over_alloc _ (over_alloc _ hb1)); clear hb1)
  exact bodyPost_ret (v := .agg #[.int .i64 r.1, .int .i64 r.2]) (by simp [results, Tryd.results38, go_sem, r0, r1]) rfl ⟨rfl, (hB1.setCell (by simp) _).setCell (by simp) _⟩

set_option maxHeartbeats 1000000 in
theorem rabs_any (k0 n0 : Int) (w : World) (m : Int) (hm : (n0 < wrap64 (-n0) ∧ m = wrap64 (-n0)) ∨ (¬ n0 < wrap64 (-n0) ∧ m = n0)) (r : Int × Int) (hr : Hid (r = M.ans (M.refuse ([(1 : Int), (2 : Int)].any fun z => k0 == z) k0 n0 []) (M.fit true k0 m))) :
    Calls Tryd.prog 39 #[.agg #[.int .i64 k0, .int .i64 n0]] w fun e w' => e = .returned (.agg #[.int .i64 r.1, .int .i64 r.2]) ∧ Below w.heap.size w w' := by
  rcases hm with ⟨hlt, hm⟩ | ⟨hlt, hm⟩
  all_goals
    subst m
    have hc := chosen_any (w.heap.size + 1 + 1) (w.heap.size + 1 + 1 + 1) k0 n0 _ [] [1, 2] 1 2 ((((w.alloc (cellsV k0 n0)).alloc (cellsV 0 0)).alloc (cellsV k0 n0)).alloc (ints2 1 2)) (((row_one _ k0 n0).alloc _).of (by simp)) ((ints_two _ 1 2).of (by simp)) r hr
    dsimp only [List.length] at hc
    clear hr
    go_enter Tryd.func39, Tryd.ntmps39
    go_wp2_with (go_at_call 63; refine hc.mono ?_; clear hc; rintro e w1 ⟨rfl, hb1⟩; obtain ⟨-, ⟨r0, r1, q0, q1⟩, hB1⟩ := start1 w k0 n0 (over_alloc _ (over_alloc _ hb1)); clear hb1)
    exact bodyPost_ret (v := .agg #[.int .i64 r.1, .int .i64 r.2]) (by simp [results, Tryd.results39, go_sem, r0, r1]) rfl ⟨rfl, (hB1.setCell (by simp) _).setCell (by simp) _⟩

end Go.Proofs.YtnmcniibcjjflaaDoor
