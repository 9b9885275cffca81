import Derived.Test.YtnmcniibcjjflaaDoorTurnRefusal
import Derived.Test.YtnmcniibcjjflaaDoorJoin6
import Derived.Test.YtnmcniibcjjflaaDoorJoin7
import Derived.Test.YtnmcniibcjjflaaDoorJoin25
import Derived.Test.YtnmcniibcjjflaaDoorJoin5
import Derived.Test.YtnmcniibcjjflaaDoorJoin4
namespace Go.Proofs.YtnmcniibcjjflaaDoor
open Go.RowKit

set_option maxHeartbeats 1000000 in
theorem abs_any (k0 n0 : Int) (w : World) (hK : Kinds w) (m : Int) (hm : (n0 < wrap64 (-n0) ∧ m = wrap64 (-n0)) ∨ (¬ n0 < wrap64 (-n0) ∧ m = n0)) (r : Int × Int) (hr : Hid (r = M.ans (M.refuse (takesB k0 1) k0 n0 []) (M.fit true k0 m))) :
    Calls Tryd.prog 27 #[.agg #[.int .i64 k0, .int .i64 n0]] w fun e w' => e = .returned (.agg #[.int .i64 r.1, .int .i64 r.2]) ∧ Below w.heap.size w w' := by
  have hc := refusal_any 1 k0 n0 none 0 [] ((w.alloc (cellsV k0 n0)).alloc (cellsV 0 0)) ((hK.alloc _).alloc _) ⟨by simp, .inl rfl⟩
  cases h1 : M.refuse (takesB k0 1) k0 n0 [] with
  | some v =>
    obtain ⟨x, y⟩ := v
    rw [h1] at hc hr
    dsimp only [M.vk, M.vn, Option.isSome, List.length] at hc
    clear h1
    go_enter Tryd.func27, Tryd.ntmps27
    go_wp2_with (go_at_call 54; refine hc.mono ?_; clear hc; rintro e w1 ⟨rfl, hb1⟩; obtain ⟨-, hR1, hB1⟩ := start1 w k0 n0 hb1; obtain ⟨r0, r1, q0, q1⟩ := hR1.alloc (cellsV x y); clear hb1)
    exact bodyPost_ret (v := .agg #[.int .i64 x, .int .i64 y]) (by simp [results, Tryd.results27, go_sem, r0, r1]) rfl ⟨by rw [hr.out]; rfl, ((hB1.alloc hB1.size _).setCell (by simp) _).setCell (by simp) _⟩
  | none =>
    rw [h1] at hc hr
    dsimp only [M.vk, M.vn, Option.isSome, List.length] at hc
    clear h1
    rcases hm with ⟨hlt, hm⟩ | ⟨hlt, hm⟩
    all_goals
      subst m
      go_enter Tryd.func27, Tryd.ntmps27
      go_wp2_with (first | (go_at_call 54; refine hc.mono ?_; clear hc; rintro e w1 ⟨rfl, hb1⟩; obtain ⟨hX, hR1, hB1⟩ := start1 w k0 n0 hb1; obtain ⟨x0, x1, -, -⟩ := hX.alloc (cellsV 0 0); clear hb1 hX) | (go_at_call 53; refine (fitting_any _ _ _ _ ((hK.later hB1).alloc _)).mono ?_; rintro e w2 ⟨rfl, hb2⟩; obtain ⟨r0, r1, q0, q1⟩ := (hR1.alloc _).later hb2; have hB2 := below_step (hB1.alloc hB1.size _) hb2; clear hb2))
      exact bodyPost_ret (v := .agg #[.int .i64 r.1, .int .i64 r.2]) (by rw [hr.out]; simp [results, Tryd.results27, go_sem, r0, r1, M.ans]) rfl ⟨rfl, (hB2.setCell (by simp) _).setCell (by simp) _⟩

end Go.Proofs.YtnmcniibcjjflaaDoor


namespace Go.Proofs.YtnmcniibcjjflaaDoor
open Go.RowKit

set_option maxHeartbeats 1000000 in
theorem clamp_any (k0 n0 k1 n1 k2 n2 : Int) (w : World) (hK : Kinds w) (m : Int) (hm : IsClamp n0 n1 n2 m) (r : Int × Int) (hr : Hid (r = M.ans (M.refuse (takesB k0 2) k0 n0 [(k1, n1), (k2, n2)]) (M.fit true k0 m))) :
    Calls Tryd.prog 30 #[.agg #[.int .i64 k0, .int .i64 n0], .agg #[.int .i64 k1, .int .i64 n1], .agg #[.int .i64 k2, .int .i64 n2]] w fun e w' => e = .returned (.agg #[.int .i64 r.1, .int .i64 r.2]) ∧ Below w.heap.size w w' := by
  have hc := refusal_any 2 k0 n0 (some ⟨w.heap.size + 1 + 1 + 1 + 1, 0, none⟩) 2 [(k1, n1), (k2, n2)] (((((w.alloc (cellsV k0 n0)).alloc (cellsV k1 n1)).alloc (cellsV k2 n2)).alloc (cellsV 0 0)).alloc (cellsV2 k1 n1 k2 n2)) (((((hK.alloc _).alloc _).alloc _).alloc _).alloc _) ((row_two _ k1 n1 k2 n2).of (by simp)).vals
  cases h1 : M.refuse (takesB k0 2) k0 n0 [(k1, n1), (k2, n2)] with
  | some v =>
    obtain ⟨x, y⟩ := v
    rw [h1] at hc hr
    dsimp only [M.vk, M.vn, Option.isSome, List.length] at hc
    clear h1
    go_enter Tryd.func30, Tryd.ntmps30
    go_wp2_with (go_at_call 54; refine hc.mono ?_; clear hc; rintro e w1 ⟨rfl, hb1⟩; obtain ⟨-, -, -, hR1, hB1⟩ := start3 w k0 n0 k1 n1 k2 n2 (over_alloc _ hb1); obtain ⟨r0, r1, q0, q1⟩ := hR1.alloc (cellsV x y); clear hb1)
    exact bodyPost_ret (v := .agg #[.int .i64 x, .int .i64 y]) (by simp [results, Tryd.results30, go_sem, r0, r1]) rfl ⟨by rw [hr.out]; rfl, ((hB1.alloc hB1.size _).setCell (by simp; omega) _).setCell (by simp; omega) _⟩
  | none =>
    obtain ⟨-, hv0, hvs⟩ := M.refuse_none h1
    obtain ⟨e1, v1⟩ := hvs (k1, n1) (by simp)
    obtain ⟨e2, v2⟩ := hvs (k2, n2) (by simp)
    dsimp only at e1 e2 v1 v2
    subst k1 k2
    rw [h1] at hc hr
    dsimp only [M.vk, M.vn, Option.isSome, List.length] at hc
    have hr2 : Hid (r = M.fit true k0 m) := hr
    clear h1 hvs hr
    rcases hm with ⟨c1, hm⟩ | ⟨c1, c2, hm⟩ | ⟨c1, c2, hm⟩
    · have HR : Hid (r = (k0, n1)) := by unfold Hid; rw [hr2.out, hm, M.fit_ok v1]
      clear hr2 hv0 v1 v2 hm
      go_enter Tryd.func30, Tryd.ntmps30
      go_wp2_with (go_at_call 54; refine hc.mono ?_; clear hc; rintro e w1 ⟨rfl, hb1⟩; obtain ⟨hX, hY, hZ, hR1, hB1⟩ := start3 w k0 n0 k0 n1 k0 n2 (over_alloc _ hb1); obtain ⟨r0, r1, q0, q1⟩ := hR1.alloc (cellsV 0 0); obtain ⟨x0, x1, -, -⟩ := hX.alloc (cellsV 0 0); obtain ⟨y0, y1, -, -⟩ := hY.alloc (cellsV 0 0); obtain ⟨z0, z1, -, -⟩ := hZ.alloc (cellsV 0 0); clear hb1 hX hY hZ hR1)
      exact bodyPost_ret (v := .agg #[.int .i64 k0, .int .i64 n1]) (by simp [results, Tryd.results30, go_sem, r0, r1]) rfl ⟨by rw [HR.out], ((hB1.alloc hB1.size _).setCell (by simp; omega) _).setCell (by simp; omega) _⟩
    · have HR : Hid (r = (k0, n2)) := by unfold Hid; rw [hr2.out, hm, M.fit_ok v2]
      clear hr2 hv0 v1 v2 hm
      go_enter Tryd.func30, Tryd.ntmps30
      go_wp2_with (go_at_call 54; refine hc.mono ?_; clear hc; rintro e w1 ⟨rfl, hb1⟩; obtain ⟨hX, hY, hZ, hR1, hB1⟩ := start3 w k0 n0 k0 n1 k0 n2 (over_alloc _ hb1); obtain ⟨r0, r1, q0, q1⟩ := hR1.alloc (cellsV 0 0); obtain ⟨x0, x1, -, -⟩ := hX.alloc (cellsV 0 0); obtain ⟨y0, y1, -, -⟩ := hY.alloc (cellsV 0 0); obtain ⟨z0, z1, -, -⟩ := hZ.alloc (cellsV 0 0); clear hb1 hX hY hZ hR1)
      exact bodyPost_ret (v := .agg #[.int .i64 k0, .int .i64 n2]) (by simp [results, Tryd.results30, go_sem, r0, r1]) rfl ⟨by rw [HR.out], ((hB1.alloc hB1.size _).setCell (by simp; omega) _).setCell (by simp; omega) _⟩
    · have HR : Hid (r = (k0, n0)) := by unfold Hid; rw [hr2.out, hm, M.fit_ok hv0]
      clear hr2 hv0 v1 v2 hm
      go_enter Tryd.func30, Tryd.ntmps30
      go_wp2_with (go_at_call 54; refine hc.mono ?_; clear hc; rintro e w1 ⟨rfl, hb1⟩; obtain ⟨hX, hY, hZ, hR1, hB1⟩ := start3 w k0 n0 k0 n1 k0 n2 (over_alloc _ hb1); obtain ⟨r0, r1, q0, q1⟩ := hR1.alloc (cellsV 0 0); obtain ⟨x0, x1, -, -⟩ := hX.alloc (cellsV 0 0); obtain ⟨y0, y1, -, -⟩ := hY.alloc (cellsV 0 0); obtain ⟨z0, z1, -, -⟩ := hZ.alloc (cellsV 0 0); clear hb1 hX hY hZ hR1)
      exact bodyPost_ret (v := .agg #[.int .i64 k0, .int .i64 n0]) (by simp [results, Tryd.results30, go_sem, r0, r1]) rfl ⟨by rw [HR.out], ((hB1.alloc hB1.size _).setCell (by simp; omega) _).setCell (by simp; omega) _⟩

end Go.Proofs.YtnmcniibcjjflaaDoor


namespace Go.Proofs.YtnmcniibcjjflaaDoor
open Go.RowKit

set_option maxHeartbeats 1000000 in
theorem pair_some (k0 n0 k1 n1 : Int) (w : World) (hK : Kinds w) (x y : Int) (h1 : M.mish [(k0, n0), (k1, n1)] = some (x, y)) :
    Calls Tryd.prog 58 #[.agg #[.int .i64 k0, .int .i64 n0], .agg #[.int .i64 k1, .int .i64 n1]] w fun e w' => e = .returned (.tuple #[.agg #[.int .i64 x, .int .i64 y], .bool true]) ∧ Below w.heap.size w w' := by
  have hc := mishap_any (some ⟨w.heap.size + 1 + 1 + 1, 0, none⟩) 2 [(k0, n0), (k1, n1)] ((((w.alloc (cellsV k0 n0)).alloc (cellsV k1 n1)).alloc (cellsV 0 0)).alloc (cellsV2 k0 n0 k1 n1)) ((((hK.alloc _).alloc _).alloc _).alloc _) ((row_two _ k0 n0 k1 n1).of (by simp)).vals
  rw [h1] at hc
  dsimp only [M.vk, M.vn, Option.isSome, List.length] at hc
  clear h1
  go_enter Tryd.func58, Tryd.ntmps58
  go_wp2_with (go_at_call 73; refine hc.mono ?_; clear hc; rintro e w1 ⟨rfl, hb1⟩; obtain ⟨-, -, hR1, hB1⟩ := start2 w k0 n0 k1 n1 (over_alloc _ hb1); obtain ⟨r0, r1, q0, q1⟩ := hR1.alloc (cellsV x y); clear hb1)
  exact bodyPost_ret (v := .tuple #[.agg #[.int .i64 x, .int .i64 y], .bool true]) (by simp [results, Tryd.results58, go_sem, r0, r1]) rfl ⟨rfl, ((hB1.alloc hB1.size _).setCell (by simp; omega) _).setCell (by simp; omega) _⟩

set_option maxHeartbeats 1000000 in
theorem pair_no8 (k0 n0 k1 n1 : Int) (w : World) (hK : Kinds w) (h1 : M.mish [(k0, n0), (k1, n1)] = none) (e8 : takesB k0 8 = false) :
    Calls Tryd.prog 58 #[.agg #[.int .i64 k0, .int .i64 n0], .agg #[.int .i64 k1, .int .i64 n1]] w fun e w' => e = .returned (.tuple #[.agg #[.int .i64 6, .int .i64 5], .bool true]) ∧ Below w.heap.size w w' := by
  have hc := mishap_any (some ⟨w.heap.size + 1 + 1 + 1, 0, none⟩) 2 [(k0, n0), (k1, n1)] ((((w.alloc (cellsV k0 n0)).alloc (cellsV k1 n1)).alloc (cellsV 0 0)).alloc (cellsV2 k0 n0 k1 n1)) ((((hK.alloc _).alloc _).alloc _).alloc _) ((row_two _ k0 n0 k1 n1).of (by simp)).vals
  rw [h1] at hc
  dsimp only [M.vk, M.vn, Option.isSome, List.length] at hc
  clear h1
  have tok1 : True := trivial
  go_enter Tryd.func58, Tryd.ntmps58
  go_wp2_with (first | (go_at_call 73; refine hc.mono ?_; clear hc; rintro e w1 ⟨rfl, hb1⟩; obtain ⟨hX, hY, hR1, hB1⟩ := start2 w k0 n0 k1 n1 (over_alloc _ hb1); obtain ⟨r0, r1, q0, q1⟩ := hR1.alloc (cellsV 0 0); obtain ⟨x0, x1, -, -⟩ := hX.alloc (cellsV 0 0); obtain ⟨y0, y1, -, -⟩ := hY.alloc (cellsV 0 0); have hK1 := (hK.later hB1).alloc (cellsV 0 0); have ht8 := takes_any k0 8 _ hK1; clear hb1) | (go_at_call 17; have _u := tok1; clear tok1; rw [e8] at ht8; refine ht8.mono ?_; clear ht8; rintro e w' ⟨rfl, rfl⟩) | (go_at_call 18; refine (fault_any _ _).mono ?_; rintro e w2 ⟨rfl, hb2⟩; obtain ⟨s0, s1, t0, t1⟩ := (hR1.alloc _).later hb2; have hB2 := below_step (hB1.alloc hB1.size _) hb2; clear hb2))
  exact bodyPost_ret (v := .tuple #[.agg #[.int .i64 6, .int .i64 5], .bool true]) (by simp [results, Tryd.results58, go_sem, s0, s1]) rfl ⟨rfl, (hB2.setCell (by simp; omega) _).setCell (by simp; omega) _⟩

set_option maxHeartbeats 1000000 in
theorem pair_no16 (k0 n0 k1 n1 : Int) (w : World) (hK : Kinds w) (h1 : M.mish [(k0, n0), (k1, n1)] = none) (e8 : takesB k0 8 = true) (e6 : takesB k1 16 = false) :
    Calls Tryd.prog 58 #[.agg #[.int .i64 k0, .int .i64 n0], .agg #[.int .i64 k1, .int .i64 n1]] w fun e w' => e = .returned (.tuple #[.agg #[.int .i64 6, .int .i64 5], .bool true]) ∧ Below w.heap.size w w' := by
  have hc := mishap_any (some ⟨w.heap.size + 1 + 1 + 1, 0, none⟩) 2 [(k0, n0), (k1, n1)] ((((w.alloc (cellsV k0 n0)).alloc (cellsV k1 n1)).alloc (cellsV 0 0)).alloc (cellsV2 k0 n0 k1 n1)) ((((hK.alloc _).alloc _).alloc _).alloc _) ((row_two _ k0 n0 k1 n1).of (by simp)).vals
  rw [h1] at hc
  dsimp only [M.vk, M.vn, Option.isSome, List.length] at hc
  clear h1
  have tok1 : True := trivial
  go_enter Tryd.func58, Tryd.ntmps58
  go_wp2_with (first | (go_at_call 73; refine hc.mono ?_; clear hc; rintro e w1 ⟨rfl, hb1⟩; obtain ⟨hX, hY, hR1, hB1⟩ := start2 w k0 n0 k1 n1 (over_alloc _ hb1); obtain ⟨r0, r1, q0, q1⟩ := hR1.alloc (cellsV 0 0); obtain ⟨x0, x1, -, -⟩ := hX.alloc (cellsV 0 0); obtain ⟨y0, y1, -, -⟩ := hY.alloc (cellsV 0 0); have hK1 := (hK.later hB1).alloc (cellsV 0 0); have ht8 := takes_any k0 8 _ hK1; have ht6 := takes_any k1 16 _ hK1; clear hb1) | (go_at_call 17; have _u := tok1; clear tok1; rw [e8] at ht8; refine ht8.mono ?_; clear ht8; rintro e w' ⟨rfl, rfl⟩) | (go_at_call 17; rw [e6] at ht6; refine ht6.mono ?_; clear ht6; rintro e w' ⟨rfl, rfl⟩) | (go_at_call 18; refine (fault_any _ _).mono ?_; rintro e w2 ⟨rfl, hb2⟩; obtain ⟨s0, s1, t0, t1⟩ := (hR1.alloc _).later hb2; have hB2 := below_step (hB1.alloc hB1.size _) hb2; clear hb2))
  exact bodyPost_ret (v := .tuple #[.agg #[.int .i64 6, .int .i64 5], .bool true]) (by simp [results, Tryd.results58, go_sem, s0, s1]) rfl ⟨rfl, (hB2.setCell (by simp; omega) _).setCell (by simp; omega) _⟩

set_option maxHeartbeats 1000000 in
theorem pair_ok (k0 n0 k1 n1 : Int) (w : World) (hK : Kinds w) (h1 : M.mish [(k0, n0), (k1, n1)] = none) (e8 : takesB k0 8 = true) (e6 : takesB k1 16 = true) :
    Calls Tryd.prog 58 #[.agg #[.int .i64 k0, .int .i64 n0], .agg #[.int .i64 k1, .int .i64 n1]] w fun e w' => e = .returned (.tuple #[.agg #[.int .i64 0, .int .i64 0], .bool false]) ∧ Below w.heap.size w w' := by
  have hc := mishap_any (some ⟨w.heap.size + 1 + 1 + 1, 0, none⟩) 2 [(k0, n0), (k1, n1)] ((((w.alloc (cellsV k0 n0)).alloc (cellsV k1 n1)).alloc (cellsV 0 0)).alloc (cellsV2 k0 n0 k1 n1)) ((((hK.alloc _).alloc _).alloc _).alloc _) ((row_two _ k0 n0 k1 n1).of (by simp)).vals
  rw [h1] at hc
  dsimp only [M.vk, M.vn, Option.isSome, List.length] at hc
  clear h1
  have tok1 : True := trivial
  go_enter Tryd.func58, Tryd.ntmps58
  go_wp2_with (first | (go_at_call 73; refine hc.mono ?_; clear hc; rintro e w1 ⟨rfl, hb1⟩; obtain ⟨hX, hY, hR1, hB1⟩ := start2 w k0 n0 k1 n1 (over_alloc _ hb1); obtain ⟨r0, r1, q0, q1⟩ := hR1.alloc (cellsV 0 0); obtain ⟨x0, x1, -, -⟩ := hX.alloc (cellsV 0 0); obtain ⟨y0, y1, -, -⟩ := hY.alloc (cellsV 0 0); have hK1 := (hK.later hB1).alloc (cellsV 0 0); have ht8 := takes_any k0 8 _ hK1; have ht6 := takes_any k1 16 _ hK1; clear hb1) | (go_at_call 17; have _u := tok1; clear tok1; rw [e8] at ht8; refine ht8.mono ?_; clear ht8; rintro e w' ⟨rfl, rfl⟩) | (go_at_call 17; rw [e6] at ht6; refine ht6.mono ?_; clear ht6; rintro e w' ⟨rfl, rfl⟩))
  exact bodyPost_ret (v := .tuple #[.agg #[.int .i64 0, .int .i64 0], .bool false]) (by simp [results, Tryd.results58, go_sem, r0, r1]) rfl ⟨rfl, ((hB1.alloc hB1.size _).setCell (by simp; omega) _).setCell (by simp; omega) _⟩

theorem pair_any (k0 n0 k1 n1 : Int) (w : World) (hK : Kinds w) (r : Option (Int × Int)) (hr : r = M.pair (takesB k0 8) (takesB k1 16) k0 n0 k1 n1) :
    Calls Tryd.prog 58 #[.agg #[.int .i64 k0, .int .i64 n0], .agg #[.int .i64 k1, .int .i64 n1]] w fun e w' => e = .returned (.tuple #[.agg #[.int .i64 (M.vk r), .int .i64 (M.vn r)], .bool r.isSome]) ∧ Below w.heap.size w w' := by
  cases h1 : M.mish [(k0, n0), (k1, n1)] with
  | some v =>
    have e : r = some (v.1, v.2) := by rw [hr]; simp [M.pair, h1]
    rw [e]
    exact pair_some k0 n0 k1 n1 w hK v.1 v.2 h1
  | none =>
    cases e8 : takesB k0 8 with
    | false =>
      have e : r = some (6, 5) := by rw [hr]; simp [M.pair, h1, e8]
      rw [e]
      exact pair_no8 k0 n0 k1 n1 w hK h1 e8
    | true =>
      cases e6 : takesB k1 16 with
      | false =>
        have e : r = some (6, 5) := by rw [hr]; simp [M.pair, h1, e6]
        rw [e]
        exact pair_no16 k0 n0 k1 n1 w hK h1 e8 e6
      | true =>
        have e : r = none := by rw [hr]; simp [M.pair, h1, e8, e6]
        rw [e]
        exact pair_ok k0 n0 k1 n1 w hK h1 e8 e6

end Go.Proofs.YtnmcniibcjjflaaDoor
