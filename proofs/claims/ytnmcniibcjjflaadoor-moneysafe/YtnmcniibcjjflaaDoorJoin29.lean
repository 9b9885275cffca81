import Derived.Test.YtnmcniibcjjflaaDoorTurnRefusal
import Derived.Test.YtnmcniibcjjflaaDoorJoin6
import Derived.Test.YtnmcniibcjjflaaDoorJoin7
namespace Go.Proofs.YtnmcniibcjjflaaDoor
open Go.RowKit

set_option maxHeartbeats 1000000 in
theorem min_any (k0 n0 k1 n1 : Int) (w : World) (hK : Kinds w) (m : Int) (hm : (n1 < n0 ∧ m = n1) ∨ (¬ n1 < n0 ∧ m = n0)) (r : Int × Int) (hr : Hid (r = M.ans (M.refuse (takesB k0 2) k0 n0 [(k1, n1)]) (M.fit true k0 m))) :
    Calls Tryd.prog 28 #[.agg #[.int .i64 k0, .int .i64 n0], .agg #[.int .i64 k1, .int .i64 n1]] w fun e w' => e = .returned (.agg #[.int .i64 r.1, .int .i64 r.2]) ∧ Below w.heap.size w w' := by
  have hc := refusal_any 2 k0 n0 (some ⟨w.heap.size + 1 + 1 + 1, 0, none⟩) 1 [(k1, n1)] ((((w.alloc (cellsV k0 n0)).alloc (cellsV k1 n1)).alloc (cellsV 0 0)).alloc (cellsV k1 n1)) ((((hK.alloc _).alloc _).alloc _).alloc _) (vals_one ((Box.new _ _ _ _).of (by simp)))
  cases h1 : M.refuse (takesB k0 2) k0 n0 [(k1, n1)] with
  | some v =>
    obtain ⟨x, y⟩ := v
    rw [h1] at hc hr
    dsimp only [M.vk, M.vn, Option.isSome, List.length] at hc
    clear h1
    go_enter Tryd.func28, Tryd.ntmps28
    go_wp2_with (go_at_call 54; refine hc.mono ?_; clear hc; rintro e w1 ⟨rfl, hb1⟩; obtain ⟨-, -, hR1, hB1⟩ := start2 w k0 n0 k1 n1 (over_alloc _ hb1); obtain ⟨r0, r1, q0, q1⟩ := hR1.alloc (cellsV x y); clear hb1)
    exact bodyPost_ret (v := .agg #[.int .i64 x, .int .i64 y]) (by simp [results, Tryd.results28, go_sem, r0, r1]) rfl ⟨by rw [hr.out]; rfl, ((hB1.alloc hB1.size _).setCell (by simp; omega) _).setCell (by simp; omega) _⟩
  | none =>
    rw [h1] at hc hr
    dsimp only [M.vk, M.vn, Option.isSome, List.length] at hc
    clear h1
    rcases hm with ⟨hlt, hm⟩ | ⟨hlt, hm⟩
    all_goals
      subst m
      go_enter Tryd.func28, Tryd.ntmps28
      go_wp2_with (first | (go_at_call 54; refine hc.mono ?_; clear hc; rintro e w1 ⟨rfl, hb1⟩; obtain ⟨hX, hY, hR1, hB1⟩ := start2 w k0 n0 k1 n1 (over_alloc _ hb1); obtain ⟨x0, x1, -, -⟩ := hX.alloc (cellsV 0 0); obtain ⟨y0, y1, -, -⟩ := hY.alloc (cellsV 0 0); clear hb1 hX hY) | (go_at_call 53; refine (fitting_any _ _ _ _ ((hK.later hB1).alloc _)).mono ?_; rintro e w2 ⟨rfl, hb2⟩; obtain ⟨r0, r1, q0, q1⟩ := (hR1.alloc _).later hb2; have hB2 := below_step (hB1.alloc hB1.size _) hb2; clear hb2))
      exact bodyPost_ret (v := .agg #[.int .i64 r.1, .int .i64 r.2]) (by rw [hr.out]; simp [results, Tryd.results28, go_sem, r0, r1, M.ans]) rfl ⟨rfl, (hB2.setCell (by simp; omega) _).setCell (by simp; omega) _⟩

set_option maxHeartbeats 1000000 in
theorem max_any (k0 n0 k1 n1 : Int) (w : World) (hK : Kinds w) (m : Int) (hm : (n0 < n1 ∧ m = n1) ∨ (¬ n0 < n1 ∧ m = n0)) (r : Int × Int) (hr : Hid (r = M.ans (M.refuse (takesB k0 2) k0 n0 [(k1, n1)]) (M.fit true k0 m))) :
    Calls Tryd.prog 29 #[.agg #[.int .i64 k0, .int .i64 n0], .agg #[.int .i64 k1, .int .i64 n1]] w fun e w' => e = .returned (.agg #[.int .i64 r.1, .int .i64 r.2]) ∧ Below w.heap.size w w' := by
  have hc := refusal_any 2 k0 n0 (some ⟨w.heap.size + 1 + 1 + 1, 0, none⟩) 1 [(k1, n1)] ((((w.alloc (cellsV k0 n0)).alloc (cellsV k1 n1)).alloc (cellsV 0 0)).alloc (cellsV k1 n1)) ((((hK.alloc _).alloc _).alloc _).alloc _) (vals_one ((Box.new _ _ _ _).of (by simp)))
  cases h1 : M.refuse (takesB k0 2) k0 n0 [(k1, n1)] with
  | some v =>
    obtain ⟨x, y⟩ := v
    rw [h1] at hc hr
    dsimp only [M.vk, M.vn, Option.isSome, List.length] at hc
    clear h1
    go_enter Tryd.func29, Tryd.ntmps29
    go_wp2_with (go_at_call 54; refine hc.mono ?_; clear hc; rintro e w1 ⟨rfl, hb1⟩; obtain ⟨-, -, hR1, hB1⟩ := start2 w k0 n0 k1 n1 (over_alloc _ hb1); obtain ⟨r0, r1, q0, q1⟩ := hR1.alloc (cellsV x y); clear hb1)
    exact bodyPost_ret (v := .agg #[.int .i64 x, .int .i64 y]) (by simp [results, Tryd.results29, go_sem, r0, r1]) rfl ⟨by rw [hr.out]; rfl, ((hB1.alloc hB1.size _).setCell (by simp; omega) _).setCell (by simp; omega) _⟩
  | none =>
    rw [h1] at hc hr
    dsimp only [M.vk, M.vn, Option.isSome, List.length] at hc
    clear h1
    rcases hm with ⟨hlt, hm⟩ | ⟨hlt, hm⟩
    all_goals
      subst m
      go_enter Tryd.func29, Tryd.ntmps29
      go_wp2_with (first | (go_at_call 54; refine hc.mono ?_; clear hc; rintro e w1 ⟨rfl, hb1⟩; obtain ⟨hX, hY, hR1, hB1⟩ := start2 w k0 n0 k1 n1 (over_alloc _ hb1); obtain ⟨x0, x1, -, -⟩ := hX.alloc (cellsV 0 0); obtain ⟨y0, y1, -, -⟩ := hY.alloc (cellsV 0 0); clear hb1 hX hY) | (go_at_call 53; refine (fitting_any _ _ _ _ ((hK.later hB1).alloc _)).mono ?_; rintro e w2 ⟨rfl, hb2⟩; obtain ⟨r0, r1, q0, q1⟩ := (hR1.alloc _).later hb2; have hB2 := below_step (hB1.alloc hB1.size _) hb2; clear hb2))
      exact bodyPost_ret (v := .agg #[.int .i64 r.1, .int .i64 r.2]) (by rw [hr.out]; simp [results, Tryd.results29, go_sem, r0, r1, M.ans]) rfl ⟨rfl, (hB2.setCell (by simp; omega) _).setCell (by simp; omega) _⟩

end Go.Proofs.YtnmcniibcjjflaaDoor


namespace Go.Proofs.YtnmcniibcjjflaaDoor
open Go.RowKit

set_option maxHeartbeats 1000000 in
theorem add_any (k0 n0 k1 n1 : Int) (w : World) (hK : Kinds w) (r : Int × Int) (hr : Hid (r = M.ans (M.refuse (takesB k0 1) k0 n0 [(k1, n1)]) (M.fit true k0 (wrap64 (n0 + n1))))) :
    Calls Tryd.prog 21 #[.agg #[.int .i64 k0, .int .i64 n0], .agg #[.int .i64 k1, .int .i64 n1]] w fun e w' => e = .returned (.agg #[.int .i64 r.1, .int .i64 r.2]) ∧ Below w.heap.size w w' := by
  have hc := refusal_any 1 k0 n0 (some ⟨w.heap.size + 1 + 1 + 1, 0, none⟩) 1 [(k1, n1)] ((((w.alloc (cellsV k0 n0)).alloc (cellsV k1 n1)).alloc (cellsV 0 0)).alloc (cellsV k1 n1)) ((((hK.alloc _).alloc _).alloc _).alloc _) (vals_one ((Box.new _ _ _ _).of (by simp)))
  cases h1 : M.refuse (takesB k0 1) k0 n0 [(k1, n1)] with
  | some v =>
    obtain ⟨x, y⟩ := v
    rw [h1] at hc hr
    dsimp only [M.vk, M.vn, Option.isSome, List.length] at hc
    clear h1
    go_enter Tryd.func21, Tryd.ntmps21
    go_wp2_with (go_at_call 54; refine hc.mono ?_; clear hc; rintro e w1 ⟨rfl, hb1⟩; obtain ⟨-, -, hR1, hB1⟩ := start2 w k0 n0 k1 n1 (over_alloc _ hb1); obtain ⟨r0, r1, q0, q1⟩ := hR1.alloc (cellsV x y); clear hb1)
    exact bodyPost_ret (v := .agg #[.int .i64 x, .int .i64 y]) (by simp [results, Tryd.results21, go_sem, r0, r1]) rfl ⟨by rw [hr.out]; rfl, ((hB1.alloc hB1.size _).setCell (by simp; omega) _).setCell (by simp; omega) _⟩
  | none =>
    rw [h1] at hc hr
    dsimp only [M.vk, M.vn, Option.isSome, List.length] at hc
    clear h1
    go_enter Tryd.func21, Tryd.ntmps21
    go_wp2_with (first | (go_at_call 54; refine hc.mono ?_; clear hc; rintro e w1 ⟨rfl, hb1⟩; obtain ⟨hX, hY, hR1, hB1⟩ := start2 w k0 n0 k1 n1 (over_alloc _ hb1); obtain ⟨x0, x1, -, -⟩ := hX.alloc (cellsV 0 0); obtain ⟨y0, y1, -, -⟩ := hY.alloc (cellsV 0 0); clear hb1 hX hY) | (go_at_call 53; refine (fitting_any _ _ _ _ ((hK.later hB1).alloc _)).mono ?_; rintro e w2 ⟨rfl, hb2⟩; obtain ⟨r0, r1, q0, q1⟩ := (hR1.alloc _).later hb2; have hB2 := below_step (hB1.alloc hB1.size _) hb2; clear hb2))
    exact bodyPost_ret (v := .agg #[.int .i64 r.1, .int .i64 r.2]) (by rw [hr.out]; simp [results, Tryd.results21, go_sem, r0, r1, M.ans]) rfl ⟨rfl, (hB2.setCell (by simp; omega) _).setCell (by simp; omega) _⟩

set_option maxHeartbeats 1000000 in
theorem sub_any (k0 n0 k1 n1 : Int) (w : World) (hK : Kinds w) (r : Int × Int) (hr : Hid (r = M.ans (M.refuse (takesB k0 1) k0 n0 [(k1, n1)]) (M.fit true k0 (wrap64 (n0 - n1))))) :
    Calls Tryd.prog 25 #[.agg #[.int .i64 k0, .int .i64 n0], .agg #[.int .i64 k1, .int .i64 n1]] w fun e w' => e = .returned (.agg #[.int .i64 r.1, .int .i64 r.2]) ∧ Below w.heap.size w w' := by
  have hc := refusal_any 1 k0 n0 (some ⟨w.heap.size + 1 + 1 + 1, 0, none⟩) 1 [(k1, n1)] ((((w.alloc (cellsV k0 n0)).alloc (cellsV k1 n1)).alloc (cellsV 0 0)).alloc (cellsV k1 n1)) ((((hK.alloc _).alloc _).alloc _).alloc _) (vals_one ((Box.new _ _ _ _).of (by simp)))
  cases h1 : M.refuse (takesB k0 1) k0 n0 [(k1, n1)] with
  | some v =>
    obtain ⟨x, y⟩ := v
    rw [h1] at hc hr
    dsimp only [M.vk, M.vn, Option.isSome, List.length] at hc
    clear h1
    go_enter Tryd.func25, Tryd.ntmps25
    go_wp2_with (go_at_call 54; refine hc.mono ?_; clear hc; rintro e w1 ⟨rfl, hb1⟩; obtain ⟨-, -, hR1, hB1⟩ := start2 w k0 n0 k1 n1 (over_alloc _ hb1); obtain ⟨r0, r1, q0, q1⟩ := hR1.alloc (cellsV x y); clear hb1)
    exact bodyPost_ret (v := .agg #[.int .i64 x, .int .i64 y]) (by simp [results, Tryd.results25, go_sem, r0, r1]) rfl ⟨by rw [hr.out]; rfl, ((hB1.alloc hB1.size _).setCell (by simp; omega) _).setCell (by simp; omega) _⟩
  | none =>
    rw [h1] at hc hr
    dsimp only [M.vk, M.vn, Option.isSome, List.length] at hc
    clear h1
    go_enter Tryd.func25, Tryd.ntmps25
    go_wp2_with (first | (go_at_call 54; refine hc.mono ?_; clear hc; rintro e w1 ⟨rfl, hb1⟩; obtain ⟨hX, hY, hR1, hB1⟩ := start2 w k0 n0 k1 n1 (over_alloc _ hb1); obtain ⟨x0, x1, -, -⟩ := hX.alloc (cellsV 0 0); obtain ⟨y0, y1, -, -⟩ := hY.alloc (cellsV 0 0); clear hb1 hX hY) | (go_at_call 53; refine (fitting_any _ _ _ _ ((hK.later hB1).alloc _)).mono ?_; rintro e w2 ⟨rfl, hb2⟩; obtain ⟨r0, r1, q0, q1⟩ := (hR1.alloc _).later hb2; have hB2 := below_step (hB1.alloc hB1.size _) hb2; clear hb2))
    exact bodyPost_ret (v := .agg #[.int .i64 r.1, .int .i64 r.2]) (by rw [hr.out]; simp [results, Tryd.results25, go_sem, r0, r1, M.ans]) rfl ⟨rfl, (hB2.setCell (by simp; omega) _).setCell (by simp; omega) _⟩

set_option maxHeartbeats 1000000 in
theorem neg_any (k0 n0 : Int) (w : World) (hK : Kinds w) (r : Int × Int) (hr : Hid (r = M.ans (M.refuse (takesB k0 1) k0 n0 []) (M.fit true k0 (wrap64 (-n0))))) :
    Calls Tryd.prog 26 #[.agg #[.int .i64 k0, .int .i64 n0]] w fun e w' => e = .returned (.agg #[.int .i64 r.1, .int .i64 r.2]) ∧ Below w.heap.size w w' := by
  have hc := refusal_any 1 k0 n0 none 0 [] ((w.alloc (cellsV k0 n0)).alloc (cellsV 0 0)) ((hK.alloc _).alloc _) ⟨by simp, .inl rfl⟩
  cases h1 : M.refuse (takesB k0 1) k0 n0 [] with
  | some v =>
    obtain ⟨x, y⟩ := v
    rw [h1] at hc hr
    dsimp only [M.vk, M.vn, Option.isSome, List.length] at hc
    clear h1
    go_enter Tryd.func26, Tryd.ntmps26
    go_wp2_with (go_at_call 54; refine hc.mono ?_; clear hc; rintro e w1 ⟨rfl, hb1⟩; obtain ⟨-, hR1, hB1⟩ := start1 w k0 n0 hb1; obtain ⟨r0, r1, q0, q1⟩ := hR1.alloc (cellsV x y); clear hb1)
    exact bodyPost_ret (v := .agg #[.int .i64 x, .int .i64 y]) (by simp [results, Tryd.results26, go_sem, r0, r1]) rfl ⟨by rw [hr.out]; rfl, ((hB1.alloc hB1.size _).setCell (by simp) _).setCell (by simp) _⟩
  | none =>
    rw [h1] at hc hr
    dsimp only [M.vk, M.vn, Option.isSome, List.length] at hc
    clear h1
    go_enter Tryd.func26, Tryd.ntmps26
    go_wp2_with (first | (go_at_call 54; refine hc.mono ?_; clear hc; rintro e w1 ⟨rfl, hb1⟩; obtain ⟨hX, hR1, hB1⟩ := start1 w k0 n0 hb1; obtain ⟨x0, x1, -, -⟩ := hX.alloc (cellsV 0 0); clear hb1 hX) | (go_at_call 53; refine (fitting_any _ _ _ _ ((hK.later hB1).alloc _)).mono ?_; rintro e w2 ⟨rfl, hb2⟩; obtain ⟨r0, r1, q0, q1⟩ := (hR1.alloc _).later hb2; have hB2 := below_step (hB1.alloc hB1.size _) hb2; clear hb2))
    exact bodyPost_ret (v := .agg #[.int .i64 r.1, .int .i64 r.2]) (by rw [hr.out]; simp [results, Tryd.results26, go_sem, r0, r1, M.ans]) rfl ⟨rfl, (hB2.setCell (by simp) _).setCell (by simp) _⟩

end Go.Proofs.YtnmcniibcjjflaaDoor
