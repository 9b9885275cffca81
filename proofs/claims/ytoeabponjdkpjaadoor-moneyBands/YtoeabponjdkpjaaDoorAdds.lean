import Derived.Test.YtoeabponjdkpjaaDoorRefusal
import Derived.Test.YtoeabponjdkpjaaDoorRows2
import Derived.Test.YtoeabponjdkpjaaDoorFitting
namespace Go.Proofs.YtoeabponjdkpjaaDoor
open Go.RowKit

set_option maxHeartbeats 1000000 in
theorem add_any (k0 n0 k1 n1 : Int) (w : World) (hK : Kinds w) (r : Int × Int) (hr : Hid (r = M.ans (M.refuse (takesB k0 1) k0 n0 [(k1, n1)]) (M.fit true k0 (wrap64 (n0 + n1))))) :
    Calls Tryd.prog 31 #[.agg #[.int .i64 k0, .int .i64 n0], .agg #[.int .i64 k1, .int .i64 n1]] w fun e w' => e = .returned (.agg #[.int .i64 r.1, .int .i64 r.2]) ∧ Below w.heap.size w w' := by
  have hc := refusal_any 1 k0 n0 (some ⟨w.heap.size + 1 + 1 + 1, 0, none⟩) 1 [(k1, n1)] ((((w.alloc (cellsV k0 n0)).alloc (cellsV k1 n1)).alloc (cellsV 0 0)).alloc (cellsV k1 n1)) ((((hK.alloc _).alloc _).alloc _).alloc _) (vals_one ((Box.new _ _ _ _).of (by simp)))
  cases h1 : M.refuse (takesB k0 1) k0 n0 [(k1, n1)] with
  | some v =>
    obtain ⟨x, y⟩ := v
    rw [h1] at hc hr
    dsimp only [M.vk, M.vn, Option.isSome, List.length] at hc
    clear h1
    go_enter Tryd.func31, Tryd.ntmps31
    go_wp2_with (go_at_call 33; refine hc.mono ?_; clear hc; rintro e w1 ⟨rfl, hb1⟩; obtain ⟨-, -, hR1, hB1⟩ := start2 w k0 n0 k1 n1 (over_alloc _ hb1); obtain ⟨r0, r1, q0, q1⟩ := hR1.alloc (cellsV x y); clear hb1)
    exact bodyPost_ret (v := .agg #[.int .i64 x, .int .i64 y]) (by simp [results, Tryd.results31, go_sem, r0, r1]) rfl ⟨by rw [hr.out]; rfl, ((hB1.alloc hB1.size _).setCell (by simp; omega) _).setCell (by simp; omega) _⟩
  | none =>
    rw [h1] at hc hr
    dsimp only [M.vk, M.vn, Option.isSome, List.length] at hc
    clear h1
    go_enter Tryd.func31, Tryd.ntmps31
    go_wp2_with (first | (go_at_call 33; refine hc.mono ?_; clear hc; rintro e w1 ⟨rfl, hb1⟩; obtain ⟨hX, hY, hR1, hB1⟩ := start2 w k0 n0 k1 n1 (over_alloc _ hb1); obtain ⟨x0, x1, -, -⟩ := hX.alloc (cellsV 0 0); obtain ⟨y0, y1, -, -⟩ := hY.alloc (cellsV 0 0); clear hb1 hX hY) | (go_at_call 37; refine (fitting_any _ _ _ _ ((hK.later hB1).alloc _)).mono ?_; rintro e w2 ⟨rfl, hb2⟩; obtain ⟨r0, r1, q0, q1⟩ := (hR1.alloc _).later hb2; have hB2 := below_step (hB1.alloc hB1.size _) hb2; clear hb2))
    exact bodyPost_ret (v := .agg #[.int .i64 r.1, .int .i64 r.2]) (by rw [hr.out]; simp [results, Tryd.results31, go_sem, r0, r1, M.ans]) rfl ⟨rfl, (hB2.setCell (by simp; omega) _).setCell (by simp; omega) _⟩

set_option maxHeartbeats 1000000 in
theorem sub_any (k0 n0 k1 n1 : Int) (w : World) (hK : Kinds w) (r : Int × Int) (hr : Hid (r = M.ans (M.refuse (takesB k0 1) k0 n0 [(k1, n1)]) (M.fit true k0 (wrap64 (n0 - n1))))) :
    Calls Tryd.prog 48 #[.agg #[.int .i64 k0, .int .i64 n0], .agg #[.int .i64 k1, .int .i64 n1]] w fun e w' => e = .returned (.agg #[.int .i64 r.1, .int .i64 r.2]) ∧ Below w.heap.size w w' := by
  have hc := refusal_any 1 k0 n0 (some ⟨w.heap.size + 1 + 1 + 1, 0, none⟩) 1 [(k1, n1)] ((((w.alloc (cellsV k0 n0)).alloc (cellsV k1 n1)).alloc (cellsV 0 0)).alloc (cellsV k1 n1)) ((((hK.alloc _).alloc _).alloc _).alloc _) (vals_one ((Box.new _ _ _ _).of (by simp)))
  cases h1 : M.refuse (takesB k0 1) k0 n0 [(k1, n1)] with
  | some v =>
    obtain ⟨x, y⟩ := v
    rw [h1] at hc hr
    dsimp only [M.vk, M.vn, Option.isSome, List.length] at hc
    clear h1
    go_enter Tryd.func48, Tryd.ntmps48
    go_wp2_with (go_at_call 33; refine hc.mono ?_; clear hc; rintro e w1 ⟨rfl, hb1⟩; obtain ⟨-, -, hR1, hB1⟩ := start2 w k0 n0 k1 n1 (over_alloc _ hb1); obtain ⟨r0, r1, q0, q1⟩ := hR1.alloc (cellsV x y); clear hb1)
    exact bodyPost_ret (v := .agg #[.int .i64 x, .int .i64 y]) (by simp [results, Tryd.results48, go_sem, r0, r1]) rfl ⟨by rw [hr.out]; rfl, ((hB1.alloc hB1.size _).setCell (by simp; omega) _).setCell (by simp; omega) _⟩
  | none =>
    rw [h1] at hc hr
    dsimp only [M.vk, M.vn, Option.isSome, List.length] at hc
    clear h1
    go_enter Tryd.func48, Tryd.ntmps48
    go_wp2_with (first | (go_at_call 33; refine hc.mono ?_; clear hc; rintro e w1 ⟨rfl, hb1⟩; obtain ⟨hX, hY, hR1, hB1⟩ := start2 w k0 n0 k1 n1 (over_alloc _ hb1); obtain ⟨x0, x1, -, -⟩ := hX.alloc (cellsV 0 0); obtain ⟨y0, y1, -, -⟩ := hY.alloc (cellsV 0 0); clear hb1 hX hY) | (go_at_call 37; refine (fitting_any _ _ _ _ ((hK.later hB1).alloc _)).mono ?_; rintro e w2 ⟨rfl, hb2⟩; obtain ⟨r0, r1, q0, q1⟩ := (hR1.alloc _).later hb2; have hB2 := below_step (hB1.alloc hB1.size _) hb2; clear hb2))
    exact bodyPost_ret (v := .agg #[.int .i64 r.1, .int .i64 r.2]) (by rw [hr.out]; simp [results, Tryd.results48, go_sem, r0, r1, M.ans]) rfl ⟨rfl, (hB2.setCell (by simp; omega) _).setCell (by simp; omega) _⟩

set_option maxHeartbeats 1000000 in
theorem neg_any (k0 n0 : Int) (w : World) (hK : Kinds w) (r : Int × Int) (hr : Hid (r = M.ans (M.refuse (takesB k0 1) k0 n0 []) (M.fit true k0 (wrap64 (-n0))))) :
    Calls Tryd.prog 49 #[.agg #[.int .i64 k0, .int .i64 n0]] w fun e w' => e = .returned (.agg #[.int .i64 r.1, .int .i64 r.2]) ∧ Below w.heap.size w w' := by
  have hc := refusal_any 1 k0 n0 none 0 [] ((w.alloc (cellsV k0 n0)).alloc (cellsV 0 0)) ((hK.alloc _).alloc _) ⟨by simp, .inl rfl⟩
  cases h1 : M.refuse (takesB k0 1) k0 n0 [] with
  | some v =>
    obtain ⟨x, y⟩ := v
    rw [h1] at hc hr
    dsimp only [M.vk, M.vn, Option.isSome, List.length] at hc
    clear h1
    go_enter Tryd.func49, Tryd.ntmps49
    go_wp2_with (go_at_call 33; refine hc.mono ?_; clear hc; rintro e w1 ⟨rfl, hb1⟩; obtain ⟨-, hR1, hB1⟩ := start1 w k0 n0 hb1; obtain ⟨r0, r1, q0, q1⟩ := hR1.alloc (cellsV x y); clear hb1)
    exact bodyPost_ret (v := .agg #[.int .i64 x, .int .i64 y]) (by simp [results, Tryd.results49, go_sem, r0, r1]) rfl ⟨by rw [hr.out]; rfl, ((hB1.alloc hB1.size _).setCell (by simp) _).setCell (by simp) _⟩
  | none =>
    rw [h1] at hc hr
    dsimp only [M.vk, M.vn, Option.isSome, List.length] at hc
    clear h1
    go_enter Tryd.func49, Tryd.ntmps49
    go_wp2_with (first | (go_at_call 33; refine hc.mono ?_; clear hc; rintro e w1 ⟨rfl, hb1⟩; obtain ⟨hX, hR1, hB1⟩ := start1 w k0 n0 hb1; obtain ⟨x0, x1, -, -⟩ := hX.alloc (cellsV 0 0); clear hb1 hX) | (go_at_call 37; refine (fitting_any _ _ _ _ ((hK.later hB1).alloc _)).mono ?_; rintro e w2 ⟨rfl, hb2⟩; obtain ⟨r0, r1, q0, q1⟩ := (hR1.alloc _).later hb2; have hB2 := below_step (hB1.alloc hB1.size _) hb2; clear hb2))
    exact bodyPost_ret (v := .agg #[.int .i64 r.1, .int .i64 r.2]) (by rw [hr.out]; simp [results, Tryd.results49, go_sem, r0, r1, M.ans]) rfl ⟨rfl, (hB2.setCell (by simp) _).setCell (by simp) _⟩

end Go.Proofs.YtoeabponjdkpjaaDoor
