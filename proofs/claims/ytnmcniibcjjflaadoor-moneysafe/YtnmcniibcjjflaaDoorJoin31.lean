import Derived.Test.YtnmcniibcjjflaaDoorJoin13
import Derived.Test.YtnmcniibcjjflaaDoorJoin30
import Derived.Test.YtnmcniibcjjflaaDoorJoin6
namespace Go.Proofs.YtnmcniibcjjflaaDoor
open Go.RowKit

theorem quo_split (n0 n1 mode : Int) (h0 : -9999999999999 ≤ n0 ∧ n0 ≤ 9999999999999) (h1 : -1000000000 ≤ n1 ∧ n1 ≤ 1000000000) (hz : n1 ≠ 0) (r : Int × Bool) (hr : r = M.wh (decide (n0 < 0) != decide (n1 < 0)) mode n0.natAbs n1.natAbs) :
    Quo n0 1 n1 mode (decide (n0 < 0) != decide (n1 < 0)) (n0.natAbs / 18446744073709551616) (n0.natAbs % 18446744073709551616) n1.natAbs n0.natAbs r where
  a1 := by omega
  a2 := by omega
  n1 := by omega
  n2 := by omega
  d1 := by omega
  d2 := by omega
  hs := by simp
  h1 := by simp
  h2 := by simp
  h3 := rfl
  hp := by simp
  h0 := hz
  div := fun _ => divides_small _ _ (by omega) (by omega) (by omega)
  hr := hr

set_option maxHeartbeats 2000000 in
theorem split_any (k0 n0 k1 n1 mode : Int) (w : World) (hK : Kinds w) (m : Int × Bool) (hm : Hid (m = M.wh (decide (n0 < 0) != decide (n1 < 0)) mode n0.natAbs n1.natAbs)) (r : Int × Int) (hr : Hid (r = M.ans (M.pair (takesB k0 8) (takesB k1 16) k0 n0 k1 n1) (M.spl mode n1 m))) :
    Calls Tryd.prog 23 #[.agg #[.int .i64 k0, .int .i64 n0], .agg #[.int .i64 k1, .int .i64 n1], .int .i64 mode] w fun e w' => e = .returned (.agg #[.int .i64 r.1, .int .i64 r.2]) ∧ Below w.heap.size w w' := by
  have hc := pair_any k0 n0 k1 n1 (((w.alloc (cellsV k0 n0)).alloc (cellsV k1 n1)).alloc (cellsV 0 0)) (((hK.alloc _).alloc _).alloc _) _ rfl
  cases h1 : M.pair (takesB k0 8) (takesB k1 16) k0 n0 k1 n1 with
  | some v =>
    obtain ⟨x, y⟩ := v
    rw [h1] at hc hr
    dsimp only [M.vk, M.vn, Option.isSome] at hc
    clear h1
    go_enter Tryd.func23, Tryd.ntmps23
    go_wp2_with (go_at_call 58; refine hc.mono ?_; clear hc; rintro e w1 ⟨rfl, hb1⟩; obtain ⟨-, -, hR1, hB1⟩ := start2 w k0 n0 k1 n1 hb1; obtain ⟨r0, r1, q0, q1⟩ := hR1.alloc (cellsV x y); clear hb1)
    exact bodyPost_ret (v := .agg #[.int .i64 x, .int .i64 y]) (by simp [results, Tryd.results23, go_sem, r0, r1]) rfl ⟨by rw [hr.out]; rfl, ((hB1.alloc hB1.size _).setCell (by simp; omega) _).setCell (by simp; omega) _⟩
  | none =>
    have hp := M.pair_none h1
    rw [h1] at hc hr
    dsimp only [M.vk, M.vn, Option.isSome] at hc
    have hr1 : r = M.spl mode n1 m := hr
    clear h1 hr
    by_cases hmd : 1 ≤ mode ∧ mode ≤ 5
    · by_cases hz : n1 = 0
      · subst hz
        have HR : Hid (r = (6, 2)) := by unfold Hid; rw [hr1, M.spl_zero hmd]
        clear hr1 hp hm
        go_enter Tryd.func23, Tryd.ntmps23
        go_wp2_with (first | (go_at_call 58; refine hc.mono ?_; clear hc; rintro e w1 ⟨rfl, hb1⟩; obtain ⟨hX, hY, hR1, hB1⟩ := start2 w k0 n0 k1 0 hb1; obtain ⟨x0, x1, -, -⟩ := hX.alloc (cellsV 0 0); obtain ⟨y0, y1, -, -⟩ := hY.alloc (cellsV 0 0); clear hb1 hX hY) | (go_at_call 55; refine (isMode_yes _ _ hmd).mono ?_; rintro e w' ⟨rfl, rfl⟩) | (go_at_call 18; refine (fault_any _ _).mono ?_; rintro e w2 ⟨rfl, hb2⟩; obtain ⟨r0, r1, q0, q1⟩ := (hR1.alloc _).later hb2; have hB2 := below_step (hB1.alloc hB1.size _) hb2; clear hb2))
        exact bodyPost_ret (v := .agg #[.int .i64 6, .int .i64 2]) (by simp [results, Tryd.results23, go_sem, r0, r1]) rfl ⟨by rw [HR.out], (hB2.setCell (by simp; omega) _).setCell (by simp; omega) _⟩
      · have HR : Hid (r = M.fit m.2 1 m.1) := by unfold Hid; rw [hr1, M.spl_ok hmd hz]
        obtain ⟨t0, t1, v0, v1⟩ := hp
        rw [takes_8] at t0
        rw [takes_16] at t1
        obtain rfl : k0 = 1 := by simpa using t0
        obtain rfl : k1 = 2 := by simpa using t1
        have hq := quo_split n0 n1 mode (M.valid_1 v0) (M.valid_2 v1) hz m hm
        have hz2 : (n1 == 0) = false := by simpa using hz
        clear hr1 t0 t1 v0 v1 hm hz
        generalize n0.natAbs / 18446744073709551616 = hi at *
        generalize n0.natAbs % 18446744073709551616 = lo at *
        generalize n0.natAbs = p at *
        generalize n1.natAbs = d at *
        generalize (decide (n0 < 0) != decide (n1 < 0)) = s at *
        go_enter Tryd.func23, Tryd.ntmps23
        go_wp2_with (first | (go_at_call 58; refine hc.mono ?_; clear hc; rintro e w1 ⟨rfl, hb1⟩; obtain ⟨hX, hY, hR1, hB1⟩ := start2 w 1 n0 2 n1 hb1; obtain ⟨x0, x1, -, -⟩ := hX.alloc (cellsV 0 0); obtain ⟨y0, y1, -, -⟩ := hY.alloc (cellsV 0 0); clear hb1 hX hY) | (go_at_call 55; refine (isMode_yes _ _ hmd).mono ?_; rintro e w' ⟨rfl, rfl⟩) | (go_at_call 56; refine (hq.ratio _).mono ?_; rintro e w2 ⟨rfl, hb2⟩; have hR2 := (hR1.alloc _).later hb2; have hK2 := ((hK.later hB1).alloc _).later hb2; have hB2 := below_step (hB1.alloc hB1.size _) hb2; clear hb2) | (go_at_call 57; refine (hq.whole _).mono ?_; rintro e w3 ⟨rfl, hb3⟩; have hR3 := hR2.later hb3; have hK3 := hK2.later hb3; have hB3 := below_step hB2 hb3; clear hb3) | (go_at_call 53; refine (fitting_any _ _ _ _ hK3).mono ?_; rintro e w4 ⟨rfl, hb4⟩; obtain ⟨r0, r1, q0, q1⟩ := hR3.later hb4; have hB4 := below_step hB3 hb4; clear hb4))
        exact bodyPost_ret (v := .agg #[.int .i64 r.1, .int .i64 r.2]) (by rw [HR.out]; simp [results, Tryd.results23, go_sem, r0, r1]) rfl ⟨rfl, (hB4.setCell (by simp; omega) _).setCell (by simp; omega) _⟩
    · have HR : Hid (r = (6, 5)) := by unfold Hid; rw [hr1, M.spl_mode hmd]
      clear hr1 hp hm
      go_enter Tryd.func23, Tryd.ntmps23
      go_wp2_with (first | (go_at_call 58; refine hc.mono ?_; clear hc; rintro e w1 ⟨rfl, hb1⟩; obtain ⟨hX, hY, hR1, hB1⟩ := start2 w k0 n0 k1 n1 hb1; obtain ⟨x0, x1, -, -⟩ := hX.alloc (cellsV 0 0); obtain ⟨y0, y1, -, -⟩ := hY.alloc (cellsV 0 0); clear hb1 hX hY) | (go_at_call 55; refine (isMode_no _ _ hmd).mono ?_; rintro e w' ⟨rfl, rfl⟩) | (go_at_call 18; refine (fault_any _ _).mono ?_; rintro e w2 ⟨rfl, hb2⟩; obtain ⟨r0, r1, q0, q1⟩ := (hR1.alloc _).later hb2; have hB2 := below_step (hB1.alloc hB1.size _) hb2; clear hb2))
      exact bodyPost_ret (v := .agg #[.int .i64 6, .int .i64 5]) (by simp [results, Tryd.results23, go_sem, r0, r1]) rfl ⟨by rw [HR.out], (hB2.setCell (by simp; omega) _).setCell (by simp; omega) _⟩

end Go.Proofs.YtnmcniibcjjflaaDoor


namespace Go.Proofs.YtnmcniibcjjflaaDoor
open Go.RowKit

theorem bne_false (a : Bool) : (a != false) = a := by cases a <;> rfl

theorem quo_times (n0 n1 : Int) (h0 : -9999999999999 ≤ n0 ∧ n0 ≤ 9999999999999) (h1 : -1000000000 ≤ n1 ∧ n1 ≤ 1000000000) (r : Int × Bool) (hr : r = M.wh (decide (n0 < 0) != decide (n1 < 0)) 1 (n0.natAbs * n1.natAbs) 1) :
    Quo n0 n1 1 1 (decide (n0 < 0) != decide (n1 < 0)) (n0.natAbs * n1.natAbs / 18446744073709551616) (n0.natAbs * n1.natAbs % 18446744073709551616) 1 (n0.natAbs * n1.natAbs) r where
  a1 := by omega
  a2 := by omega
  n1 := by omega
  n2 := by omega
  d1 := by omega
  d2 := by omega
  hs := by simp
  h1 := rfl
  h2 := rfl
  h3 := rfl
  hp := rfl
  h0 := by omega
  div := fun h => divides_small _ _ (by omega) (by omega) (by omega)
  hr := hr

set_option maxHeartbeats 1000000 in
theorem times_any (k0 n0 k1 n1 : Int) (w : World) (hK : Kinds w) (m : Int × Bool) (hm : Hid (m = M.wh (decide (n0 < 0) != decide (n1 < 0)) 1 (n0.natAbs * n1.natAbs) 1)) (r : Int × Int) (hr : Hid (r = M.ans (M.pair (takesB k0 8) (takesB k1 16) k0 n0 k1 n1) (M.fit m.2 1 m.1))) :
    Calls Tryd.prog 31 #[.agg #[.int .i64 k0, .int .i64 n0], .agg #[.int .i64 k1, .int .i64 n1]] w fun e w' => e = .returned (.agg #[.int .i64 r.1, .int .i64 r.2]) ∧ Below w.heap.size w w' := by
  have hc := pair_any k0 n0 k1 n1 (((w.alloc (cellsV k0 n0)).alloc (cellsV k1 n1)).alloc (cellsV 0 0)) (((hK.alloc _).alloc _).alloc _) _ rfl
  cases h1 : M.pair (takesB k0 8) (takesB k1 16) k0 n0 k1 n1 with
  | some v =>
    obtain ⟨x, y⟩ := v
    rw [h1] at hc hr
    dsimp only [M.vk, M.vn, Option.isSome] at hc
    clear h1
    go_enter Tryd.func31, Tryd.ntmps31
    go_wp2_with (go_at_call 58; refine hc.mono ?_; clear hc; rintro e w1 ⟨rfl, hb1⟩; obtain ⟨-, -, hR1, hB1⟩ := start2 w k0 n0 k1 n1 hb1; obtain ⟨r0, r1, q0, q1⟩ := hR1.alloc (cellsV x y); clear hb1)
    exact bodyPost_ret (v := .agg #[.int .i64 x, .int .i64 y]) (by simp [results, Tryd.results31, go_sem, r0, r1]) rfl ⟨by rw [hr.out]; rfl, ((hB1.alloc hB1.size _).setCell (by simp; omega) _).setCell (by simp; omega) _⟩
  | none =>
    obtain ⟨t0, t1, v0, v1⟩ := M.pair_none h1
    rw [takes_8] at t0
    rw [takes_16] at t1
    obtain rfl : k0 = 1 := by simpa using t0
    obtain rfl : k1 = 2 := by simpa using t1
    have hq := quo_times n0 n1 (M.valid_1 v0) (M.valid_2 v1) m hm
    rw [h1] at hc hr
    dsimp only [M.vk, M.vn, Option.isSome] at hc
    clear h1 t0 t1 v0 v1 hm
    have hr2 : Hid (r = M.fit m.2 1 m.1) := hr
    clear hr
    generalize n0.natAbs * n1.natAbs = p at *
    generalize p / 18446744073709551616 = hi at *
    generalize p % 18446744073709551616 = lo at *
    generalize (decide (n0 < 0) != decide (n1 < 0)) = s at *
    go_enter Tryd.func31, Tryd.ntmps31
    go_wp2_with (first | (go_at_call 58; refine hc.mono ?_; clear hc; rintro e w1 ⟨rfl, hb1⟩; obtain ⟨hX, hY, hR1, hB1⟩ := start2 w 1 n0 2 n1 hb1; obtain ⟨x0, x1, -, -⟩ := hX.alloc (cellsV 0 0); obtain ⟨y0, y1, -, -⟩ := hY.alloc (cellsV 0 0); clear hb1 hX hY) | (go_at_call 56; refine (hq.ratio _).mono ?_; rintro e w2 ⟨rfl, hb2⟩; have hR2 := (hR1.alloc _).later hb2; have hK2 := ((hK.later hB1).alloc _).later hb2; have hB2 := below_step (hB1.alloc hB1.size _) hb2; clear hb2) | (go_at_call 57; refine (hq.whole _).mono ?_; rintro e w3 ⟨rfl, hb3⟩; have hR3 := hR2.later hb3; have hK3 := hK2.later hb3; have hB3 := below_step hB2 hb3; clear hb3) | (go_at_call 53; refine (fitting_any _ _ _ _ hK3).mono ?_; rintro e w4 ⟨rfl, hb4⟩; obtain ⟨r0, r1, q0, q1⟩ := hR3.later hb4; have hB4 := below_step hB3 hb4; clear hb4))
    exact bodyPost_ret (v := .agg #[.int .i64 r.1, .int .i64 r.2]) (by rw [hr2.out]; simp [results, Tryd.results31, go_sem, r0, r1]) rfl ⟨rfl, (hB4.setCell (by simp; omega) _).setCell (by simp; omega) _⟩

end Go.Proofs.YtnmcniibcjjflaaDoor
