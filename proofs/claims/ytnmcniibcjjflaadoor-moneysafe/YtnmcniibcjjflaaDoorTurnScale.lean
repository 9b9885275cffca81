import Derived.Test.YtnmcniibcjjflaaDoorJoin14
namespace Go.Proofs.YtnmcniibcjjflaaDoor
open Go.RowKit

/-- The quotient of Scale. -/
theorem quo_scale (n0 num den mode : Int) (h0 : -9999999999999 ≤ n0 ∧ n0 ≤ 9999999999999) (h1 : -1000000000 ≤ num ∧ num ≤ 1000000000) (h2 : 1 ≤ den ∧ den ≤ 1000000000)
    (hdiv : n0.natAbs * num.natAbs / 18446744073709551616 < den.natAbs → Divides (n0.natAbs * num.natAbs / 18446744073709551616) (n0.natAbs * num.natAbs % 18446744073709551616) den.natAbs (n0.natAbs * num.natAbs))
    (r : Int × Bool) (hr : r = M.wh (decide (n0 < 0) != decide (num < 0)) mode (n0.natAbs * num.natAbs) den.natAbs) :
    Quo n0 num den mode (decide (n0 < 0) != decide (num < 0)) (n0.natAbs * num.natAbs / 18446744073709551616) (n0.natAbs * num.natAbs % 18446744073709551616) den.natAbs (n0.natAbs * num.natAbs) r where
  a1 := by omega
  a2 := by omega
  n1 := by omega
  n2 := by omega
  d1 := by omega
  d2 := by omega
  hs := by have : ¬ den < 0 := by omega
           simp [this]
  h1 := rfl
  h2 := rfl
  h3 := rfl
  hp := rfl
  h0 := by omega
  div := hdiv
  hr := hr

set_option maxHeartbeats 2000000 in
theorem scale_any (k0 n0 num den mode : Int) (w : World) (hK : Kinds w)
    (hdiv : (-9999999999999 ≤ n0 ∧ n0 ≤ 9999999999999) → (-1000000000 ≤ num ∧ num ≤ 1000000000) → (1 ≤ den ∧ den ≤ 1000000000) → n0.natAbs * num.natAbs / 18446744073709551616 < den.natAbs → Divides (n0.natAbs * num.natAbs / 18446744073709551616) (n0.natAbs * num.natAbs % 18446744073709551616) den.natAbs (n0.natAbs * num.natAbs))
    (m : Int × Bool) (hm : Hid (m = M.wh (decide (n0 < 0) != decide (num < 0)) mode (n0.natAbs * num.natAbs) den.natAbs)) (r : Int × Int) (hr : Hid (r = M.ans (M.refuse (takesB k0 8) k0 n0 []) (M.scl num den mode m))) :
    Calls Tryd.prog 22 #[.agg #[.int .i64 k0, .int .i64 n0], .int .i64 num, .int .i64 den, .int .i64 mode] w fun e w' => e = .returned (.agg #[.int .i64 r.1, .int .i64 r.2]) ∧ Below w.heap.size w w' := by
  have hc := refusal_any 8 k0 n0 none 0 [] ((w.alloc (cellsV k0 n0)).alloc (cellsV 0 0)) ((hK.alloc _).alloc _) ⟨by simp, .inl rfl⟩
  cases h1 : M.refuse (takesB k0 8) k0 n0 [] with
  | some v =>
    obtain ⟨x, y⟩ := v
    rw [h1] at hc hr
    dsimp only [M.vk, M.vn, Option.isSome, List.length] at hc
    clear h1 hdiv
    go_enter Tryd.func22, Tryd.ntmps22
    go_wp2_with (go_at_call 54; refine hc.mono ?_; clear hc; rintro e w1 ⟨rfl, hb1⟩; obtain ⟨-, hR1, hB1⟩ := start1 w k0 n0 hb1; obtain ⟨r0, r1, q0, q1⟩ := hR1.alloc (cellsV x y); clear hb1)
    exact bodyPost_ret (v := .agg #[.int .i64 x, .int .i64 y]) (by simp [results, Tryd.results22, go_sem, r0, r1]) rfl ⟨by rw [hr.out]; rfl, ((hB1.alloc hB1.size _).setCell (by simp) _).setCell (by simp) _⟩
  | none =>
    obtain ⟨t0, v0, -⟩ := M.refuse_none h1
    rw [h1] at hc hr
    dsimp only [M.vk, M.vn, Option.isSome, List.length] at hc
    have hr1 : r = M.scl num den mode m := hr
    clear h1 hr
    have tok1 : True := trivial
    by_cases hn : -1000000000 ≤ num ∧ num ≤ 1000000000
    · have hnu : decide (-1000000000 ≤ num ∧ num ≤ 1000000000) = true := decide_eq_true hn
      by_cases hd : 1 ≤ den ∧ den ≤ 1000000000
      · have hde : decide (1 ≤ den ∧ den ≤ 1000000000) = true := decide_eq_true hd
        by_cases hmd : 1 ≤ mode ∧ mode ≤ 5
        · have HR : Hid (r = M.fit m.2 1 m.1) := by unfold Hid; rw [hr1, M.scl_ok hn hd hmd]
          rw [takes_8] at t0
          obtain rfl : k0 = 1 := by simpa using t0
          have hq := quo_scale n0 num den mode (M.valid_1 v0) hn hd (hdiv (M.valid_1 v0) hn hd) m hm
          clear hr1 t0 v0 hm hn hd hdiv
          generalize n0.natAbs * num.natAbs = p at *
          generalize p / 18446744073709551616 = hi at *
          generalize p % 18446744073709551616 = lo at *
          generalize den.natAbs = d at *
          generalize (decide (n0 < 0) != decide (num < 0)) = s at *
          go_enter Tryd.func22, Tryd.ntmps22
          go_wp2_with (first | (go_at_call 54; refine hc.mono ?_; clear hc; rintro e w1 ⟨rfl, hb1⟩; obtain ⟨hX, hR1, hB1⟩ := start1 w 1 n0 hb1; obtain ⟨x0, x1, -, -⟩ := hX.alloc (cellsV 0 0); clear hb1 hX) | (go_at_call 35; have _u := tok1; clear tok1; refine (within_v num (-1000000000) 1000000000 _ true hnu).mono ?_; rintro e w' ⟨rfl, rfl⟩) | (go_at_call 35; refine (within_v den 1 1000000000 _ true hde).mono ?_; rintro e w' ⟨rfl, rfl⟩) | (go_at_call 55; refine (isMode_yes _ _ hmd).mono ?_; rintro e w' ⟨rfl, rfl⟩) | (go_at_call 56; refine (hq.ratio _).mono ?_; rintro e w2 ⟨rfl, hb2⟩; have hR2 := (hR1.alloc _).later hb2; have hK2 := ((hK.later hB1).alloc _).later hb2; have hB2 := below_step (hB1.alloc hB1.size _) hb2; clear hb2) | (go_at_call 57; refine (hq.whole _).mono ?_; rintro e w3 ⟨rfl, hb3⟩; have hR3 := hR2.later hb3; have hK3 := hK2.later hb3; have hB3 := below_step hB2 hb3; clear hb3) | (go_at_call 53; refine (fitting_any _ _ _ _ hK3).mono ?_; rintro e w4 ⟨rfl, hb4⟩; obtain ⟨r0, r1, q0, q1⟩ := hR3.later hb4; have hB4 := below_step hB3 hb4; clear hb4))
          exact bodyPost_ret (v := .agg #[.int .i64 r.1, .int .i64 r.2]) (by rw [HR.out]; simp [results, Tryd.results22, go_sem, r0, r1]) rfl ⟨rfl, (hB4.setCell (by simp) _).setCell (by simp) _⟩
        · have HR : Hid (r = (6, 5)) := by unfold Hid; rw [hr1, M.scl_no (fun h => hmd h.2.2)]
          clear hr1 t0 v0 hm hn hd hdiv
          go_enter Tryd.func22, Tryd.ntmps22
          go_wp2_with (first | (go_at_call 54; refine hc.mono ?_; clear hc; rintro e w1 ⟨rfl, hb1⟩; obtain ⟨hX, hR1, hB1⟩ := start1 w k0 n0 hb1; obtain ⟨x0, x1, -, -⟩ := hX.alloc (cellsV 0 0); clear hb1 hX) | (go_at_call 35; have _u := tok1; clear tok1; refine (within_v num (-1000000000) 1000000000 _ true hnu).mono ?_; rintro e w' ⟨rfl, rfl⟩) | (go_at_call 35; refine (within_v den 1 1000000000 _ true hde).mono ?_; rintro e w' ⟨rfl, rfl⟩) | (go_at_call 55; refine (isMode_no _ _ hmd).mono ?_; rintro e w' ⟨rfl, rfl⟩) | (go_at_call 18; refine (fault_any _ _).mono ?_; rintro e w2 ⟨rfl, hb2⟩; obtain ⟨r0, r1, q0, q1⟩ := (hR1.alloc _).later hb2; have hB2 := below_step (hB1.alloc hB1.size _) hb2; clear hb2))
          exact bodyPost_ret (v := .agg #[.int .i64 6, .int .i64 5]) (by simp [results, Tryd.results22, go_sem, r0, r1]) rfl ⟨by rw [HR.out], (hB2.setCell (by simp) _).setCell (by simp) _⟩
      · have hde : decide (1 ≤ den ∧ den ≤ 1000000000) = false := decide_eq_false hd
        have HR : Hid (r = (6, 5)) := by unfold Hid; rw [hr1, M.scl_no (fun h => hd h.2.1)]
        clear hr1 t0 v0 hm hn hd hdiv
        go_enter Tryd.func22, Tryd.ntmps22
        go_wp2_with (first | (go_at_call 54; refine hc.mono ?_; clear hc; rintro e w1 ⟨rfl, hb1⟩; obtain ⟨hX, hR1, hB1⟩ := start1 w k0 n0 hb1; obtain ⟨x0, x1, -, -⟩ := hX.alloc (cellsV 0 0); clear hb1 hX) | (go_at_call 35; have _u := tok1; clear tok1; refine (within_v num (-1000000000) 1000000000 _ true hnu).mono ?_; rintro e w' ⟨rfl, rfl⟩) | (go_at_call 35; refine (within_v den 1 1000000000 _ false hde).mono ?_; rintro e w' ⟨rfl, rfl⟩) | (go_at_call 18; refine (fault_any _ _).mono ?_; rintro e w2 ⟨rfl, hb2⟩; obtain ⟨r0, r1, q0, q1⟩ := (hR1.alloc _).later hb2; have hB2 := below_step (hB1.alloc hB1.size _) hb2; clear hb2))
        exact bodyPost_ret (v := .agg #[.int .i64 6, .int .i64 5]) (by simp [results, Tryd.results22, go_sem, r0, r1]) rfl ⟨by rw [HR.out], (hB2.setCell (by simp) _).setCell (by simp) _⟩
    · have hnu : decide (-1000000000 ≤ num ∧ num ≤ 1000000000) = false := decide_eq_false hn
      have HR : Hid (r = (6, 5)) := by unfold Hid; rw [hr1, M.scl_no (fun h => hn h.1)]
      clear hr1 t0 v0 hm hn hdiv
      go_enter Tryd.func22, Tryd.ntmps22
      go_wp2_with (first | (go_at_call 54; refine hc.mono ?_; clear hc; rintro e w1 ⟨rfl, hb1⟩; obtain ⟨hX, hR1, hB1⟩ := start1 w k0 n0 hb1; obtain ⟨x0, x1, -, -⟩ := hX.alloc (cellsV 0 0); clear hb1 hX) | (go_at_call 35; have _u := tok1; clear tok1; refine (within_v num (-1000000000) 1000000000 _ false hnu).mono ?_; rintro e w' ⟨rfl, rfl⟩) | (go_at_call 18; refine (fault_any _ _).mono ?_; rintro e w2 ⟨rfl, hb2⟩; obtain ⟨r0, r1, q0, q1⟩ := (hR1.alloc _).later hb2; have hB2 := below_step (hB1.alloc hB1.size _) hb2; clear hb2))
      exact bodyPost_ret (v := .agg #[.int .i64 6, .int .i64 5]) (by simp [results, Tryd.results22, go_sem, r0, r1]) rfl ⟨by rw [HR.out], (hB2.setCell (by simp) _).setCell (by simp) _⟩

end Go.Proofs.YtnmcniibcjjflaaDoor
