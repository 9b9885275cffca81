import Derived.Test.YtnmcniibcjjflaaDoorTurnMishap
namespace Go.Proofs.YtnmcniibcjjflaaDoor
open Go.RowKit

set_option maxHeartbeats 400000 in
theorem fitting_any (k n : Int) (near : Bool) (w : World) (hK : Kinds w) :
    Calls Tryd.prog 53 #[.int .i64 k, .int .i64 n, .bool near] w fun e w' => e = .returned (.agg #[.int .i64 (M.fit near k n).1, .int .i64 (M.fit near k n).2]) ∧ Below w.heap.size w w' := by
  have hR := (Box.new w (.int .i64 0) (.int .i64 0) 24).alloc (.cells #[.int .i64 k, .int .i64 n] 24)
  have hX := Box.new (w.alloc (.cells #[.int .i64 0, .int .i64 0] 24)) (.int .i64 k) (.int .i64 n) 24
  have hX' : Box ((w.alloc (.cells #[.int .i64 0, .int .i64 0] 24)).alloc (.cells #[.int .i64 k, .int .i64 n] 24)) (w.heap.size + 1) (.int .i64 k) (.int .i64 n) := hX.of (by simp)
  have hB : Below w.heap.size w ((w.alloc (.cells #[.int .i64 0, .int .i64 0] 24)).alloc (.cells #[.int .i64 k, .int .i64 n] 24)) := ((Below.refl _ _).alloc (Nat.le_refl _) _).alloc (by simp) _
  clear hX
  cases near with
  | false =>
    go_enter Tryd.func53, Tryd.ntmps53
    go_wp2_with (go_at_call 18; refine (fault_any _ _).mono ?_; rintro e w2 ⟨rfl, hb2⟩; obtain ⟨r0, r1, q0, q1⟩ := hR.later hb2; have hB2 := below_step hB hb2; clear hb2)
    exact bodyPost_ret (v := .agg #[.int .i64 6, .int .i64 1]) (by simp [results, Tryd.results53, go_sem, r0, r1]) rfl ⟨by rw [M.fit_far], (hB2.setCell (by simp) _).setCell (by simp) _⟩
  | true =>
    cases hv : M.valid k n with
    | false =>
      go_enter Tryd.func53, Tryd.ntmps53
      go_wp2_with (first | (go_at_call 12; refine (valid_any _ _ _ ((hK.alloc _).alloc _)).mono ?_; rintro e w1 ⟨rfl, hb1⟩; have hR1 := hR.later hb1; have hB1 := below_step hB hb1; clear hb1) | (go_at_call 18; refine (fault_any _ _).mono ?_; rintro e w2 ⟨rfl, hb2⟩; obtain ⟨r0, r1, q0, q1⟩ := hR1.later hb2; have hB2 := below_step hB1 hb2; clear hb2))
      exact bodyPost_ret (v := .agg #[.int .i64 6, .int .i64 1]) (by simp [results, Tryd.results53, go_sem, r0, r1]) rfl ⟨by rw [M.fit_over hv], (hB2.setCell (by simp) _).setCell (by simp) _⟩
    | true =>
      go_enter Tryd.func53, Tryd.ntmps53
      go_wp2_with (go_at_call 12; refine (valid_any _ _ _ ((hK.alloc _).alloc _)).mono ?_; rintro e w1 ⟨rfl, hb1⟩; obtain ⟨r0, r1, q0, q1⟩ := hR.later hb1; obtain ⟨s0, s1, -, -⟩ := hX'.later hb1; have hB1 := below_step hB hb1; clear hb1)
      exact bodyPost_ret (v := .agg #[.int .i64 k, .int .i64 n]) (by simp [results, Tryd.results53, go_sem, r0, r1]) rfl ⟨by rw [M.fit_ok hv], (hB1.setCell (by simp) _).setCell (by simp) _⟩

set_option maxHeartbeats 400000 in
theorem bounded_any (k n : Int) (w : World) :
    Calls Tryd.prog 16 #[.int .i64 k, .int .i64 n] w fun e w' => e = .returned (.agg #[.int .i64 (M.fit true k n).1, .int .i64 (M.fit true k n).2]) ∧ Below w.heap.size w w' := by
  have hR := (Box.new w (.int .i64 0) (.int .i64 0) 24).alloc (.cells #[.int .i64 k, .int .i64 n] 24)
  have hX := Box.new (w.alloc (.cells #[.int .i64 0, .int .i64 0] 24)) (.int .i64 k) (.int .i64 n) 24
  have hX' : Box ((w.alloc (.cells #[.int .i64 0, .int .i64 0] 24)).alloc (.cells #[.int .i64 k, .int .i64 n] 24)) (w.heap.size + 1) (.int .i64 k) (.int .i64 n) := hX.of (by simp)
  have hB : Below w.heap.size w ((w.alloc (.cells #[.int .i64 0, .int .i64 0] 24)).alloc (.cells #[.int .i64 k, .int .i64 n] 24)) := ((Below.refl _ _).alloc (Nat.le_refl _) _).alloc (by simp) _
  clear hX
  cases hv : M.valid k n with
  | false =>
    go_enter Tryd.func16, Tryd.ntmps16
    go_wp2_with (first | (go_at_call 15; refine (rvalid_any _ _ _).mono ?_; rintro e w1 ⟨rfl, hb1⟩; have hR1 := hR.later hb1; have hB1 := below_step hB hb1; clear hb1) | (go_at_call 14; refine (bad_any _ _).mono ?_; rintro e w2 ⟨rfl, hb2⟩; obtain ⟨r0, r1, q0, q1⟩ := hR1.later hb2; have hB2 := below_step hB1 hb2; clear hb2))
    exact bodyPost_ret (v := .agg #[.int .i64 6, .int .i64 1]) (by simp [results, Tryd.results16, go_sem, r0, r1]) rfl ⟨by rw [M.fit_over hv], (hB2.setCell (by simp) _).setCell (by simp) _⟩
  | true =>
    go_enter Tryd.func16, Tryd.ntmps16
    go_wp2_with (go_at_call 15; refine (rvalid_any _ _ _).mono ?_; rintro e w1 ⟨rfl, hb1⟩; obtain ⟨r0, r1, q0, q1⟩ := hR.later hb1; obtain ⟨s0, s1, -, -⟩ := hX'.later hb1; have hB1 := below_step hB hb1; clear hb1)
    exact bodyPost_ret (v := .agg #[.int .i64 k, .int .i64 n]) (by simp [results, Tryd.results16, go_sem, r0, r1]) rfl ⟨by rw [M.fit_ok hv], (hB1.setCell (by simp) _).setCell (by simp) _⟩

end Go.Proofs.YtnmcniibcjjflaaDoor
