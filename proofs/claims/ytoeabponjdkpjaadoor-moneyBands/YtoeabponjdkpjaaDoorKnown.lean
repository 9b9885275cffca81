import Derived.Test.YtoeabponjdkpjaaDoorBracket
import Derived.Test.YtoeabponjdkpjaaDoorScale
import Derived.Test.YtoeabponjdkpjaaDoorSplit
import Derived.Test.YtoeabponjdkpjaaDoorAdds
namespace Go.Proofs.YtoeabponjdkpjaaDoor
open Go.RowKit

theorem c_any (n : Int) (w : World) : Calls Tryd.prog 15 #[.int .i64 n] w fun e w' => e = .returned (.agg #[.int .i64 1, .int .i64 n]) ∧ Below w.heap.size w w' := by
  go_enter Tryd.func15, Tryd.ntmps15
  go_wp2
  exact bodyPost_ret (v := .agg #[.int .i64 1, .int .i64 n]) (by simp [results, Tryd.results15, go_sem]) rfl ⟨rfl, by simpa using (Below.refl w.heap.size w).alloc (Nat.le_refl _) _⟩

theorem vals_two_t (X : World) (t : TypeId) (a b c d : Int) : Vals (X.alloc (.cells #[.int .i64 a, .int .i64 b, .int .i64 c, .int .i64 d] t)) (some ⟨X.heap.size, 0, none⟩) [(a, b), (c, d)] := by
  refine ⟨by simp [maxLen], .inr ⟨X.heap.size, 0, rfl, by simp, fun i hi => ?_⟩⟩
  have : i = 0 ∨ i = 1 := by simp at hi; omega
  rcases this with rfl | rfl <;> constructor <;> (rw [World.cell?_alloc_at _ _ _ _ rfl]; rfl)

theorem kn_add1 : ((1, 5) : Int × Int) = M.ans (M.refuse (takesB 1 1) 1 2 [(1, 3)]) (M.fit true 1 (wrap64 (2 + 3))) := by decide +kernel
theorem kn_add2 : ((6, 1) : Int × Int) = M.ans (M.refuse (takesB 1 1) 1 9999999999999 [(1, 1)]) (M.fit true 1 (wrap64 (9999999999999 + 1))) := by decide +kernel
theorem kn_s1 : ((10, true) : Int × Bool) = M.wh (decide ((105 : Int) < 0) != decide ((1 : Int) < 0)) 5 ((105 : Int).natAbs * (1 : Int).natAbs) (10 : Int).natAbs := by decide +kernel
theorem kn_s1r : ((1, 10) : Int × Int) = M.ans (M.refuse (takesB 1 8) 1 105 []) (M.scl 1 10 5 (10, true)) := by decide +kernel
theorem kn_s2 : ((-11, true) : Int × Bool) = M.wh (decide ((-105 : Int) < 0) != decide ((1 : Int) < 0)) 1 ((-105 : Int).natAbs * (1 : Int).natAbs) (10 : Int).natAbs := by decide +kernel
theorem kn_s2r : ((1, -11) : Int × Int) = M.ans (M.refuse (takesB 1 8) 1 (-105) []) (M.scl 1 10 1 (-11, true)) := by decide +kernel
theorem kn_spr (m : Int × Bool) : ((6, 2) : Int × Int) = M.ans (M.pair (takesB 1 8) (takesB 2 16) 1 1 2 0) (M.spl 2 0 m) := by
  rw [M.spl_zero (by decide)]
  decide +kernel
theorem kn_b : ((100001, true) : Int × Bool) = M.wh false 4 (M.took 1000002 [(0, 100000), (1000000, 250000)]) 1000000 := by decide +kernel
theorem kn_br : ((1, 100001) : Int × Int) = M.ans (M.refuse (takesB 1 8) 1 1000002 []) (brk [(0, 100000), (1000000, 250000)] (100001, true)) := by decide +kernel
theorem kn_v1 : M.valid 1 5 = true := by decide +kernel
theorem kn_v2 : M.valid 7 0 = false := by decide +kernel

theorem div_105 (n num den : Int) (h : n.natAbs * num.natAbs < 18446744073709551616) : (-9999999999999 ≤ n ∧ n ≤ 9999999999999) → (-1000000000 ≤ num ∧ num ≤ 1000000000) → (1 ≤ den ∧ den ≤ 1000000000) → n.natAbs * num.natAbs / 18446744073709551616 < den.natAbs → Divides (n.natAbs * num.natAbs / 18446744073709551616) (n.natAbs * num.natAbs % 18446744073709551616) den.natAbs (n.natAbs * num.natAbs) :=
  fun _ _ hd _ => divides_small _ _ h (by omega) (by omega)

set_option maxHeartbeats 4000000 in
theorem known_true (w : World) (hK : Kinds w) : Calls Tryd.prog 12 #[] w fun e w' => e = .returned (.bool true) ∧ Below w.heap.size w w' := by
  have hKc := hK
  have hBc := Below.refl w.heap.size w
  have hv1 := kn_v1
  have hv2 := kn_v2
  go_enter Tryd.func12, Tryd.ntmps12
  go_wp2_with (first | (go_at_call_of 15 (Value.int IntKind.i64 1000002); refine (c_any _ _).mono ?_; rintro e w1 ⟨rfl, hb1⟩; have hVb := (vals_two_t _ 39 0 100000 1000000 250000).later hb1; replace hKc := (hKc.alloc _).later hb1; replace hBc := below_step (hBc.alloc hBc.size _) hb1; clear hb1) | (go_at_call 15; refine (c_any _ _).mono ?_; rintro e w1 ⟨rfl, hb1⟩; replace hKc := hKc.later hb1; replace hBc := below_step hBc hb1; clear hb1) | (go_at_call_of 31 (Value.agg #[Value.int IntKind.i64 1, Value.int IntKind.i64 2]); refine (add_any 1 2 1 3 _ hKc (1, 5) kn_add1).mono ?_; rintro e w1 ⟨rfl, hb1⟩; replace hKc := hKc.later hb1; replace hBc := below_step hBc hb1; clear hb1) | (go_at_call 31; refine (add_any 1 9999999999999 1 1 _ hKc (6, 1) kn_add2).mono ?_; rintro e w1 ⟨rfl, hb1⟩; replace hKc := hKc.later hb1; replace hBc := below_step hBc hb1; clear hb1) | (go_at_call_of 16 (Value.agg #[Value.int IntKind.i64 1, Value.int IntKind.i64 105]); refine (scale_any 1 105 1 10 5 _ hKc (div_105 105 1 10 (by decide)) (10, true) kn_s1 (1, 10) kn_s1r).mono ?_; rintro e w1 ⟨rfl, hb1⟩; replace hKc := hKc.later hb1; replace hBc := below_step hBc hb1; clear hb1) | (go_at_call 16; refine (scale_any 1 (-105) 1 10 1 _ hKc (div_105 (-105) 1 10 (by decide)) (-11, true) kn_s2 (1, -11) kn_s2r).mono ?_; rintro e w1 ⟨rfl, hb1⟩; replace hKc := hKc.later hb1; replace hBc := below_step hBc hb1; clear hb1) | (go_at_call 32; refine (split_any 1 1 2 0 2 _ hKc _ rfl (6, 2) (kn_spr _)).mono ?_; rintro e w1 ⟨rfl, hb1⟩; replace hKc := hKc.later hb1; replace hBc := below_step hBc hb1; clear hb1) | (go_at_call 14; refine (bracket_any _ 2 [(0, 100000), (1000000, 250000)] 1 1000002 _ hKc hVb (100001, true) kn_b (1, 100001) kn_br).mono ?_; rintro e w1 ⟨rfl, hb1⟩; clear hVb; replace hKc := hKc.later hb1; replace hBc := below_step hBc hb1; clear hb1) | (go_at_call 19; refine (valid_any _ _ _ hKc).mono ?_; rintro e w1 ⟨rfl, hb1⟩; replace hKc := hKc.later hb1; replace hBc := below_step hBc hb1; clear hb1))
  go_ret
  exact ⟨rfl, hBc⟩

end Go.Proofs.YtoeabponjdkpjaaDoor
