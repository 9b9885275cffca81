import Derived.Test.YtnmcniibcjjflaaDoorJoin16
import Derived.Test.YtnmcniibcjjflaaDoorTurnScale
import Derived.Test.YtnmcniibcjjflaaDoorJoin31
import Derived.Test.YtnmcniibcjjflaaDoorJoin29
import Derived.Test.YtnmcniibcjjflaaDoorJoin6
import Derived.Test.YtnmcniibcjjflaaDoorTurnRDoes2
namespace Go.Proofs.YtnmcniibcjjflaaDoor
open Go.RowKit

theorem c_any (n : Int) (w : World) : Calls Tryd.prog 10 #[.int .i64 n] w fun e w' => e = .returned (.agg #[.int .i64 1, .int .i64 n]) ∧ Below w.heap.size w w' := by
  go_enter Tryd.func10, Tryd.ntmps10
  go_wp2
  exact bodyPost_ret (v := .agg #[.int .i64 1, .int .i64 n]) (by simp [results, Tryd.results10, go_sem]) rfl ⟨rfl, by simpa using (Below.refl w.heap.size w).alloc (Nat.le_refl _) _⟩

theorem vals_two_t (X : World) (t : TypeId) (a b c d : Int) : Vals (X.alloc (.cells #[.int .i64 a, .int .i64 b, .int .i64 c, .int .i64 d] t)) (some ⟨X.heap.size, 0, none⟩) [(a, b), (c, d)] := by
  refine ⟨by simp [maxLen], .inr ⟨X.heap.size, 0, rfl, by simp, fun i hi => ?_⟩⟩
  have : i = 0 ∨ i = 1 := by simp at hi; omega
  rcases this with rfl | rfl <;> constructor <;> (rw [World.cell?_alloc_at _ _ _ _ rfl]; rfl)

theorem kn_add1 : ((1, 5) : Int × Int) = M.ans (M.refuse (takesB 1 1) 1 2 [(1, 3)]) (M.fit true 1 (wrap64 (2 + 3))) := by decide +kernel
theorem kn_add2 : ((6, 1) : Int × Int) = M.ans (M.refuse (takesB 1 1) 1 9999999999999 [(1, 1)]) (M.fit true 1 (wrap64 (9999999999999 + 1))) := by decide +kernel
theorem kn_s1 : ((10, true) : Int × Bool) = M.wh (decide ((105 : Int) < 0) != decide ((1 : Int) < 0)) 5 ((105 : Int).natAbs * (1 : Int).natAbs) (10 : Int).natAbs := by decide +kernel
theorem kn_s1r : ((1, 10) : Int × Int) = M.ans (M.refuse (takesB 1 8) 1 105 []) (M.scl 1 10 5 (10, true)) := by decide +kernel
theorem kn_s2 : ((-11, true) : Int × Bool) = M.wh (decide ((-105 : Int) < 0) != decide ((1 : Int) < 0)) 1 ((-105 : Int).natAbs * (1 : Int).natAbs) (10 : Int).natAbs := by decide +kernel
theorem kn_s2r : ((1, -11) : Int × Int) = M.ans (M.refuse (takesB 1 8) 1 (-105) []) (M.scl 1 10 1 (-11, true)) := by decide +kernel
theorem kn_spr (m : Int × Bool) : ((6, 2) : Int × Int) = M.ans (M.pair (takesB 1 8) (takesB 2 16) 1 1 2 0) (M.spl 2 0 m) := by
  rw [M.spl_zero (by decide)]
  decide +kernel
theorem kn_b : ((100001, true) : Int × Bool) = M.wh false 4 (M.took 1000002 [(0, 100000), (1000000, 250000)]) 1000000 := by decide +kernel
theorem kn_br : ((1, 100001) : Int × Int) = M.ans (M.refuse (takesB 1 8) 1 1000002 []) (brk [(0, 100000), (1000000, 250000)] (100001, true)) := by decide +kernel
theorem kn_v1 : M.valid 1 5 = true := by decide +kernel
theorem kn_v2 : M.valid 7 0 = false := by decide +kernel

theorem div_105 (n num den : Int) (h : n.natAbs * num.natAbs < 18446744073709551616) : (-9999999999999 ≤ n ∧ n ≤ 9999999999999) → (-1000000000 ≤ num ∧ num ≤ 1000000000) → (1 ≤ den ∧ den ≤ 1000000000) → n.natAbs * num.natAbs / 18446744073709551616 < den.natAbs → Divides (n.natAbs * num.natAbs / 18446744073709551616) (n.natAbs * num.natAbs % 18446744073709551616) den.natAbs (n.natAbs * num.natAbs) :=
  fun _ _ hd _ => divides_small _ _ h (by omega) (by omega)

set_option maxHeartbeats 4000000 in
theorem known_true (w : World) (hK : Kinds w) : Calls Tryd.prog 9 #[] w fun e w' => e = .returned (.bool true) ∧ Below w.heap.size w w' := by
  have hKc := hK
  have hBc := Below.refl w.heap.size w
  have hv1 := kn_v1
  have hv2 := kn_v2
  go_enter Tryd.func9, Tryd.ntmps9
  go_wp2_with (first | (go_at_call_of 10 (Value.int IntKind.i64 1000002); refine (c_any _ _).mono ?_; rintro e w1 ⟨rfl, hb1⟩; have hVb := (vals_two_t _ 54 0 100000 1000000 250000).later hb1; replace hKc := (hKc.alloc _).later hb1; replace hBc := below_step (hBc.alloc hBc.size _) hb1; clear hb1) | (go_at_call 10; refine (c_any _ _).mono ?_; rintro e w1 ⟨rfl, hb1⟩; replace hKc := hKc.later hb1; replace hBc := below_step hBc hb1; clear hb1) | (go_at_call_of 21 (Value.agg #[Value.int IntKind.i64 1, Value.int IntKind.i64 2]); refine (add_any 1 2 1 3 _ hKc (1, 5) kn_add1).mono ?_; rintro e w1 ⟨rfl, hb1⟩; replace hKc := hKc.later hb1; replace hBc := below_step hBc hb1; clear hb1) | (go_at_call 21; refine (add_any 1 9999999999999 1 1 _ hKc (6, 1) kn_add2).mono ?_; rintro e w1 ⟨rfl, hb1⟩; replace hKc := hKc.later hb1; replace hBc := below_step hBc hb1; clear hb1) | (go_at_call_of 22 (Value.agg #[Value.int IntKind.i64 1, Value.int IntKind.i64 105]); refine (scale_any 1 105 1 10 5 _ hKc (div_105 105 1 10 (by decide)) (10, true) kn_s1 (1, 10) kn_s1r).mono ?_; rintro e w1 ⟨rfl, hb1⟩; replace hKc := hKc.later hb1; replace hBc := below_step hBc hb1; clear hb1) | (go_at_call 22; refine (scale_any 1 (-105) 1 10 1 _ hKc (div_105 (-105) 1 10 (by decide)) (-11, true) kn_s2 (1, -11) kn_s2r).mono ?_; rintro e w1 ⟨rfl, hb1⟩; replace hKc := hKc.later hb1; replace hBc := below_step hBc hb1; clear hb1) | (go_at_call 23; refine (split_any 1 1 2 0 2 _ hKc _ rfl (6, 2) (kn_spr _)).mono ?_; rintro e w1 ⟨rfl, hb1⟩; replace hKc := hKc.later hb1; replace hBc := below_step hBc hb1; clear hb1) | (go_at_call 24; refine (bracket_any _ 2 [(0, 100000), (1000000, 250000)] 1 1000002 _ hKc hVb (100001, true) kn_b (1, 100001) kn_br).mono ?_; rintro e w1 ⟨rfl, hb1⟩; clear hVb; replace hKc := hKc.later hb1; replace hBc := below_step hBc hb1; clear hb1) | (go_at_call 12; refine (valid_any _ _ _ hKc).mono ?_; rintro e w1 ⟨rfl, hb1⟩; replace hKc := hKc.later hb1; replace hBc := below_step hBc hb1; clear hb1))
  go_ret
  exact ⟨rfl, hBc⟩

end Go.Proofs.YtnmcniibcjjflaaDoor


/- THE PLAIN MATHEMATICS of layer 1, more: what is added can be taken away. -/
namespace Go.Proofs.YtnmcniibcjjflaaDoor
namespace M

theorem mish_fst : ∀ (vs : List (Int × Int)) (x : Int × Int), mish vs = some x → x.1 = 6 := by
  intro vs
  induction vs with
  | nil => intro x h; cases h
  | cons y r ih =>
    obtain ⟨k, n⟩ := y
    intro x h
    simp only [mish] at h
    by_cases hv : valid k n = false
    · rw [if_pos hv] at h; cases h; rfl
    · rw [if_neg hv] at h
      by_cases h6 : k = 6
      · rw [if_pos h6] at h; cases h; rfl
      · rw [if_neg h6] at h
        by_cases h0 : k = 0
        · rw [if_pos h0] at h; cases h; rfl
        · rw [if_neg h0] at h
          exact ih x h

theorem refuse_fst {t : Bool} {k n : Int} {os : List (Int × Int)} {x : Int × Int} (h : refuse t k n os = some x) : x.1 = 6 := by
  unfold refuse at h
  cases h1 : mish [(k, n)] with
  | some v => simp [h1] at h; subst h; exact mish_fst _ _ h1
  | none =>
    cases h2 : mish os with
    | some v => simp [h1, h2] at h; subst h; exact mish_fst _ _ h2
    | none =>
      simp only [h1, h2] at h
      by_cases ht : t = false
      · rw [if_pos ht] at h; cases h; rfl
      · rw [if_neg ht] at h
        by_cases ha : (os.all fun x => x.1 == k) = true
        · rw [if_pos ha] at h; cases h
        · rw [if_neg ha] at h; cases h; rfl

/-- A sum of what can't be added is a fault. -/
theorem sum_bad {t : Bool} {k0 n0 k1 n1 : Int} {d : Int × Int} (h : t = false ∨ valid k0 n0 = false ∨ valid k1 n1 = false ∨ k0 ≠ k1) : (ans (refuse t k0 n0 [(k1, n1)]) d).1 = 6 := by
  cases h1 : refuse t k0 n0 [(k1, n1)] with
  | some x => exact refuse_fst h1
  | none =>
    obtain ⟨ht, hv, ho⟩ := refuse_none h1
    have := ho (k1, n1) (by simp)
    dsimp only at this
    obtain ⟨e, hv1⟩ := this
    subst e
    simp [ht, hv, hv1] at h

theorem mish_good {k n : Int} (h : valid k n = true) (h6 : k ≠ 6) (h0 : k ≠ 0) (r : List (Int × Int)) : mish ((k, n) :: r) = mish r := mish_cons_ok h h6 h0

theorem refuse_good2 {k n0 n1 : Int} (h0 : valid k n0 = true) (h1 : valid k n1 = true) (hk : k = 1 ∨ k = 2) : refuse true k n0 [(k, n1)] = none := by
  have a6 : k ≠ 6 := by omega
  have a0 : k ≠ 0 := by omega
  unfold refuse
  rw [mish_good h0 a6 a0, mish_good h1 a6 a0]
  simp [mish]

theorem refuse_good1 {k n0 : Int} (h0 : valid k n0 = true) (hk : k = 1 ∨ k = 2) : refuse true k n0 [] = none := by
  have a6 : k ≠ 6 := by omega
  have a0 : k ≠ 0 := by omega
  unfold refuse
  rw [mish_good h0 a6 a0]
  simp [mish]

theorem valid_neg {k n : Int} (h : valid k n = true) (hk : k = 1 ∨ k = 2) : valid k (-n) = true := by
  rcases hk with rfl | rfl <;> (unfold valid at *; simp at *; omega)

theorem valid_bd {k n : Int} (h : valid k n = true) (hk : k = 1 ∨ k = 2) : -9999999999999 ≤ n ∧ n ≤ 9999999999999 := by
  rcases hk with rfl | rfl <;> (unfold valid at *; simp at *; omega)

end M
end Go.Proofs.YtnmcniibcjjflaaDoor


namespace Go.Proofs.YtnmcniibcjjflaaDoor
open Go.RowKit Go.Shelf

/-- P1.13: a value that may be answered. -/
def Sound (r : Int × Int) : Prop := M.valid r.1 r.2 = true ∧ r.1 ≠ 0

theorem sound_bad : Sound (6, 5) := by constructor <;> decide
theorem sound_over : Sound (6, 1) := by constructor <;> decide
theorem sound_fit {b : Bool} {k n : Int} (hk : k ≠ 0) : Sound (M.fit b k n) := by
  unfold M.fit
  split
  · rename_i h; exact ⟨h.2, hk⟩
  · exact sound_over
theorem sound_mish : ∀ (vs : List (Int × Int)) (x : Int × Int), M.mish vs = some x → Sound x := by
  intro vs
  induction vs with
  | nil => intro x h; cases h
  | cons y r ih =>
    obtain ⟨k, n⟩ := y
    intro x h
    simp only [M.mish] at h
    by_cases hv : M.valid k n = false
    · rw [if_pos hv] at h; cases h; exact sound_bad
    · rw [if_neg hv] at h
      by_cases h6 : k = 6
      · rw [if_pos h6] at h; cases h; subst h6; exact ⟨by simpa using hv, (show (6 : Int) ≠ 0 by decide)⟩
      · rw [if_neg h6] at h
        by_cases h0 : k = 0
        · rw [if_pos h0] at h; cases h; constructor <;> decide
        · rw [if_neg h0] at h
          exact ih x h
theorem sound_refuse {t : Bool} {k n : Int} {os : List (Int × Int)} {x : Int × Int} (h : M.refuse t k n os = some x) : Sound x := by
  unfold M.refuse at h
  cases h1 : M.mish [(k, n)] with
  | some v => simp [h1] at h; subst h; exact sound_mish _ _ h1
  | none =>
    cases h2 : M.mish os with
    | some v => simp [h1, h2] at h; subst h; exact sound_mish _ _ h2
    | none =>
      simp only [h1, h2] at h
      by_cases ht : t = false
      · rw [if_pos ht] at h; cases h; exact sound_bad
      · rw [if_neg ht] at h
        by_cases ha : (os.all fun x => x.1 == k) = true
        · rw [if_pos ha] at h; cases h
        · rw [if_neg ha] at h; cases h; exact sound_bad
theorem sound_pair {t0 t1 : Bool} {k0 n0 k1 n1 : Int} {x : Int × Int} (h : M.pair t0 t1 k0 n0 k1 n1 = some x) : Sound x := by
  unfold M.pair at h
  cases h1 : M.mish [(k0, n0), (k1, n1)] with
  | some v => simp [h1] at h; subst h; exact sound_mish _ _ h1
  | none =>
    simp only [h1] at h
    split at h
    · cases h
    · cases h; exact sound_bad
theorem sound_ans {o : Option (Int × Int)} {d : Int × Int} (h : ∀ x, o = some x → Sound x) (hd : o = none → Sound d) : Sound (M.ans o d) := by
  cases o with
  | none => exact hd rfl
  | some x => exact h x rfl
theorem sound_cmpn (op x y : Int) : Sound (M.cmpn op x y) := by
  have hb : ∀ b, Sound (3, M.bit b) := fun b => by cases b <;> constructor <;> decide
  unfold M.cmpn
  repeat' split
  all_goals first | exact hb _ | exact sound_bad
theorem sound_tk {kind : Int} (hk : kind ≠ 0) : ∀ (l : List (Int × Int)) (s : Int) (j : Nat), Sound (M.tk kind s j l).1 := by
  intro l
  induction l with
  | nil => intro s j; exact sound_fit hk
  | cons y r ih =>
    obtain ⟨k, n⟩ := y
    intro s j
    simp only [M.tk]
    split
    · exact ih _ _
    split
    · exact sound_bad
    split
    · rename_i hv h6; subst h6; exact ⟨by simpa using hv, (show (6 : Int) ≠ 0 by decide)⟩
    split
    · exact sound_bad
    · exact ih _ _
theorem sound_tkn (kind : Int) (l : List (Int × Int)) : Sound (tkn kind l).1 := by
  unfold tkn
  split
  · exact sound_tk (by omega) _ _ _
  · exact sound_bad

theorem takes1_ne {k : Int} (h : takesB k 1 = true) : k ≠ 0 := by rw [takes_1] at h; have := of_decide_eq_true h; omega
theorem takes2_ne {k : Int} (h : takesB k 2 = true) : k ≠ 0 := by rw [takes_2] at h; have := of_decide_eq_true h; omega

theorem sound_op (kind k0 n0 k1 n1 k2 n2 num den mode : Int) (bs vs : List (Int × Int)) : Sound (ansOp kind k0 n0 k1 n1 k2 n2 num den mode bs vs) := by
  have hsc : ∀ m, Sound (M.scl num den mode m) := fun m => by unfold M.scl; split; exact sound_fit (by decide); exact sound_bad
  have hsp : ∀ m, Sound (M.spl mode n1 m) := fun m => by
    unfold M.spl
    split
    · split
      · constructor <;> decide
      · exact sound_fit (by decide)
    · exact sound_bad
  have hrn : ∀ b x, Sound (M.rnd num mode b x) := fun b x => by unfold M.rnd; split; exact sound_fit (by decide); exact sound_bad
  have hbk : ∀ m, Sound (brk bs m) := fun m => by unfold brk; split; exact sound_fit (by decide); exact sound_bad
  rcases (show kind = 1 ∨ kind = 2 ∨ kind = 3 ∨ kind = 4 ∨ kind = 5 ∨ kind = 6 ∨ kind = 7 ∨ kind = 8 ∨ kind = 9 ∨ kind = 10 ∨ kind = 11 ∨ kind = 12 ∨ kind = 13 ∨ kind = 14 ∨ (kind < 1 ∨ 14 < kind) by omega) with rfl | rfl | rfl | rfl | rfl | rfl | rfl | rfl | rfl | rfl | rfl | rfl | rfl | rfl | h
  · rw [ansOp_1]; exact sound_ans (fun _ => sound_refuse) (fun h => sound_fit (takes1_ne (M.refuse_none h).1))
  · rw [ansOp_2]; exact sound_ans (fun _ => sound_refuse) (fun h => sound_fit (takes1_ne (M.refuse_none h).1))
  · rw [ansOp_3]; exact sound_ans (fun _ => sound_refuse) (fun h => sound_fit (takes1_ne (M.refuse_none h).1))
  · rw [ansOp_4]; exact sound_ans (fun _ => sound_refuse) (fun h => sound_fit (takes1_ne (M.refuse_none h).1))
  · rw [ansOp_5]; exact sound_ans (fun _ => sound_refuse) (fun h => sound_fit (takes2_ne (M.refuse_none h).1))
  · rw [ansOp_6]; exact sound_ans (fun _ => sound_refuse) (fun h => sound_fit (takes2_ne (M.refuse_none h).1))
  · rw [ansOp_7]; exact sound_ans (fun _ => sound_refuse) (fun h => sound_fit (takes2_ne (M.refuse_none h).1))
  · rw [ansOp_8]; exact sound_ans (fun _ => sound_refuse) (fun _ => hsc _)
  · rw [ansOp_9]; exact sound_ans (fun _ => sound_pair) (fun _ => sound_fit (by decide))
  · rw [ansOp_10]; exact sound_ans (fun _ => sound_pair) (fun _ => hsp _)
  · rw [ansOp_11]; exact sound_ans (fun _ => sound_refuse) (fun _ => hrn _ _)
  · rw [ansOp_12]; exact sound_ans (fun _ => sound_refuse) (fun _ => sound_cmpn _ _ _)
  · rw [ansOp_13]; exact sound_ans (fun _ => sound_refuse) (fun _ => hbk _)
  · rw [ansOp_14]; exact sound_tkn _ _
  · rw [ansOp_0 _ _ _ _ _ _ _ _ _ _ _ _ h]; split <;> constructor <;> decide

theorem pair_fault {t0 t1 : Bool} {n0 k1 n1 : Int} (h : M.valid 6 n0 = true) : M.pair t0 t1 6 n0 k1 n1 = some (6, n0) := by
  unfold M.pair
  rw [M.mish_cons_fault h]

/-- What was a Fault in the first operand stays it. -/
theorem fault_op (kind n0 k1 n1 k2 n2 num den mode : Int) (bs vs : List (Int × Int)) (hv : M.valid 6 n0 = true) (hk : 1 ≤ kind ∧ kind ≤ 13) : ansOp kind 6 n0 k1 n1 k2 n2 num den mode bs vs = (6, n0) := by
  have hr : ∀ t os, M.refuse t 6 n0 os = some (6, n0) := fun t os => M.refuse_some_any (M.mish_cons_fault hv)
  rcases (show kind = 1 ∨ kind = 2 ∨ kind = 3 ∨ kind = 4 ∨ kind = 5 ∨ kind = 6 ∨ kind = 7 ∨ kind = 8 ∨ kind = 9 ∨ kind = 10 ∨ kind = 11 ∨ kind = 12 ∨ kind = 13 by omega) with rfl | rfl | rfl | rfl | rfl | rfl | rfl | rfl | rfl | rfl | rfl | rfl | rfl
  · rw [ansOp_1, hr, M.ans_some]
  · rw [ansOp_2, hr, M.ans_some]
  · rw [ansOp_3, hr, M.ans_some]
  · rw [ansOp_4, hr, M.ans_some]
  · rw [ansOp_5, hr, M.ans_some]
  · rw [ansOp_6, hr, M.ans_some]
  · rw [ansOp_7, hr, M.ans_some]
  · rw [ansOp_8, hr, M.ans_some]
  · rw [ansOp_9, pair_fault hv, M.ans_some]
  · rw [ansOp_10, pair_fault hv, M.ans_some]
  · rw [ansOp_11, hr, M.ans_some]
  · rw [ansOp_12, hr, M.ans_some]
  · rw [ansOp_13, hr, M.ans_some]

end Go.Proofs.YtnmcniibcjjflaaDoor
