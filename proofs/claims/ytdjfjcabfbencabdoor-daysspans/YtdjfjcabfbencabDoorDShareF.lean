import Derived.Test.YtdjfjcabfbencabDoorDShare
import Derived.Test.YtdjfjcabfbencabDoorDRefFace
namespace Go.Proofs.YtdjfjcabfbencabDoor
open Go.RowKit Go.Shelf
attribute [local go_sem] Oper.semAt_some

abbrev dayP (a : Int) : Prop := 0 ≤ a ∧ a ≤ 109572
/-- P2.10 -/
inductive ShareIs (a b y : Int) : Int → Int → Int → Prop
  | no (h : ¬ ((dayP a ∧ dayP b) ∧ (1900 ≤ y ∧ y ≤ 2199))) : ShareIs a b y 0 0 21
  | back (h : (dayP a ∧ dayP b) ∧ (1900 ≤ y ∧ y ≤ 2199)) (hl : b < a) : ShareIs a b y 0 0 23
  | yes (h : (dayP a ∧ dayP b) ∧ (1900 ≤ y ∧ y ≤ 2199)) (hl : a ≤ b) : ShareIs a b y (span (if a < D.ys y then D.ys y else a) (if D.ys (y + 1) - 1 < b then D.ys (y + 1) - 1 else b)) (D.ys (y + 1) - D.ys y) 0
theorem shareIs_ex (a b y : Int) : ∃ p q e, ShareIs a b y p q e := by
  by_cases h : (dayP a ∧ dayP b) ∧ (1900 ≤ y ∧ y ≤ 2199)
  · by_cases hl : b < a
    · exact ⟨_, _, _, .back h hl⟩
    · exact ⟨_, _, _, .yes h (by omega)⟩
  · exact ⟨_, _, _, .no h⟩

set_option maxRecDepth 100000 in
set_option maxHeartbeats 2000000 in
theorem share_nob (a b y : Int) (hY : ∀ W, Calls Tryd.prog 30 #[.int .i64 y] W fun en w' => en = .returned (.bool false) ∧ w' = W) (w : World) :
    Calls Tryd.prog 28 #[.int .i64 a, .int .i64 b, .int .i64 y] w fun en W' => en = .returned (.tuple #[.int .i64 0, .int .i64 0, .int .i64 21]) ∧ Below w.heap.size w W' := by
  obtain ⟨hs1, hs2⟩ := cell_new_l w (.int .i64 0) 3
  refine (callsIn_wide (n := 9)).1 ?_
  refine callsIn_of_wp_marks Tryd.func28 rfl trivial ?_ rfl
  simp only [Tryd.ntmps28, List.size_toArray, List.length_cons, List.length_nil, Nat.reduceAdd, Nat.reduceSub, Array.replicate_succ, Array.replicate_zero, List.push_toArray, List.append_toArray, List.nil_append, List.cons_append]
  gi_wp2_with (refine ⟨trivial, ?_⟩; gi_at_call 30; refine (callsIn_wide.2 (hY _)).mono ?_; clear hY; rintro _ _ ⟨rfl, rfl⟩)
  exact ⟨.tuple #[.int .i64 0, .int .i64 0, .int .i64 21], by simp [results, Tryd.results28, go_sem, hs1], rfl, (Below.refl _ _).alloc (Nat.le_refl _) _⟩

set_option maxRecDepth 100000 in
set_option maxHeartbeats 2000000 in
theorem share_no (a b y e : Int) (he : Hid (e = 21 ∨ e = 23)) (hY : ∀ W, Calls Tryd.prog 30 #[.int .i64 y] W fun en w' => en = .returned (.bool true) ∧ w' = W) (hO : ∀ W, Calls Tryd.prog 44 #[.int .i64 a, .int .i64 b] W fun en w' => en = .returned (.int .i64 e) ∧ w' = W) (w : World) :
    Calls Tryd.prog 28 #[.int .i64 a, .int .i64 b, .int .i64 y] w fun en W' => en = .returned (.tuple #[.int .i64 0, .int .i64 0, .int .i64 e]) ∧ Below w.heap.size w W' := by
  obtain ⟨hs1, hs2⟩ := cell_new_l w (.int .i64 0) 3
  refine (callsIn_wide (n := 9)).1 ?_
  refine callsIn_of_wp_marks Tryd.func28 rfl trivial ?_ rfl
  simp only [Tryd.ntmps28, List.size_toArray, List.length_cons, List.length_nil, Nat.reduceAdd, Nat.reduceSub, Array.replicate_succ, Array.replicate_zero, List.push_toArray, List.append_toArray, List.nil_append, List.cons_append]
  rcases he.out with rfl | rfl
  all_goals
    clear he
    gi_wp2_with (first | (refine ⟨trivial, ?_⟩; gi_at_call 30; refine (callsIn_wide.2 (hY _)).mono ?_; clear hY; rintro _ _ ⟨rfl, rfl⟩) | (refine ⟨trivial, ?_⟩; gi_at_call 44; refine (callsIn_wide.2 (hO _)).mono ?_; clear hO; rintro _ _ ⟨rfl, rfl⟩))
    first | exact ⟨.tuple #[.int .i64 0, .int .i64 0, .int .i64 21], by simp [results, Tryd.results28, go_sem, hs1], rfl, (Below.refl _ _).alloc (Nat.le_refl _) _⟩ | exact ⟨.tuple #[.int .i64 0, .int .i64 0, .int .i64 23], by simp [results, Tryd.results28, go_sem, hs1], rfl, (Below.refl _ _).alloc (Nat.le_refl _) _⟩

theorem share_any (a b y p q e : Int) (h : Hid (ShareIs a b y p q e)) (w : World) (hM : Mon w) :
    Calls Tryd.prog 28 #[.int .i64 a, .int .i64 b, .int .i64 y] w fun en w' => en = .returned (.tuple #[.int .i64 p, .int .i64 q, .int .i64 e]) ∧ Below w.heap.size w w' := by
  cases h.out with
  | no hn =>
    by_cases hy : 1900 ≤ y ∧ y ≤ 2199
    · exact share_no a b y 21 (.inl rfl) (fun W => isYear_yes y hy.1 hy.2 W) (fun W => inOrder_any a b 21 (by unfold Hid; rw [if_neg (by omega)]) W) w
    · exact share_nob a b y (fun W => isYear_no y hy W) w
  | back hd hl => exact share_no a b y 23 (.inr rfl) (fun W => isYear_yes y hd.2.1 hd.2.2 W) (fun W => inOrder_any a b 23 (by unfold Hid; rw [if_pos ⟨hd.1.1.1, hd.1.1.2, hd.1.2.1, hd.1.2.2⟩, if_pos hl]) W) w
  | yes hd hl => exact share_yes a b y hd.1.1.1 hl hd.1.2.2 hd.2.1 hd.2.2 w hM

set_option maxHeartbeats 2000000 in
theorem rshare_any (a b y p q e : Int) (h : Hid (ShareIs a b y p q e)) (w : World) :
    Calls Tryd.prog 29 #[.int .i64 a, .int .i64 b, .int .i64 y] w fun en w' => en = .returned (.tuple #[.int .i64 p, .int .i64 q, .int .i64 e]) ∧ w' = w := by
  have hI := is_any a w
  have hJ := is_any b w
  cases h.out with
  | no hn =>
    generalize hA : decide (0 ≤ a ∧ a ≤ 109572) = qa at *
    generalize hB : decide (0 ≤ b ∧ b ≤ 109572) = qb at *
    have hc : qa = false ∨ (qa = true ∧ qb = false) ∨ (qa = true ∧ qb = true ∧ y < 1900) ∨ (qa = true ∧ qb = true ∧ ¬ y < 1900 ∧ 2199 < y) := by
      cases qa with
      | false => exact .inl rfl
      | true =>
        cases qb with
        | false => exact .inr (.inl ⟨rfl, rfl⟩)
        | true =>
          have h1 := of_decide_eq_true hA
          have h2 := of_decide_eq_true hB
          by_cases c : y < 1900
          · exact .inr (.inr (.inl ⟨rfl, rfl, c⟩))
          · exact .inr (.inr (.inr ⟨rfl, rfl, c, by apply Classical.byContradiction; intro hx; exact hn ⟨⟨h1, h2⟩, by omega⟩⟩))
    clear h hn hA hB
    rcases hc with rfl | ⟨rfl, rfl⟩ | ⟨rfl, rfl, c1⟩ | ⟨rfl, rfl, c1, c2⟩
    all_goals
      go_enter Tryd.func29, Tryd.ntmps29
      go_wp2_with (first | (go_at_call 35; refine hI.mono ?_; clear hI; rintro _ w ⟨rfl, rfl⟩) | (go_at_call 35; refine hJ.mono ?_; clear hJ; rintro _ w ⟨rfl, rfl⟩))
      exact bodyPost_ret (v := .tuple #[.int .i64 0, .int .i64 0, .int .i64 21]) (by simp [results, Tryd.results29, go_sem]) rfl ⟨rfl, rfl⟩
  | back hd hl =>
    rw [decide_eq_true hd.1.1] at hI
    rw [decide_eq_true hd.1.2] at hJ
    have c1 : ¬ y < 1900 := by omega
    have c2 : ¬ 2199 < y := by omega
    clear h hd
    go_enter Tryd.func29, Tryd.ntmps29
    go_wp2_with (first | (go_at_call 35; refine hI.mono ?_; clear hI; rintro _ w ⟨rfl, rfl⟩) | (go_at_call 35; refine hJ.mono ?_; clear hJ; rintro _ w ⟨rfl, rfl⟩))
    exact bodyPost_ret (v := .tuple #[.int .i64 0, .int .i64 0, .int .i64 23]) (by simp [results, Tryd.results29, go_sem]) rfl ⟨rfl, rfl⟩
  | yes hd hl =>
    rw [decide_eq_true hd.1.1] at hI
    rw [decide_eq_true hd.1.2] at hJ
    have c1 : ¬ y < 1900 := by omega
    have c2 : ¬ 2199 < y := by omega
    have c3 : ¬ b < a := by omega
    have b1 := hd.1.2.2
    have a0 := hd.1.1.1
    have s0 := D.ys_bd y (by omega) (by omega)
    have s1 := D.ys_bd (y + 1) (by omega) (by omega)
    have s2 : D.ys y + 365 ≤ D.ys (y + 1) := by have := D.ys_succ y; have := D.lv_bd y; omega
    have hA := begins_any (12 * (y - 1900)) (by omega) (by omega) w
    have hB := begins_any (12 * (y - 1900 + 1)) (by omega) (by omega) w
    rw [D.bg_year, show 1900 + (y - 1900) = y by omega] at hA
    rw [D.bg_year, show 1900 + (y - 1900 + 1) = y + 1 by omega] at hB
    have e1 : wrap64 (y - 1900) = y - 1900 := wrap64_id (by omega) (by omega)
    have e2 : wrap64 (12 * (y - 1900)) = 12 * (y - 1900) := wrap64_id (by omega) (by omega)
    have e3 : wrap64 (y - 1900 + 1) = y - 1900 + 1 := wrap64_id (by omega) (by omega)
    have e4 : wrap64 (12 * (y - 1900 + 1)) = 12 * (y - 1900 + 1) := wrap64_id (by omega) (by omega)
    have e5 : wrap64 (b + 1) = b + 1 := wrap64_id (by omega) (by omega)
    generalize D.ys (y + 1) = Z at *
    generalize D.ys y = S at *
    clear h hd
    have e6 : wrap64 (Z - S) = Z - S := wrap64_id (by omega) (by omega)
    have hw : ∀ x : Int, -1000000 ≤ x → x ≤ 1000000 → wrap64 x = x := fun x h1 h2 => wrap64_id (by omega) (by omega)
    have hspan : Hid (∀ lo hi : Int, span lo hi = if lo ≤ hi then hi - lo + 1 else 0) := fun _ _ => rfl
    generalize hsp : span (if a < S then S else a) (if Z - 1 < b then Z - 1 else b) = P at *
    by_cases t1 : a < S <;> by_cases t2 : Z < b + 1
    all_goals
      have hP := hsp.symm.trans (hspan.out _ _)
      clear hsp
      simp only [t1, if_true, if_false] at hP
      first | (rw [if_pos (show Z - 1 < b by omega)] at hP) | (rw [if_neg (show ¬ Z - 1 < b by omega)] at hP)
    · by_cases t3 : Z < S
      · have hP0 : P = 0 := by rw [hP]; split <;> omega
        rw [hP0]
        clear hP hP0 hw hspan
        go_enter Tryd.func29, Tryd.ntmps29
        go_wp2_with (first | (go_at_call 35; refine hI.mono ?_; clear hI; rintro _ w ⟨rfl, rfl⟩) | (go_at_call 35; refine hJ.mono ?_; clear hJ; rintro _ w ⟨rfl, rfl⟩) | (go_at_call 32; refine hA.mono ?_; clear hA; rintro _ w ⟨rfl, rfl⟩) | (go_at_call 32; refine hB.mono ?_; clear hB; rintro _ w ⟨rfl, rfl⟩))
        all_goals exact bodyPost_ret (v := .tuple #[.int .i64 0, .int .i64 (Z - S), .int .i64 0]) (by simp [results, Tryd.results29, go_sem, *]) rfl ⟨rfl, rfl⟩
      · have hP0 : P = Z - S := by rw [hP]; split <;> omega
        have e7 := hw (Z - S) (by omega) (by omega)
        rw [hP0]
        clear hP hP0 hw hspan
        go_enter Tryd.func29, Tryd.ntmps29
        go_wp2_with (first | (go_at_call 35; refine hI.mono ?_; clear hI; rintro _ w ⟨rfl, rfl⟩) | (go_at_call 35; refine hJ.mono ?_; clear hJ; rintro _ w ⟨rfl, rfl⟩) | (go_at_call 32; refine hA.mono ?_; clear hA; rintro _ w ⟨rfl, rfl⟩) | (go_at_call 32; refine hB.mono ?_; clear hB; rintro _ w ⟨rfl, rfl⟩))
        exact bodyPost_ret (v := .tuple #[.int .i64 (Z - S), .int .i64 (Z - S), .int .i64 0]) (by simp [results, Tryd.results29, go_sem, *]) rfl ⟨rfl, rfl⟩
    · by_cases t3 : (b + 1) < S
      · have hP0 : P = 0 := by rw [hP]; split <;> omega
        rw [hP0]
        clear hP hP0 hw hspan
        go_enter Tryd.func29, Tryd.ntmps29
        go_wp2_with (first | (go_at_call 35; refine hI.mono ?_; clear hI; rintro _ w ⟨rfl, rfl⟩) | (go_at_call 35; refine hJ.mono ?_; clear hJ; rintro _ w ⟨rfl, rfl⟩) | (go_at_call 32; refine hA.mono ?_; clear hA; rintro _ w ⟨rfl, rfl⟩) | (go_at_call 32; refine hB.mono ?_; clear hB; rintro _ w ⟨rfl, rfl⟩))
        all_goals exact bodyPost_ret (v := .tuple #[.int .i64 0, .int .i64 (Z - S), .int .i64 0]) (by simp [results, Tryd.results29, go_sem, *]) rfl ⟨rfl, rfl⟩
      · have hP0 : P = (b + 1) - S := by rw [hP]; split <;> omega
        have e7 := hw ((b + 1) - S) (by omega) (by omega)
        rw [hP0]
        clear hP hP0 hw hspan
        go_enter Tryd.func29, Tryd.ntmps29
        go_wp2_with (first | (go_at_call 35; refine hI.mono ?_; clear hI; rintro _ w ⟨rfl, rfl⟩) | (go_at_call 35; refine hJ.mono ?_; clear hJ; rintro _ w ⟨rfl, rfl⟩) | (go_at_call 32; refine hA.mono ?_; clear hA; rintro _ w ⟨rfl, rfl⟩) | (go_at_call 32; refine hB.mono ?_; clear hB; rintro _ w ⟨rfl, rfl⟩))
        exact bodyPost_ret (v := .tuple #[.int .i64 ((b + 1) - S), .int .i64 (Z - S), .int .i64 0]) (by simp [results, Tryd.results29, go_sem, *]) rfl ⟨rfl, rfl⟩
    · by_cases t3 : Z < a
      · have hP0 : P = 0 := by rw [hP]; split <;> omega
        rw [hP0]
        clear hP hP0 hw hspan
        go_enter Tryd.func29, Tryd.ntmps29
        go_wp2_with (first | (go_at_call 35; refine hI.mono ?_; clear hI; rintro _ w ⟨rfl, rfl⟩) | (go_at_call 35; refine hJ.mono ?_; clear hJ; rintro _ w ⟨rfl, rfl⟩) | (go_at_call 32; refine hA.mono ?_; clear hA; rintro _ w ⟨rfl, rfl⟩) | (go_at_call 32; refine hB.mono ?_; clear hB; rintro _ w ⟨rfl, rfl⟩))
        all_goals exact bodyPost_ret (v := .tuple #[.int .i64 0, .int .i64 (Z - S), .int .i64 0]) (by simp [results, Tryd.results29, go_sem, *]) rfl ⟨rfl, rfl⟩
      · have hP0 : P = Z - a := by rw [hP]; split <;> omega
        have e7 := hw (Z - a) (by omega) (by omega)
        rw [hP0]
        clear hP hP0 hw hspan
        go_enter Tryd.func29, Tryd.ntmps29
        go_wp2_with (first | (go_at_call 35; refine hI.mono ?_; clear hI; rintro _ w ⟨rfl, rfl⟩) | (go_at_call 35; refine hJ.mono ?_; clear hJ; rintro _ w ⟨rfl, rfl⟩) | (go_at_call 32; refine hA.mono ?_; clear hA; rintro _ w ⟨rfl, rfl⟩) | (go_at_call 32; refine hB.mono ?_; clear hB; rintro _ w ⟨rfl, rfl⟩))
        exact bodyPost_ret (v := .tuple #[.int .i64 (Z - a), .int .i64 (Z - S), .int .i64 0]) (by simp [results, Tryd.results29, go_sem, *]) rfl ⟨rfl, rfl⟩
    · by_cases t3 : (b + 1) < a
      · have hP0 : P = 0 := by rw [hP]; split <;> omega
        rw [hP0]
        clear hP hP0 hw hspan
        go_enter Tryd.func29, Tryd.ntmps29
        go_wp2_with (first | (go_at_call 35; refine hI.mono ?_; clear hI; rintro _ w ⟨rfl, rfl⟩) | (go_at_call 35; refine hJ.mono ?_; clear hJ; rintro _ w ⟨rfl, rfl⟩) | (go_at_call 32; refine hA.mono ?_; clear hA; rintro _ w ⟨rfl, rfl⟩) | (go_at_call 32; refine hB.mono ?_; clear hB; rintro _ w ⟨rfl, rfl⟩))
        all_goals exact bodyPost_ret (v := .tuple #[.int .i64 0, .int .i64 (Z - S), .int .i64 0]) (by simp [results, Tryd.results29, go_sem, *]) rfl ⟨rfl, rfl⟩
      · have hP0 : P = (b + 1) - a := by rw [hP]; split <;> omega
        have e7 := hw ((b + 1) - a) (by omega) (by omega)
        rw [hP0]
        clear hP hP0 hw hspan
        go_enter Tryd.func29, Tryd.ntmps29
        go_wp2_with (first | (go_at_call 35; refine hI.mono ?_; clear hI; rintro _ w ⟨rfl, rfl⟩) | (go_at_call 35; refine hJ.mono ?_; clear hJ; rintro _ w ⟨rfl, rfl⟩) | (go_at_call 32; refine hA.mono ?_; clear hA; rintro _ w ⟨rfl, rfl⟩) | (go_at_call 32; refine hB.mono ?_; clear hB; rintro _ w ⟨rfl, rfl⟩))
        exact bodyPost_ret (v := .tuple #[.int .i64 ((b + 1) - a), .int .i64 (Z - S), .int .i64 0]) (by simp [results, Tryd.results29, go_sem, *]) rfl ⟨rfl, rfl⟩

end Go.Proofs.YtdjfjcabfbencabDoor
