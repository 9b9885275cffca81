import Derived.Test.YtaecodgmfmijlaaDoorDShare
namespace Go.Proofs.YtaecodgmfmijlaaDoor
open Go.RowKit Go.Shelf
attribute [local go_sem] Oper.semAt_some

abbrev dayP (a : Int) : Prop := 0 ≤ a ∧ a ≤ 109572
/-- P2.10 -/
inductive ShareIs (a b y : Int) : Int → Int → Int → Prop
  | no (h : ¬ ((dayP a ∧ dayP b) ∧ (1900 ≤ y ∧ y ≤ 2199))) : ShareIs a b y 0 0 21
  | back (h : (dayP a ∧ dayP b) ∧ (1900 ≤ y ∧ y ≤ 2199)) (hl : b < a) : ShareIs a b y 0 0 23
  | yes (h : (dayP a ∧ dayP b) ∧ (1900 ≤ y ∧ y ≤ 2199)) (hl : a ≤ b) : ShareIs a b y (span (if a < D.ys y then D.ys y else a) (if D.ys (y + 1) - 1 < b then D.ys (y + 1) - 1 else b)) (D.ys (y + 1) - D.ys y) 0
theorem shareIs_ex (a b y : Int) : ∃ p q e, ShareIs a b y p q e := by
  by_cases h : (dayP a ∧ dayP b) ∧ (1900 ≤ y ∧ y ≤ 2199)
  · by_cases hl : b < a
    · exact ⟨_, _, _, .back h hl⟩
    · exact ⟨_, _, _, .yes h (by omega)⟩
  · exact ⟨_, _, _, .no h⟩

set_option maxRecDepth 100000 in
set_option maxHeartbeats 2000000 in
theorem share_nob (a b y : Int) (hY : ∀ W, Calls Tryd.prog 25 #[.int .i64 y] W fun en w' => en = .returned (.bool false) ∧ w' = W) (w : World) :
    Calls Tryd.prog 13 #[.int .i64 a, .int .i64 b, .int .i64 y] w fun en W' => en = .returned (.tuple #[.int .i64 0, .int .i64 0, .int .i64 21]) ∧ Below w.heap.size w W' := by
  obtain ⟨hs1, hs2⟩ := cell_new_l w (.int .i64 0) 3
  refine (callsIn_wide (n := 9)).1 ?_
  refine callsIn_of_wp_marks Tryd.func13 rfl trivial ?_ rfl
  simp only [Tryd.ntmps13, List.size_toArray, List.length_cons, List.length_nil, Nat.reduceAdd, Nat.reduceSub, Array.replicate_succ, Array.replicate_zero, List.push_toArray, List.append_toArray, List.nil_append, List.cons_append]
  gi_wp2_with (refine ⟨trivial, ?_⟩; gi_at_call 25; refine (callsIn_wide.2 (hY _)).mono ?_; clear hY; rintro _ _ ⟨rfl, rfl⟩)
  exact ⟨.tuple #[.int .i64 0, .int .i64 0, .int .i64 21], by simp [results, Tryd.results13, go_sem, hs1], rfl, (Below.refl _ _).alloc (Nat.le_refl _) _⟩

set_option maxRecDepth 100000 in
set_option maxHeartbeats 2000000 in
theorem share_no (a b y e : Int) (he : Hid (e = 21 ∨ e = 23)) (hY : ∀ W, Calls Tryd.prog 25 #[.int .i64 y] W fun en w' => en = .returned (.bool true) ∧ w' = W) (hO : ∀ W, Calls Tryd.prog 27 #[.int .i64 a, .int .i64 b] W fun en w' => en = .returned (.int .i64 e) ∧ w' = W) (w : World) :
    Calls Tryd.prog 13 #[.int .i64 a, .int .i64 b, .int .i64 y] w fun en W' => en = .returned (.tuple #[.int .i64 0, .int .i64 0, .int .i64 e]) ∧ Below w.heap.size w W' := by
  obtain ⟨hs1, hs2⟩ := cell_new_l w (.int .i64 0) 3
  refine (callsIn_wide (n := 9)).1 ?_
  refine callsIn_of_wp_marks Tryd.func13 rfl trivial ?_ rfl
  simp only [Tryd.ntmps13, List.size_toArray, List.length_cons, List.length_nil, Nat.reduceAdd, Nat.reduceSub, Array.replicate_succ, Array.replicate_zero, List.push_toArray, List.append_toArray, List.nil_append, List.cons_append]
  rcases he.out with rfl | rfl
  all_goals
    clear he
    gi_wp2_with (first | (refine ⟨trivial, ?_⟩; gi_at_call 25; refine (callsIn_wide.2 (hY _)).mono ?_; clear hY; rintro _ _ ⟨rfl, rfl⟩) | (refine ⟨trivial, ?_⟩; gi_at_call 27; refine (callsIn_wide.2 (hO _)).mono ?_; clear hO; rintro _ _ ⟨rfl, rfl⟩))
    first | exact ⟨.tuple #[.int .i64 0, .int .i64 0, .int .i64 21], by simp [results, Tryd.results13, go_sem, hs1], rfl, (Below.refl _ _).alloc (Nat.le_refl _) _⟩ | exact ⟨.tuple #[.int .i64 0, .int .i64 0, .int .i64 23], by simp [results, Tryd.results13, go_sem, hs1], rfl, (Below.refl _ _).alloc (Nat.le_refl _) _⟩

theorem share_any (a b y p q e : Int) (h : Hid (ShareIs a b y p q e)) (w : World) (hM : Mon w) :
    Calls Tryd.prog 13 #[.int .i64 a, .int .i64 b, .int .i64 y] w fun en w' => en = .returned (.tuple #[.int .i64 p, .int .i64 q, .int .i64 e]) ∧ Below w.heap.size w w' := by
  cases h.out with
  | no hn =>
    by_cases hy : 1900 ≤ y ∧ y ≤ 2199
    · exact share_no a b y 21 (.inl rfl) (fun W => isYear_yes y hy.1 hy.2 W) (fun W => inOrder_any a b 21 (by unfold Hid; rw [if_neg (by omega)]) W) w
    · exact share_nob a b y (fun W => isYear_no y hy W) w
  | back hd hl => exact share_no a b y 23 (.inr rfl) (fun W => isYear_yes y hd.2.1 hd.2.2 W) (fun W => inOrder_any a b 23 (by unfold Hid; rw [if_pos ⟨hd.1.1.1, hd.1.1.2, hd.1.2.1, hd.1.2.2⟩, if_pos hl]) W) w
  | yes hd hl => exact share_yes a b y hd.1.1.1 hl hd.1.2.2 hd.2.1 hd.2.2 w hM

end Go.Proofs.YtaecodgmfmijlaaDoor
