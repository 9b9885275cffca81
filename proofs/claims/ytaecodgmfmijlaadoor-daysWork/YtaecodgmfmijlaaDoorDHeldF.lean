import Derived.Test.YtaecodgmfmijlaaDoorDAdd
import Derived.Test.YtaecodgmfmijlaaDoorDOrder
namespace Go.Proofs.YtaecodgmfmijlaaDoor
open Go.RowKit

/-- P2.7 -/
inductive HeldIs (a b : Int) : Bool → Int → Prop
  | no (h : ¬ ((0 ≤ a ∧ a ≤ 109572) ∧ (0 ≤ b ∧ b ≤ 109572))) : HeldIs a b false 21
  | back (h : (0 ≤ a ∧ a ≤ 109572) ∧ (0 ≤ b ∧ b ≤ 109572)) (hl : b < a) : HeldIs a b false 23
  | yes (h : (0 ≤ a ∧ a ≤ 109572) ∧ (0 ≤ b ∧ b ≤ 109572)) (hl : a ≤ b) (v f : Int) (hA : D.AddIs a 12 v f) : HeldIs a b (f == 0 && decide (v < b)) 0
theorem held_ex (a b : Int) : ∃ q e, HeldIs a b q e := by
  by_cases h : (0 ≤ a ∧ a ≤ 109572) ∧ (0 ≤ b ∧ b ≤ 109572)
  · by_cases hl : b < a
    · exact ⟨_, _, .back h hl⟩
    · obtain ⟨v, f, hA⟩ := D.add_ex a 12
      exact ⟨_, _, .yes h (by omega) v f hA⟩
  · exact ⟨_, _, .no h⟩

set_option maxHeartbeats 1000000 in
theorem held_any (a b : Int) (q : Bool) (e : Int) (h : Hid (HeldIs a b q e)) (w : World) (hM : Mon w) :
    Calls Tryd.prog 18 #[.int .i64 a, .int .i64 b] w fun en w' => en = .returned (.tuple #[.bool q, .int .i64 e]) ∧ Below w.heap.size w w' := by
  cases h.out with
  | no hn =>
    have hO := inOrder_any a b 21 (by unfold Hid; rw [if_neg (by omega)]) w
    clear h hn hM
    go_enter Tryd.func18, Tryd.ntmps18
    go_wp2_with (go_at_call 27; refine hO.mono ?_; clear hO; rintro _ w ⟨rfl, rfl⟩)
    exact bodyPost_ret (v := .tuple #[.bool false, .int .i64 21]) (by simp [results, Tryd.results18, go_sem]) rfl ⟨rfl, Below.refl _ _⟩
  | back hd hl =>
    have hO := inOrder_any a b 23 (by unfold Hid; rw [if_pos ⟨hd.1.1, hd.1.2, hd.2.1, hd.2.2⟩, if_pos hl]) w
    clear h hd hM
    go_enter Tryd.func18, Tryd.ntmps18
    go_wp2_with (go_at_call 27; refine hO.mono ?_; clear hO; rintro _ w ⟨rfl, rfl⟩)
    exact bodyPost_ret (v := .tuple #[.bool false, .int .i64 23]) (by simp [results, Tryd.results18, go_sem]) rfl ⟨rfl, Below.refl _ _⟩
  | yes hd hl v f hA =>
    have hO := inOrder_any a b 0 (by unfold Hid; rw [if_pos ⟨hd.1.1, hd.1.2, hd.2.1, hd.2.2⟩, if_neg (by omega)]) w
    have hA2 : Hid (D.AddIs a 12 v f) := hA
    clear h hd hA
    go_enter Tryd.func18, Tryd.ntmps18
    go_wp2_with (first | (go_at_call 27; refine hO.mono ?_; clear hO; rintro _ w ⟨rfl, rfl⟩) | (go_at_call 17; refine (add_any a 12 v f _ hM hA2).mono ?_; clear hA2; rintro _ w1 ⟨rfl, hb1⟩))
    all_goals exact bodyPost_ret (v := .tuple #[.bool (f == 0 && decide (v < b)), .int .i64 0]) (by simp [results, Tryd.results18, go_sem, *]) rfl ⟨rfl, hb1⟩

end Go.Proofs.YtaecodgmfmijlaaDoor
