import Derived.Test.YtdjfjcabfbencabDoorDHeldF
import Derived.Test.YtdjfjcabfbencabDoorDRAge
namespace Go.Proofs.YtdjfjcabfbencabDoor
open Go.RowKit

set_option maxHeartbeats 1000000 in
theorem rheld_any (a b : Int) (q : Bool) (e : Int) (h : Hid (HeldIs a b q e)) (w : World) :
    Calls Tryd.prog 27 #[.int .i64 a, .int .i64 b] w fun en w' => en = .returned (.tuple #[.bool q, .int .i64 e]) ∧ w' = w := by
  have hI := is_any a w
  have hJ := is_any b w
  cases h.out with
  | no hn =>
    by_cases ha : 0 ≤ a ∧ a ≤ 109572
    · have hb : ¬ (0 ≤ b ∧ b ≤ 109572) := fun hb => hn ⟨ha, hb⟩
      rw [decide_eq_true ha] at hI
      rw [decide_eq_false hb] at hJ
      clear h hn ha hb
      go_enter Tryd.func27, Tryd.ntmps27
      go_wp2_with (first | (go_at_call 35; refine hI.mono ?_; clear hI; rintro _ w ⟨rfl, rfl⟩) | (go_at_call 35; refine hJ.mono ?_; clear hJ; rintro _ w ⟨rfl, rfl⟩))
      exact bodyPost_ret (v := .tuple #[.bool false, .int .i64 21]) (by simp [results, Tryd.results27, go_sem]) rfl ⟨rfl, rfl⟩
    · rw [decide_eq_false ha] at hI
      generalize decide (0 ≤ b ∧ b ≤ 109572) = q at *
      clear h hn ha
      go_enter Tryd.func27, Tryd.ntmps27
      go_wp2_with (first | (go_at_call 35; refine hI.mono ?_; clear hI; rintro _ w ⟨rfl, rfl⟩) | (go_at_call 35; refine hJ.mono ?_; clear hJ; rintro _ w ⟨rfl, rfl⟩))
      exact bodyPost_ret (v := .tuple #[.bool false, .int .i64 21]) (by simp [results, Tryd.results27, go_sem]) rfl ⟨rfl, rfl⟩
  | back hd hl =>
    rw [decide_eq_true hd.1] at hI
    rw [decide_eq_true hd.2] at hJ
    clear h hd
    go_enter Tryd.func27, Tryd.ntmps27
    go_wp2_with (first | (go_at_call 35; refine hI.mono ?_; clear hI; rintro _ w ⟨rfl, rfl⟩) | (go_at_call 35; refine hJ.mono ?_; clear hJ; rintro _ w ⟨rfl, rfl⟩))
    exact bodyPost_ret (v := .tuple #[.bool false, .int .i64 23]) (by simp [results, Tryd.results27, go_sem]) rfl ⟨rfl, rfl⟩
  | yes hd hl v f hA =>
    have hA2 : Hid (D.AddIs a 12 v f) := hA
    have c0 : ¬ b < a := by omega
    rw [decide_eq_true hd.1] at hI
    rw [decide_eq_true hd.2] at hJ
    clear h hd hA
    go_enter Tryd.func27, Tryd.ntmps27
    go_wp2_with (first | (go_at_call 35; refine hI.mono ?_; clear hI; rintro _ w ⟨rfl, rfl⟩) | (go_at_call 35; refine hJ.mono ?_; clear hJ; rintro _ w ⟨rfl, rfl⟩) | (go_at_call 21; refine (radd_any a 12 v f _ hA2).mono ?_; clear hA2; rintro _ w ⟨rfl, rfl⟩))
    all_goals exact bodyPost_ret (v := .tuple #[.bool (f == 0 && decide (v < b)), .int .i64 0]) (by simp [results, Tryd.results27, go_sem, *]) rfl ⟨rfl, rfl⟩

end Go.Proofs.YtdjfjcabfbencabDoor
