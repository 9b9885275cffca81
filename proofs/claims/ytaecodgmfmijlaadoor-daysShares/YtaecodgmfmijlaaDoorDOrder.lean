import Derived.Test.YtaecodgmfmijlaaDoorDHeld
import Derived.Test.YtaecodgmfmijlaaDoorDFace
namespace Go.Proofs.YtaecodgmfmijlaaDoor
open Go.RowKit

theorem inOrder_any (a b e : Int) (h : Hid (e = if 0 ≤ a ∧ a ≤ 109572 ∧ 0 ≤ b ∧ b ≤ 109572 then (if b < a then 23 else 0) else 21)) (w : World) :
    Calls Tryd.prog 27 #[.int .i64 a, .int .i64 b] w fun en w' => en = .returned (.int .i64 e) ∧ w' = w := by
  have he := h.out
  clear h
  by_cases ha : 0 ≤ a ∧ a ≤ 109572
  · have hI := isDay_yes a ha.1 ha.2 w
    by_cases hb : 0 ≤ b ∧ b ≤ 109572
    · have hJ := isDay_yes b hb.1 hb.2 w
      rw [if_pos ⟨ha.1, ha.2, hb.1, hb.2⟩] at he
      by_cases c : b < a
      · rw [if_pos c] at he
        subst he
        clear ha hb
        go_enter Tryd.func27, Tryd.ntmps27
        go_wp2_with (first | (go_at_call 29; refine hI.mono ?_; clear hI; rintro _ w ⟨rfl, rfl⟩) | (go_at_call 29; refine hJ.mono ?_; clear hJ; rintro _ w ⟨rfl, rfl⟩))
        go_ret
        exact ⟨rfl, rfl⟩
      · rw [if_neg c] at he
        subst he
        clear ha hb
        go_enter Tryd.func27, Tryd.ntmps27
        go_wp2_with (first | (go_at_call 29; refine hI.mono ?_; clear hI; rintro _ w ⟨rfl, rfl⟩) | (go_at_call 29; refine hJ.mono ?_; clear hJ; rintro _ w ⟨rfl, rfl⟩))
        go_ret
        exact ⟨rfl, rfl⟩
    · have hJ := isDay_no b hb w
      rw [if_neg (by omega)] at he
      subst he
      clear ha hb
      go_enter Tryd.func27, Tryd.ntmps27
      go_wp2_with (first | (go_at_call 29; refine hI.mono ?_; clear hI; rintro _ w ⟨rfl, rfl⟩) | (go_at_call 29; refine hJ.mono ?_; clear hJ; rintro _ w ⟨rfl, rfl⟩))
      go_ret
      exact ⟨rfl, rfl⟩
  · have hI := isDay_no a ha w
    rw [if_neg (by omega)] at he
    subst he
    clear ha
    go_enter Tryd.func27, Tryd.ntmps27
    go_wp2_with (go_at_call 29; refine hI.mono ?_; clear hI; rintro _ w ⟨rfl, rfl⟩)
    go_ret
    exact ⟨rfl, rfl⟩

end Go.Proofs.YtaecodgmfmijlaaDoor
