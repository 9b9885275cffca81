import Derived.Test.YtaecodgmfmijlaaDoorDFace
namespace Go.Proofs.YtaecodgmfmijlaaDoor
open Go.RowKit

theorem day_any (n : Int) (h0 : -9223372036854775808 ≤ n) (h1 : n ≤ 9223372036854775807) (w : World) : Calls Tryd.prog 10 #[.int .i64 n] w fun e w' => e = .returned (.int .i64 (D.dn n)) ∧ w' = w := by
  by_cases h : n < 0
  · have e1 : wrap64 (n + 1) = n + 1 := by unfold wrap64; omega
    have e2 : wrap64 (-(n + 1)) = -(n + 1) := by unfold wrap64; omega
    have e3 : (-(n + 1)).tmod 109573 = D.dn n := by unfold D.dn; rw [if_pos h]; exact Int.tmod_eq_emod_of_nonneg (by omega)
    obtain ⟨x, hx⟩ : ∃ x, x = -(n + 1) := ⟨_, rfl⟩
    rw [← hx] at e2 e3
    have e4 : -(n + 1) = x := hx.symm
    clear hx
    go_enter Tryd.func10, Tryd.ntmps10
    go_wp2
    go_ret
    exact ⟨rfl, rfl⟩
  · have e3 : n.tmod 109573 = D.dn n := by unfold D.dn; rw [if_neg h]; exact Int.tmod_eq_emod_of_nonneg (by omega)
    go_enter Tryd.func10, Tryd.ntmps10
    go_wp2
    go_ret
    exact ⟨rfl, rfl⟩

set_option maxHeartbeats 1000000 in
theorem known_true (w : World) (hM : Mon w) : Calls Tryd.prog 9 #[] w fun e w' => e = .returned (.bool true) ∧ Below w.heap.size w w' := by
  have hA := last_any 2000 2 w hM 29 (by decide)
  have hB := last_any 2001 2 w hM 28 (by decide)
  have hC := last_any 2001 1 w hM 31 (by decide)
  have hN := number_any 2000 2 29 w hM 36583 0 (by unfold Hid; decide)
  go_enter Tryd.func9, Tryd.ntmps9
  go_wp2_with (first | (go_at_call 12; refine hA.mono ?_; clear hA; rintro _ w ⟨rfl, rfl⟩) | (go_at_call 12; refine hB.mono ?_; clear hB; rintro _ w ⟨rfl, rfl⟩) | (go_at_call 12; refine hC.mono ?_; clear hC; rintro _ w ⟨rfl, rfl⟩) | (go_at_call 11; refine hN.mono ?_; clear hN; rintro _ w1 ⟨rfl, hb1⟩; have hM1 := hM.later hb1) | (go_at_call 24; refine (date_any 36583 2000 2 29 0 _ hM1 D.dat_known).mono ?_; rintro _ w2 ⟨rfl, hb2⟩; have hb := below_step hb1 hb2) | (go_at_call 16; refine (weekday_any 36583 _ 2 0 (by unfold Hid; decide)).mono ?_; rintro _ w2 ⟨rfl, rfl⟩))
  go_ret
  exact ⟨rfl, hb.alloc hb.size _⟩

end Go.Proofs.YtaecodgmfmijlaaDoor
