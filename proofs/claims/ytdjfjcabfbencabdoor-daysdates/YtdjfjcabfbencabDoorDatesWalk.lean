import Derived.Test.YtdjfjcabfbencabDoorDFace
import Derived.Test.YtdjfjcabfbencabDoorDRefFace
namespace Go.Proofs.YtdjfjcabfbencabDoor
open Go.RowKit

set_option maxHeartbeats 2000000 in
theorem dates_walk (y m d n : Int) (w : World) (hM : Mon w) :
    Calls Tryd.prog 3 #[.int .i64 y, .int .i64 m, .int .i64 d, .int .i64 n] w fun e w' => e = .returned (.bool true) ∧ Below w.heap.size w w' := by
  have hA := leap_any y
  have hB := rleap_any y
  have hC := last_any y m w hM _ rfl
  have hD := rlast_any y m w _ rfl
  obtain ⟨v, e, hv⟩ : ∃ v e, Hid ((v, e) = D.num y m d) := ⟨_, _, rfl⟩
  obtain ⟨u, f, hu⟩ : ∃ v e, Hid ((v, e) = D.wk n) := ⟨_, _, rfl⟩
  obtain ⟨Y, M, K, g, hd⟩ : ∃ y m d e, Hid (D.Dat n y m d e) := D.dat_ex n
  generalize D.leap y = l at *
  generalize D.last y m = L at *
  go_enter Tryd.func3, Tryd.ntmps3
  go_wp2_with (first | (go_at_call 6; refine (hA _).mono ?_; clear hA; rintro _ w ⟨rfl, rfl⟩) | (go_at_call 7; refine (hB _).mono ?_; clear hB; rintro _ w ⟨rfl, rfl⟩) | (go_at_call 8; refine hC.mono ?_; clear hC; rintro _ w ⟨rfl, rfl⟩) | (go_at_call 9; refine hD.mono ?_; clear hD; rintro _ w ⟨rfl, rfl⟩) | (go_at_call 10; refine (number_any y m d w hM v e hv).mono ?_; rintro _ w1 ⟨rfl, hb1⟩; have hM1 := hM.later hb1) | (go_at_call 11; refine (rnumber_any y m d _ v e hv).mono ?_; rintro _ w1 ⟨rfl, rfl⟩) | (go_at_call 12; refine (date_any n Y M K g w1 hM1 hd).mono ?_; rintro _ w2 ⟨rfl, hb2⟩; have hb := below_step hb1 hb2) | (go_at_call 13; refine (rdate_any n Y M K g _ hd).mono ?_; rintro _ w2 ⟨rfl, rfl⟩) | (go_at_call 14; refine (weekday_any n _ u f hu).mono ?_; rintro _ w2 ⟨rfl, rfl⟩) | (go_at_call 15; refine (rweekday_any n _ u f hu).mono ?_; rintro _ w2 ⟨rfl, rfl⟩))
  go_ret
  exact ⟨rfl, hb.alloc hb.size _⟩

end Go.Proofs.YtdjfjcabfbencabDoor
