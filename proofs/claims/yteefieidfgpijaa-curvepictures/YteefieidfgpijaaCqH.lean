import Derived.Test.YteefieidfgpijaaCqG
namespace Go.Proofs.Yteefieidfgpijaa.CF
open Go.RowKit

set_option maxHeartbeats 1000000 in
theorem pics_walk (D : Dots) (hD : Ok D) (hl : D.length ≤ 8796093021952) (wide high : Int) (a : Option Addr) (c : Nat) (w : World) (h2 : RtAt w a D) (hcap : a = none → c = 0) : Calls Try.prog 6 #[.slice a D.length c, .int .i64 wide, .int .i64 high] w fun e w' => e = .returned (.bool true) ∧ Below w.heap.size w w' := by
  have hpo := points_law D hl a c w h2
  go_enter Try.func6, Try.ntmps6
  go_wp2_with (go_at_call 19; fail)
  refine hpo.mono ?_
  rintro _ w1 ⟨g, cap, rfl, hI1, hB1⟩
  clear hpo
  have hat := picture_any D hD hl wide high (some ⟨g, 0, none⟩) a cap c w1 hI1.pt (h2.later hB1)
  go_wp2_with (go_at_call 20; fail)
  refine hat.mono ?_
  rintro _ w2 ⟨rfl, hB2⟩
  clear hat
  have hI2 := hI1.later hB2
  have hBw2 : Below w.heap.size w w2 := hB1.trans (hB2.mono hB1.size)
  have hke := kept_any D hl w.heap.size g cap a c w2 hI2 (h2.later hBw2)
  go_wp2_with (go_at_call 21; fail)
  refine hke.mono ?_
  rintro _ w3 ⟨rfl, hB3⟩
  clear hke
  have hI3 := hI2.later hB3
  have hBw3 : Below w.heap.size w w3 := hBw2.trans (hB3.mono hBw2.size)
  have htu := turned_law D hl w.heap.size g cap a c w3 hI3 (h2.later hBw3) hcap hBw3.size
  go_wp2_with (go_at_call 22; fail)
  refine htu.mono ?_
  rintro _ w4 ⟨a', c', rfl, hR4, hI4, hB4, -⟩
  clear htu
  have hBw4 : Below w.heap.size w w4 := hBw3.trans hB4
  have hat2 := picture_any (turnD D) hD.turnD (by rw [turnD_len]; exact hl) wide high (some ⟨g, 0, none⟩) a' cap c' w4 hI4.pt hR4
  rw [turnD_len] at hat2
  go_wp2_with (go_at_call 20; fail)
  refine hat2.mono ?_
  rintro _ w5 ⟨rfl, hB5⟩
  clear hat2
  have hBe : Below w.heap.size w w5 := hBw4.trans (hB5.mono hBw4.size)
  go_wp2
  go_ret
  exact ⟨rfl, hBe⟩
end Go.Proofs.Yteefieidfgpijaa.CF
