import Derived.Test.YtmbjfpmplmebcaaCwE
namespace Go.Proofs.Ytmbjfpmplmebcaa.CF
open Go.RowKit

theorem XsAt.later {w w' : World} {a : Option Addr} {xs : List Int} (h : XsAt w a xs) {n : Nat} (hb : Below n w w') (hn : w.heap.size ≤ n) : XsAt w' a xs := by
  rcases h with h | ⟨b, off, ha, hlt, hc⟩
  · exact .inl h
  · exact .inr ⟨b, off, ha, Nat.lt_of_lt_of_le hlt hb.size, fun i hi => (hb.cell (p := ⟨b, off + i, none⟩) (Nat.lt_of_lt_of_le hlt hn)).trans (hc i hi)⟩
set_option maxHeartbeats 1000000 in
theorem ats_walk (D : Dots) (hD : Ok D) (hl : D.length ≤ 8796093021952) (xs : List Int) (hxl : xs.length ≤ 9223372036854775806) (a ax : Option Addr) (c cx : Nat) (w : World) (h2 : RtAt w a D) (hcap : a = none → c = 0) (h3 : XsAt w ax xs) : Calls Try.prog 7 #[.slice a D.length c, .slice ax xs.length cx] w fun e w' => e = .returned (.bool true) ∧ Below w.heap.size w w' := by
  have hpo := points_law D hl a c w h2
  go_enter Try.func7, Try.ntmps7
  go_wp2_with (go_at_call 25; fail)
  refine hpo.mono ?_
  rintro _ w1 ⟨g, cap, rfl, hI1, hB1⟩
  clear hpo
  have hat := ats_any D hD hl xs hxl w.heap.size g cap a ax c cx w1 hI1 (h2.later hB1) (h3.later hB1 (Nat.le_refl _))
  go_wp2_with (go_at_call 26; fail)
  refine hat.mono ?_
  rintro _ w2 ⟨rfl, hB2⟩
  clear hat
  have hI2 := hI1.later hB2
  have hBw2 : Below w.heap.size w w2 := hB1.trans (hB2.mono hB1.size)
  have hke := kept_any D hl w.heap.size g cap a c w2 hI2 (h2.later hBw2)
  go_wp2_with (go_at_call 27; fail)
  refine hke.mono ?_
  rintro _ w3 ⟨rfl, hB3⟩
  clear hke
  have hI3 := hI2.later hB3
  have hBw3 : Below w.heap.size w w3 := hBw2.trans (hB3.mono hBw2.size)
  have htu := turned_law D hl w.heap.size g cap a c w3 hI3 (h2.later hBw3) hcap hBw3.size
  go_wp2_with (go_at_call 28; fail)
  refine htu.mono ?_
  rintro _ w4 ⟨a', c', rfl, hR4, hI4, hB4, -⟩
  clear htu
  have hBw4 : Below w.heap.size w w4 := hBw3.trans hB4
  have hat2 := ats_any (turnD D) hD.turnD (by rw [turnD_len]; exact hl) xs hxl w.heap.size g cap a' ax c' cx w4 hI4 hR4 (h3.later hBw4 (Nat.le_refl _))
  rw [turnD_len] at hat2
  go_wp2_with (go_at_call 26; fail)
  refine hat2.mono ?_
  rintro _ w5 ⟨rfl, hB5⟩
  clear hat2
  have hBe : Below w.heap.size w w5 := hBw4.trans (hB5.mono hBw4.size)
  go_wp2
  go_ret
  exact ⟨rfl, hBe⟩
end Go.Proofs.Ytmbjfpmplmebcaa.CF
