import Derived.Test.YtmbjfpmplmebcaaCwB
namespace Go.Proofs.Ytmbjfpmplmebcaa.CF
open Go.RowKit
attribute [local go_sem] run_store_float

theorem atR_lt {D : Dots} (hD : Ok D) {x : Int} {r : Nat} {e : Int} (h : AtR D x r e) : r < 4294967296 := by
  rcases h with ⟨-, rfl, -⟩ | ⟨-, -, rfl, -⟩ | ⟨-, -, -, rfl, -⟩ | ⟨-, -, -, -, rfl, -⟩ | ⟨h1, -, -, -, -, i, hi, -, -, ⟨-, rfl⟩ | ⟨-, h0, rfl⟩⟩
  · decide
  · decide
  · decide
  · decide
  · exact (hD.getD i).2
  · have g1 := gB_parts (inO_true.1 h1 (i - 1) (by omega))
    have g2 := gB_parts (inO_true.1 h1 i hi)
    exact btwN_lt (hD.getD (i - 1)).2 g1.1.2 g2.1.2
/-- A list of whole numbers. -/
def XsAt (w : World) (a : Option Addr) (xs : List Int) : Prop := xs = [] ∨ ∃ b off, a = some ⟨b, off, none⟩ ∧ b < w.heap.size ∧ ∀ i (h : i < xs.length), w.cell? ⟨b, off + i, none⟩ = some (.int .i64 xs[i])
set_option maxRecDepth 8000 in
set_option maxHeartbeats 2000000 in
theorem ats_any (D : Dots) (hD : Ok D) (hl : D.length ≤ 8796093021952) (xs : List Int) (hxl : xs.length ≤ 9223372036854775806) (base g cap : Nat) (a ax : Option Addr) (c cx : Nat) (w : World) (h : InP w base g cap D) (h2 : RtAt w a D) (h3 : XsAt w ax xs) : Calls Try.prog 26 #[.slice (some ⟨g, 0, none⟩) D.length cap, .slice a D.length c, .slice ax xs.length cx] w fun e w' => e = .returned (.bool true) ∧ Below w.heap.size w w' := by
  have hp := h.pt
  clear h
  go_enter Try.func26, Try.ntmps26
  go_wp2
  go_loopw [7] (fun v wr => ∃ k : Nat, k ≤ xs.length ∧ v = .int .i64 (k : Int) ∧ Below w.heap.size w wr) (fun v _ => xs.length - (intOf v).toNat)
  case atStart => exact ⟨0, by omega, rfl, Below.refl _ _⟩
  case round =>
    obtain ⟨k, hk, rfl, hB⟩ := hrel
    by_cases hlt : k < xs.length
    · have hlt' : (k : Int) < (xs.length : Int) := by omega
      have hk0 : (0 : Int) ≤ (k : Int) := by omega
      obtain ⟨b, off, rfl, hbl, hc⟩ := h3.resolve_left (fun e => by rw [e] at hlt; simp at hlt)
      have s0 := hc k hlt
      generalize xs[k] = x at *
      obtain ⟨r, en, hR⟩ := atR_some D x
      have hrl := atR_lt hD hR
      have hS0 : ∀ X, Below w.heap.size w X → X.cell? ⟨b, off + k, none⟩ = some (.int .i64 x) := fun X hX => (hX.cell (p := ⟨b, off + k, none⟩) hbl).trans s0
      have c0 := hS0 _ hB
      have hat := at_any D hD (by omega) x r en hR (some ⟨g, 0, none⟩) cap wr (hp.later hB)
      clear hc s0
      go_wp2_with (go_at_call 19; fail)
      refine hat.mono ?_
      rintro _ w1 ⟨rfl, hB1⟩
      have hBw1 : Below w.heap.size w w1 := hB.trans (hB1.mono hB.size)
      have hBD : Below w.heap.size w w1.drew := hBw1.drew
      have c1 := hS0 _ hBD
      have hbi := bits_law D hl a c w1.drew (h2.later hBD)
      have hrat := fun X a' c' (hX : RtAt X a' D) => rat_any D hD (by omega) x r en hR a' c' X hX
      have hnr := fun X => near_self r hrl X
      have hne : (en != en) = false := by simp
      clear hat c0 hR hB1
      go_wp2_with fail
      go_region_held3 (fun X => X.cell? ⟨b, off + k, none⟩ = some (.int .i64 x)) (with_reducible assumption)
        (first | (go_at_call 45; refine hbi.mono ?_; rintro _ w2 ⟨a', c', rfl, hRt, hB2⟩; have hBw2 := hBD.trans (hB2.mono hBD.size); have c2 := hS0 _ hBw2) | (go_at_call 44; refine (hrat _ _ _ hRt).mono ?_; rintro _ w3 ⟨rfl, hB3⟩; have hBw3 := hBw2.trans (hB3.mono hBw2.size); have c3 := hS0 _ hBw3))
      clear hrat hbi
      go_wp2_with (go_at_call 32; refine (hnr _).mono ?_; rintro _ w4 ⟨rfl, hw4⟩; subst w4)
      go_roundw
      case rel => exact ⟨k + 1, by omega, by go_num, hBw3⟩
      case measure => simp [intOf]; omega
    · have hlt' : ¬ (k : Int) < (xs.length : Int) := by omega
      go_wp2
      go_ret
      exact ⟨rfl, hB⟩
end Go.Proofs.Ytmbjfpmplmebcaa.CF
