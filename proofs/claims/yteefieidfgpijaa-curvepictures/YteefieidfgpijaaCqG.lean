import Derived.Test.YteefieidfgpijaaCqF
import Derived.Test.YteefieidfgpijaaCwE
namespace Go.Proofs.Yteefieidfgpijaa.CF
open Go.RowKit

theorem drR_str {D : Dots} {wide high en : Int} {T : List Value} (h : DrR D wide high en T) : (∀ i (hi : i < T.length), ∃ s : ByteArray, T[i] = .string s) ∧ T.length ≤ 40 := by
  rcases h with ⟨-, -, rfl⟩ | ⟨-, -, -, rfl⟩ | ⟨-, -, -, -, rfl⟩ | ⟨w0, n, ⟨-, -, -, -, hn⟩, -, -, -, rfl⟩
  · exact ⟨fun i hi => absurd hi (by simp), by simp⟩
  · exact ⟨fun i hi => absurd hi (by simp), by simp⟩
  · exact ⟨fun i hi => absurd hi (by simp), by simp⟩
  · refine ⟨fun i hi => ?_, by rw [textsL_len]; omega⟩
    have h1 : (textsL D n w0 (n + 1))[i]? = some (.string (lineB D n w0 (n - i))) := by
      have hi' : i < n + 1 := by rw [textsL_len] at hi; exact hi
      unfold textsL
      rw [List.getElem?_map, List.getElem?_range hi']
      rfl
    rw [List.getElem?_eq_getElem hi] at h1
    exact ⟨_, Option.some.inj h1⟩
theorem own_lenV {w : World} {base n size : Nat} {e : TypeId} {v : Value} {xs : List Value} (h : w.ownsRow base e size v n xs) : ∃ p cap, v = .slice p n cap := by
  obtain ⟨_, ⟨rfl, rfl⟩ | ⟨g, cap, cur, rfl, _⟩⟩ := h
  · exact ⟨_, _, rfl⟩
  · exact ⟨_, _, rfl⟩
theorem own_at {w : World} {base n : Nat} {e : TypeId} {p : Option Addr} {cap : Nat} {xs : List Value} (h : w.ownsRow base e 1 (.slice p n cap) n xs) {k : Nat} (hk : k < xs.length) (hn : n = xs.length) : ∃ g, p = some ⟨g, 0, none⟩ ∧ w.cell? ⟨g, k, none⟩ = some xs[k] := by
  obtain ⟨g, cap', e1⟩ := own_some h (by omega)
  injection e1 with e1 e2 e3
  subst e1 e3
  exact ⟨g, rfl, (h.cellAt k (by omega)).trans (List.getElem?_eq_getElem hk)⟩
set_option maxRecDepth 8000 in
set_option maxHeartbeats 2000000 in
theorem picture_any (D : Dots) (hD : Ok D) (hl : D.length ≤ 8796093021952) (wide high : Int) (a a2 : Option Addr) (c c2 : Nat) (w : World) (hp : PtAt w a D) (h2 : RtAt w a2 D) : Calls Try.prog 20 #[.slice a D.length c, .slice a2 D.length c2, .int .i64 wide, .int .i64 high] w fun e w' => e = .returned (.bool true) ∧ Below w.heap.size w w' := by
  obtain ⟨en, T, hR⟩ := drR_some D wide high
  obtain ⟨hT, hTl⟩ := drR_str hR
  have hdr := draw_any D hD (by omega) wide high en T hR a c w hp
  have hrd := fun X a' c' (hX : RtAt X a' D) => rdraw_any D hD (by omega) wide high en T hR a' c' X hX
  have hbi := fun X (hX : RtAt X a2 D) => bits_law D hl a2 c2 X hX
  have hT2 := Hid.mk hT
  clear hR hT
  go_enter Try.func20, Try.ntmps20
  go_wp2_with (go_at_call 17; fail)
  refine hdr.mono ?_
  rintro _ w1 ⟨v1, rfl, ho1, hB1⟩
  obtain ⟨p1, cap1, rfl⟩ := own_lenV ho1
  clear hdr
  go_wp2_with (go_at_call 36; fail)
  refine (hbi _ (h2.later hB1)).mono ?_
  rintro _ w2 ⟨a', c', rfl, hRt, hB2⟩
  clear hbi
  go_wp2_with (go_at_call 35; fail)
  refine (hrd _ _ _ hRt).mono ?_
  rintro _ w3 ⟨v3, rfl, ho3, hB3⟩
  obtain ⟨p3, cap3, rfl⟩ := own_lenV ho3
  clear hrd hRt
  have ho1' := own_bel (own_bel ho1 hB2) hB3
  have hBe : Below w.heap.size w w3 := (hB1.trans (hB2.mono hB1.size)).trans (hB3.mono (Nat.le_trans hB1.size hB2.size))
  have hne : (en != en) = false := by simp
  have hne2 : ((T.length : Int) != (T.length : Int)) = false := by simp
  clear ho1 hB1 hB2 hB3 hp h2
  go_wp2_with fail
  go_loopw [13] (fun v wr => ∃ k : Nat, k ≤ T.length ∧ v = .int .i64 (k : Int) ∧ wr.ownsRow w.heap.size 9 1 (.slice p1 T.length cap1) T.length T ∧ wr.ownsRow w2.heap.size 9 1 (.slice p3 T.length cap3) T.length T ∧ Below w.heap.size w wr) (fun v _ => T.length - (intOf v).toNat)
  case atStart => exact ⟨0, by omega, rfl, ho1', ho3, hBe⟩
  case round =>
    clear ho1' ho3 hBe
    obtain ⟨k, hk, rfl, ho1, ho3, hB⟩ := hrel
    by_cases hlt : k < T.length
    · have hlt' : (k : Int) < (T.length : Int) := by omega
      have hk0 : (0 : Int) ≤ (k : Int) := by omega
      obtain ⟨g1, rfl, s1⟩ := own_at ho1 hlt rfl
      obtain ⟨g3, rfl, s3⟩ := own_at ho3 hlt rfl
      obtain ⟨s, hs⟩ := hT2.out k hlt
      rw [hs] at s1 s3
      have hoH := Hid.mk (And.intro ho1 ho3)
      clear hs hT2 ho1 ho3
      go_wp2_with fail
      go_quiet (fail)
      go_wp2
      go_roundw
      case rel => exact ⟨k + 1, by omega, by go_num, own_bel hoH.out.1 (below_drewN (Below.refl _ _) _), own_bel hoH.out.2 (below_drewN (Below.refl _ _) _), below_drewN hB _⟩
      case measure => simp [intOf]; omega
    · have hlt' : ¬ (k : Int) < (T.length : Int) := by omega
      go_wp2
      go_ret
      exact ⟨rfl, hB⟩
end Go.Proofs.Yteefieidfgpijaa.CF
