import Derived.Test.YtilpommjeifdfaaHKnown
namespace Go.Proofs.Ytilpommjeifdfaa
open Go.RowKit

theorem AllAt.drop {W : World} {lo g off cap : Nat} {Ls : List Es} (h : AllAt W lo (.slice (some ⟨g, off, none⟩) Ls.length cap) Ls) {n : Nat} (hn : n ≤ Ls.length) : AllAt W lo (.slice (some ⟨g, off + n, none⟩) (Ls.length - n) (cap - n)) (Ls.drop n) := by
  obtain ⟨g', off', cap', ss, e, h0, h1, h2, h3⟩ := h
  injection e with e1 e2 e3
  injection e1 with e1
  injection e1 with e4 e5
  subst e3 e4 e5
  refine ⟨g, off + n, cap - n, fun i => ss (n + i), by rw [List.length_drop], by rw [List.length_drop]; omega, h1, h2, fun i hi => ?_⟩
  rw [List.length_drop] at hi
  have := h3 (n + i) (by omega)
  rw [List.getElem_drop, show off + n + i = off + (n + i) by omega]
  exact this
theorem wrI {x y : Int} (h : x = y) (h1 : -1000000 ≤ y) (h2 : y ≤ 1000000) : IntKind.i64.wrap x = y ∧ wrap64 x = y := by
  subst h
  constructor
  · rw [IntKind.wrap_i64]; omega
  · unfold wrap64; omega
theorem bnums (p r m q l : Nat) (hq : q + m = p) (hr : p + 1 + r = l) (hl : l ≤ 33) : ¬ (m : Int) < 0 ∧ ¬ (p : Int) < (m : Int) ∧ (IntKind.i64.wrap ((p : Int) - (m : Int)) = (q : Int) ∧ wrap64 ((p : Int) - (m : Int)) = (q : Int)) ∧ (IntKind.i64.wrap ((p : Int) + (r : Int)) = (p : Int) + (r : Int) ∧ wrap64 ((p : Int) + (r : Int)) = (p : Int) + (r : Int)) ∧ (IntKind.i64.wrap ((p : Int) + (r : Int) + 1) = (l : Int) ∧ wrap64 ((p : Int) + (r : Int) + 1) = (l : Int)) ∧ (IntKind.i64.wrap (-(q : Int)) = -(q : Int) ∧ wrap64 (-(q : Int)) = -(q : Int)) ∧ (m : Int) ≤ (l : Int) ∧ (0 : Int) ≤ (m : Int) ∧ m ≤ l ∧ q + 1 + r = l - m ∧ l - m ≤ 33 :=
  ⟨by omega, by omega, wrI (by omega) (by omega) (by omega), wrI rfl (by omega) (by omega), wrI (by omega) (by omega) (by omega), wrI rfl (by omega) (by omega), by omega, by omega, by omega, by omega, by omega⟩
/-- What all tells, with the list's place. -/
theorem all_at (hb : Nat) (Ls : List Es) (p : Nat) (z : Int) (hz : z = -(p : Int)) (w : World) (h : HistAt w hb Ls p) :
    Calls Try.prog 16 #[.pointer (some ⟨hb, 0, none⟩)] w fun e w' => ∃ g off cap, e = .returned (.tuple #[.slice (some ⟨g, off, none⟩) Ls.length cap, .int .i64 z]) ∧ Ls.length ≤ cap ∧ AllAt w' w.heap.size (.slice (some ⟨g, off, none⟩) Ls.length cap) Ls ∧ Below w.heap.size w w' := by
  subst hz
  refine (all_hist hb Ls p w h).mono ?_
  rintro e w' ⟨v, rfl, hA, hb'⟩
  have hA' := hA
  obtain ⟨g, off, cap, ss, rfl, hc, -⟩ := hA
  exact ⟨g, off, cap, rfl, hc, hA', hb'⟩

set_option maxRecDepth 4000 in
set_option maxHeartbeats 8000000 in
theorem hbound_walk (v : Value) (S : List HOp) (n : Int) (w : World) (hS : OpsA w v S) (hn : -9223372036854775808 ≤ n ∧ n ≤ 9223372036854775807) :
    Calls Try.prog 4 #[v, .int .i64 n] w fun e w' => e = .returned (.bool true) ∧ Below w.heap.size w w' := by
  obtain ⟨a, cap, rfl, hcap, hlen, hD⟩ := hS
  have hk := known_hist w
  go_enter Try.func4, Try.ntmps4
  go_wp2_with (first | (go_at_call 7; refine hk.mono ?_; rintro e w1 ⟨rfl, hb1⟩) | (go_at_call 8; refine (new_nil _).mono ?_; rintro e w2 ⟨hb, rfl, hlo2, hH2, hb2⟩))
  have hB2 := below_step hb1 hb2
  have hlo : w.heap.size ≤ hb := by have := hb1.size; omega
  clear hk hb1 hb2 hlo2
  go_loopw [6] (fun iv X => ∃ j : Nat, j ≤ S.length ∧ iv = .int .i64 (j : Int) ∧ HistAt X hb ((S.take j).foldl hstep ([[]], 0)).1 ((S.take j).foldl hstep ([[]], 0)).2 ∧ Below w.heap.size w X) (fun iv _ => S.length - (intOf iv).toNat)
  case atStart => exact ⟨0, by omega, rfl, by simpa using hH2, hB2⟩
  case round =>
    obtain ⟨j, hj, rfl, hH, hB⟩ := hrel
    clear hH2 hB2
    by_cases hlt : j < S.length
    · have hlt' : (j : Int) < (S.length : Int) := by omega
      have hj0 : (0 : Int) ≤ (j : Int) := by omega
      rcases hD with hD | ⟨g, off, rfl, hg, hc⟩
      · rw [hD] at hlt; simp at hlt
      have hstp : (S.take (j + 1)).foldl hstep ([[]], 0) = hstep ((S.take j).foldl hstep ([[]], 0)) S[j] := by rw [List.take_succ_eq_append_getElem hlt, List.foldl_append]; rfl
      have hO := hc j hlt
      have hOs : OpsA w (.slice (some ⟨g, off + j * 6, none⟩) 1 (cap - j)) [S[j]] := ⟨_, cap - j, rfl, by simp; omega, by simp, .inr ⟨g, _, rfl, hg, fun i hi => by
        obtain rfl : i = 0 := by simp at hi; omega
        simpa using hO⟩⟩
      have hpl := plays_any hb _ _ _ w hOs hlo wr hB hH
      have hf1 : [S[j]].foldl hstep ((S.take j).foldl hstep ([[]], 0)) = (S.take (j + 1)).foldl hstep ([[]], 0) := by rw [hstp]; rfl
      rw [hf1] at hpl
      obtain ⟨s, hs⟩ : ∃ s, s = (S.take (j + 1)).foldl hstep ([[]], 0) := ⟨_, rfl⟩
      rw [← hs] at hpl
      have hs' : Hid (s = (S.take (j + 1)).foldl hstep ([[]], 0)) := hs
      clear hs hf1 hOs hO hc hH hstp
      have hc1 : (j : Int) + 1 ≤ (cap : Int) := by omega
      have hwr : IntKind.i64.wrap ((j : Int) + 1) = (j : Int) + 1 := by rw [IntKind.wrap_i64]; omega
      have hwr3 : wrap64 ((j : Int) + 1) = (j : Int) + 1 := by unfold wrap64; omega
      have htn : ((j : Int) + 1).toNat = j + 1 := by omega
      have htn2 : j + 1 - j = 1 := by omega
      go_wp2_with (go_at_call 9; fail)
      refine hpl.mono ?_
      rintro e w5 ⟨rfl, hH5, hg5⟩
      have hB5 := grown_below hB hg5 hlo
      have hp1 := hH5.1
      have hp2 := hH5.2.1
      obtain ⟨r, hr⟩ : ∃ r, s.2 + 1 + r = s.1.length := ⟨s.1.length - 1 - s.2, by omega⟩
      have hde := depth_any hb s.1 s.2 r hr w5 hH5
      have q1 : ¬ (s.2 : Int) < 0 := by omega
      have q2 : ¬ (r : Int) < 0 := by omega
      have q3 : ¬ (32 : Int) < (s.2 : Int) + (r : Int) := by omega
      have q4 : IntKind.i64.wrap ((s.2 : Int) + (r : Int)) = (s.2 : Int) + (r : Int) := by rw [IntKind.wrap_i64]; omega
      have q5 : wrap64 ((s.2 : Int) + (r : Int)) = (s.2 : Int) + (r : Int) := by unfold wrap64; omega
      have d1 := decide_eq_false q1
      have d2 := decide_eq_false q2
      have d3 := decide_eq_false q3
      clear hpl hp1 hp2 hr
      go_wp2_with (go_at_call 12; refine hde.mono ?_; rintro e w6 ⟨rfl, hb6⟩)
      go_roundw
      case rel => exact ⟨j + 1, by omega, by go_num, by rw [← hs'.out]; exact hH5.later hb6, below_step hB5 hb6⟩
      case measure => simp [intOf]; omega
    · have hlt' : ¬ (j : Int) < (S.length : Int) := by omega
      obtain ⟨s, hs⟩ : ∃ s, s = (S.take j).foldl hstep ([[]], 0) := ⟨_, rfl⟩
      rw [← hs] at hH
      clear hs hD
      obtain ⟨Ls, p⟩ := s
      have hp1 := hH.1
      have hp2 := hH.2.1
      simp only at hp1 hp2 hH
      obtain ⟨r, hr⟩ : ∃ r, p + 1 + r = Ls.length := ⟨Ls.length - 1 - p, by omega⟩
      have hbl := hH.lt
      have hde := depth_any hb Ls p r hr wr hH
      have tB : True := trivial
      go_wp2_with (go_at_call 12; fail)
      refine hde.mono ?_
      rintro e w6 ⟨rfl, hb6⟩
      have hH6 := hH.later hb6
      have hB6 := below_step hB hb6
      have hbl6 := Nat.lt_of_lt_of_le hbl hb6.size
      clear hde hcap hlen hj hlt hlt' hH hB hb6 hbl
      by_cases hnn : 0 ≤ n ∧ n ≤ (p : Int)
      · obtain ⟨m, rfl⟩ : ∃ m : Nat, n = (m : Int) := ⟨n.toNat, by omega⟩
        have hfo := fun X h => forget_some hb Ls p m (by omega) X h
        obtain ⟨q, hq⟩ : ∃ q, q + m = p := ⟨p - m, by omega⟩
        rw [show p - m = q by omega] at hfo
        obtain ⟨k1, k2, ⟨k3, k4⟩, ⟨k5, k6⟩, ⟨k7, k8⟩, ⟨k9, k10⟩, k11, k12, hml, hr', hl33⟩ := bnums p r m q Ls.length hq hr hp2
        have e1 := decide_eq_false k1
        have e2 := decide_eq_false k2
        have hlm : (Ls.drop m).length = Ls.length - m := by rw [List.length_drop]
        rw [← hlm] at hr' hl33
        have hHr : Hid (q + m = p ∧ p + 1 + r = Ls.length) := ⟨hq, hr⟩
        obtain ⟨Ld, hLd⟩ : ∃ Ld, Ld = Ls.drop m := ⟨_, rfl⟩
        rw [← hLd] at hr' hl33 hlm hfo
        have hHd : Hid (Ld = Ls.drop m) := hLd
        have hHl : Hid (Ls.length - m = Ld.length) := hlm.symm
        have hlo2 : Hid (w.heap.size ≤ hb) := hlo
        have hbl2 : Hid (hb < w6.heap.size) := hbl6
        have hal := all_at hb Ls p _ rfl _ hH6
        have hml2 : Hid (m ≤ Ls.length) := hml
        have hl332 : Hid (Ld.length ≤ 33) := hl33
        have hr2 : Hid (q + 1 + r = Ld.length) := hr'
        clear hq hr hn hnn hLd hlm hp1 hp2 hlo hbl6 hml hl33 hr'
        go_wp2_with (first
          | (go_at_call 16; have _u := tB; clear tB; refine hal.mono ?_; rintro e w7 ⟨g7, o7, c7, rfl, hc7, hA7, hb7⟩; have hfor := hfo _ (hH6.later hb7))
          | (go_at_call 20; refine hfor.mono ?_; rintro e w8 ⟨rfl, hH8, hg8⟩; have hA8 := hA7.kept hbl2.out (hH6.later hb7) hg8; have hal2 := all_at hb Ld q _ rfl _ hH8)
          | (go_at_call 16; refine hal2.mono ?_; rintro e w9 ⟨g9, o9, c9, rfl, hc9, hA9, hb9⟩; have hde2 := depth_any hb Ld q r hr2.out _ (hH8.later hb9))
          | (go_at_call 12; fail))
        refine hde2.mono ?_
        rintro e w10 ⟨rfl, hb10⟩
        have hAx := ((hA8.later hb9).later hb10).drop (n := m) hml2.out
        have hAy := hA9.later hb10
        rw [hHl.out, ← hHd.out] at hAx
        have hsa := same_lists _ _ _ _ Ld hl332.out _ hAx hAy
        have hcm : ¬ c7 = m := by have := hHr.out; omega
        have hpm : ¬ p < m := by have := hHr.out; omega
        have hcap2 : Hid (Ls.length ≤ c7) := hc7
        clear hal hfo hfor hal2 hde2 hA7 hA8 hA9 hAx hAy hH6 hH8 hc7 hc9
        go_wp2_with (go_at_call 19; fail)
        rw [hHl.out]
        refine hsa.mono ?_
        rintro e w11 ⟨rfl, hb11⟩
        go_wp2
        go_ret
        exact ⟨rfl, below_step (below_step (below_step (grown_below (below_step hB6 hb7) hg8 hlo2.out) hb9) hb10) hb11⟩
      · have hfo := fun X h => forget_bad hb Ls p n (by omega) X h
        have hal := all_at hb Ls p _ rfl _ hH6
        have hsp : (n < 0 ∧ decide (n < 0) = true) ∨ (¬ n < 0 ∧ decide (n < 0) = false ∧ (p : Int) < n ∧ decide ((p : Int) < n) = true) := by
          by_cases h0 : n < 0
          · exact .inl ⟨h0, decide_eq_true h0⟩
          · have h1 : (p : Int) < n := by omega
            exact .inr ⟨h0, decide_eq_false h0, h1, decide_eq_true h1⟩
        have hlo2 : Hid (w.heap.size ≤ hb) := hlo
        have hl332 : Hid (Ls.length ≤ 33) := hp2
        have hr2 : Hid (p + 1 + r = Ls.length) := hr
        clear hn hnn hr hp1 hp2 hlo hbl6
        go_wp2_with (first
          | (go_at_call 16; have _u := tB; clear tB; refine hal.mono ?_; rintro e w7 ⟨g7, o7, c7, rfl, hc7, hA7, hb7⟩; have hfor := hfo _ (hH6.later hb7))
          | (go_at_call 20; refine hfor.mono ?_; rintro e w8 ⟨rfl, hb8⟩; have hH8 := (hH6.later hb7).later hb8; have hA8 := hA7.later hb8; have hal2 := all_at hb Ls p _ rfl _ hH8)
          | (go_at_call 16; refine hal2.mono ?_; rintro e w9 ⟨g9, o9, c9, rfl, hc9, hA9, hb9⟩; have hde2 := depth_any hb Ls p r hr2.out _ (hH8.later hb9))
          | (go_at_call 12; fail))
        refine hde2.mono ?_
        rintro e w10 ⟨rfl, hb10⟩
        have hsa := same_lists _ _ _ _ Ls hl332.out _ ((hA8.later hb9).later hb10) (hA9.later hb10)
        clear hal hfo hfor hal2 hde2 hA7 hA8 hA9 hH6 hH8 hc7 hc9
        rcases hsp with ⟨s1, s2⟩ | ⟨s1, s2, s3, s4⟩
        all_goals
          go_wp2_with (go_at_call 19; refine hsa.mono ?_; rintro e w11 ⟨rfl, hb11⟩)
          go_ret
          exact ⟨rfl, below_step (below_step (below_step (below_step (below_step hB6 hb7) hb8) hb9) hb10) hb11⟩

end Go.Proofs.Ytilpommjeifdfaa
