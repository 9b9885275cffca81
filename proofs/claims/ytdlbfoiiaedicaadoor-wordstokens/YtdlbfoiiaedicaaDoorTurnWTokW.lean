import Derived.Test.YtdlbfoiiaedicaaDoorTurnWTk4
import Derived.Test.YtdlbfoiiaedicaaDoorTurnWLaid4
namespace Go.Proofs.YtdlbfoiiaedicaaDoor.Q
open Go.RowKit Go.Shelf

theorem okL_all {L : List Itm} (h : ∀ x ∈ L, x.2.2 = 0) : okL L = L := okL_of (.inl rfl) h
theorem TokRow.take {W : World} {p : Option Addr} {n cap : Nat} {L : List Itm} (h : TokRow W (.slice p n cap) L) (k : Nat) (hk : k ≤ L.length) : TokRow W (.slice p k cap) (L.take k) := by
  obtain ⟨a, c, e, h⟩ := h
  injection e with e1 e2 e3
  subst e1 e2 e3
  have hl : (L.take k).length = k := by rw [List.length_take]; omega
  refine ⟨p, cap, by rw [hl], ?_⟩
  rcases h with rfl | ⟨g, o, rfl, hg, hc⟩
  · exact .inl (by simp)
  · refine .inr ⟨g, o, rfl, hg, fun j hj => ?_⟩
    have := hc j (by omega)
    simpa using this

theorem own_len {w : World} {base n size : Nat} {e : TypeId} {v : Value} {xs : List Value} (h : w.ownsRow base e size v n xs) : ∃ p cap, v = .slice p n cap := by
  obtain ⟨_, ⟨rfl, rfl⟩ | ⟨g, cap, cur, rfl, _⟩⟩ := h
  · exact ⟨_, _, rfl⟩
  · exact ⟨_, _, rfl⟩
theorem own_cap {w : World} {base n size c : Nat} {e : TypeId} {a : Option Addr} {xs : List Value} (h : w.ownsRow base e size (.slice a n c) n xs) : n ≤ c := by
  obtain ⟨_, ⟨e, h0⟩ | ⟨g, cap, cur, e, h1, h2, h3, h4⟩⟩ := h
  · omega
  · injection e with e1 e2 e3
    omega

set_option maxRecDepth 4000 in
set_option maxHeartbeats 400000 in
theorem tokens_walkQ (s : ByteArray) (stop : Int) (w : World) (hr : -9223372036854775808 ≤ stop ∧ stop ≤ 9223372036854775807) (hT : Tabs w) : Calls Tryd.prog 3 #[.string s, .int .i64 stop] w fun e w' => e = .returned (.bool true) ∧ Below w.heap.size w w' := by
  obtain ⟨hC, hE, hM, hS, hR⟩ := hT
  have hu := upto_any s w hR
  have hlen := foundL_len s.data.toList
  by_cases hlong : (65536 : Int) < s.size
  · clear hu
    go_enter Tryd.func3, Tryd.ntmps3
    go_wp2_with fail
    go_ret
    exact ⟨rfl, Below.refl _ _⟩
  · have hu' : Calls Tryd.prog 5 #[.string s] w fun e w' => Below w.heap.size w w' ∧ ∃ v a b, e = .returned (.tuple #[v, .int .i64 a, .int .i64 b]) ∧ w'.ownsRow w.heap.size 35 5 v (okL (foundL s.data.toList)).length (tokLs (okL (foundL s.data.toList))) := by
      refine hu.mono ?_
      rintro e w' ⟨hb, ⟨pre, x, v, hL, hx, hall, rfl, ho⟩ | ⟨hall, v, rfl, ho⟩⟩
      · refine ⟨hb, v, _, _, rfl, ?_⟩
        rw [okL_of (.inr ⟨x, hL, hx⟩) hall]
        exact ho
      · refine ⟨hb, v, _, _, rfl, ?_⟩
        rw [okL_all hall]
        exact ho
    have hl2 : (okL (foundL s.data.toList)).length ≤ (foundL s.data.toList).length := (List.takeWhile_prefix _).length_le
    clear hu
    have hg0' : ∀ W, Below w.heap.size w W → Calls Tryd.prog 6 #[.string s, .int .i64 0, .int .i64 2] W fun e w' => Below W.heap.size W w' ∧ ∃ v, e = .returned (.tuple #[v, .bool true]) ∧ w'.ownsRow W.heap.size 35 5 v (okL (foundL s.data.toList)).length (tokLs (okL (foundL s.data.toList))) := fun W hb =>
      gone_any s 0 W (hC.later hb) (hE.later hb) (hM.later hb) (hS.later hb) (Nat.zero_le _)
    have hg1' : ∀ k : Nat, 0 < k → k ≤ (okL (foundL s.data.toList)).length → ∀ W, Below w.heap.size w W → Calls Tryd.prog 6 #[.string s, .int .i64 (k : Int), .int .i64 2] W fun e w' => Below W.heap.size W w' ∧ ∃ v, e = .returned (.tuple #[v, .bool true]) ∧ w'.ownsRow W.heap.size 35 5 v ((okL (foundL s.data.toList)).take k).length (tokLs ((okL (foundL s.data.toList)).take k)) := fun k h0 hk W hb => by
      have := gone_any s k W (hC.later hb) (hE.later hb) (hM.later hb) (hS.later hb) hk
      unfold goneL at this
      rw [if_neg (by omega)] at this
      exact this
    obtain ⟨L, hL⟩ : ∃ L, okL (foundL s.data.toList) = L := ⟨_, rfl⟩
    rw [hL] at hg0' hu' hl2 hg1'
    replace hlen : L.length ≤ 16002 := by omega
    clear hL hl2
    have tok1 : True := trivial
    have tok2 : True := trivial
    by_cases hs1 : stop < 1
    · clear hg1'
      go_enter Tryd.func3, Tryd.ntmps3
      go_wp2_with (first | (go_at_call 5; refine hu'.mono ?_; rintro e w1 ⟨hb1, v1, q1, q2, rfl, ho1⟩; have hg := hg0' w1 hb1; obtain ⟨lp, lc, rfl⟩ := own_len ho1) | (go_at_call 6; have _u := tok1; clear tok1; refine hg.mono ?_; rintro e w2 ⟨hb2, v2, rfl, ho2⟩; have hB2 := below_step hb1 hb2; obtain ⟨mp, mc, rfl⟩ := own_len ho2; have hsm := same_toks _ _ L (by omega) w2 (tokrow_of_own ho2) ((tokrow_of_own ho1).later hb2)) | (go_at_call 7; have _u := tok2; clear tok2; refine hsm.mono ?_; rintro e w3 ⟨rfl, hb3⟩; have hB3 := below_step hB2 hb3))
      go_ret
      exact ⟨rfl, hB3⟩
    · by_cases hs2 : (L.length : Int) < stop
      · clear hg1'
        go_enter Tryd.func3, Tryd.ntmps3
        go_wp2_with (first | (go_at_call 5; refine hu'.mono ?_; rintro e w1 ⟨hb1, v1, q1, q2, rfl, ho1⟩; have hg := hg0' w1 hb1; obtain ⟨lp, lc, rfl⟩ := own_len ho1) | (go_at_call 6; have _u := tok1; clear tok1; refine hg.mono ?_; rintro e w2 ⟨hb2, v2, rfl, ho2⟩; have hB2 := below_step hb1 hb2; obtain ⟨mp, mc, rfl⟩ := own_len ho2; have hsm := same_toks _ _ L (by omega) w2 (tokrow_of_own ho2) ((tokrow_of_own ho1).later hb2)) | (go_at_call 7; have _u := tok2; clear tok2; refine hsm.mono ?_; rintro e w3 ⟨rfl, hb3⟩; have hB3 := below_step hB2 hb3))
        go_ret
        exact ⟨rfl, hB3⟩
      · obtain ⟨k, rfl⟩ : ∃ k : Nat, stop = (k : Int) := ⟨stop.toNat, by omega⟩
        have hkl : k ≤ L.length := by omega
        have hk' : (k : Int) ≤ (L.length : Int) := by omega
        have hk0 : (0 : Int) ≤ (k : Int) := by omega
        have hgk := hg1' k (by omega) hkl
        clear hg1'
        go_enter Tryd.func3, Tryd.ntmps3
        go_wp2_with (first | (go_at_call 5; refine hu'.mono ?_; rintro e w1 ⟨hb1, v1, q1, q2, rfl, ho1⟩; have hg := hg0' w1 hb1; obtain ⟨lp, lc, rfl⟩ := own_len ho1) | (go_at_call 6; have _u := tok1; clear tok1; refine hg.mono ?_; rintro e w2 ⟨hb2, v2, rfl, ho2⟩; have hB2 := below_step hb1 hb2; obtain ⟨mp, mc, rfl⟩ := own_len ho2; have hsm := same_toks _ _ L (by omega) w2 (tokrow_of_own ho2) ((tokrow_of_own ho1).later hb2)) | (go_at_call 7; have _u := tok2; clear tok2; refine hsm.mono ?_; rintro e w3 ⟨rfl, hb3⟩; have hB3 := below_step hB2 hb3; have hgk2 := hgk w3 hB3; have hlc := own_cap ho1) | (go_at_call 6; refine hgk2.mono ?_; rintro e w4 ⟨hb4, v4, rfl, ho4⟩; have hB4 := below_step hB3 hb4; obtain ⟨np, nc, rfl⟩ := own_len ho4))
        have hlk : (L.take k).length = k := by rw [List.length_take]; omega
        have r4 : TokRow w4 (.slice np k nc) (L.take k) := by
          have := tokrow_of_own ho4
          rwa [hlk] at this
        have r1 : TokRow w4 (.slice lp k lc) (L.take k) := ((((tokrow_of_own ho1).later hb2).later hb3).later hb4).take k hkl
        have hsm2 := same_toks _ _ (L.take k) (by omega) w4 r4 r1
        refine hsm2.mono ?_
        rintro e w5 ⟨rfl, hb5⟩
        go_wp2_with fail
        go_ret
        exact ⟨rfl, below_step hB4 hb5⟩

end Go.Proofs.YtdlbfoiiaedicaaDoor.Q
namespace Go.Proofs.YtdlbfoiiaedicaaDoor
open Go.RowKit
theorem wtokens_walk (s : ByteArray) (stop : Int) (w : World) (hr : -9223372036854775808 ≤ stop ∧ stop ≤ 9223372036854775807) (hT : Tabs w) : Calls Tryd.prog 3 #[.string s, .int .i64 stop] w fun e w' => e = .returned (.bool true) ∧ Below w.heap.size w w' := Q.tokens_walkQ s stop w hr hT
end Go.Proofs.YtdlbfoiiaedicaaDoor
