import Derived.Test.YtkojgbfocdefnaaJoin52
import Derived.Lib.MinMax
import Derived.Test.YtkojgbfocdefnaaRfHeld
import Derived.BigQuiet
import Derived.Deep.RegionLaw
namespace Go.Proofs.Ytkojgbfocdefnaa
open Go.RowKit

theorem histR {W : World} {hb : Nat} {Ls : List Es} {p i : Nat} (h : HistAt W hb Ls p) (hi : i < Ls.length) : Rises Ls[i] := by
  obtain ⟨g, cap, vs, hx⟩ := h.x
  obtain ⟨-, ⟨ta, hta, ea⟩, la⟩ := hx.2.2.2.2.2.2 i hi
  rw [← ea]
  exact ents_rises _ hta.2.2.2.2 _
/-- The keys that Touched tells: in the reference, and in the program (one of them, all of them). -/
def TouK (Ls : List Es) (p : Nat) (a b : Int) (ks : List Nat) : Prop :=
  (∀ (rb : Nat) (W : World), RhAt W rb Ls p → Calls Try.prog 39 #[.pointer (some ⟨rb, 0, none⟩), .int .i64 a, .int .i64 b] W fun e w' => ∃ ea ec, e = .returned (.slice ea ks.length ec) ∧ KsAt w' (.slice ea ks.length ec) ks ∧ Below W.heap.size W w') ∧
  (∀ (hb n : Nat) (W : World), HistAt W hb Ls p → TouAt W n hb a b → Calls Try.prog 40 #[touV n (n + 1) (n + 1 + 1), .int .i64 1] W (ksP W (ks.take 1)) ∧ Calls Try.prog 40 #[touV n (n + 1) (n + 1 + 1), .int .i64 0] W (ksP W ks))
theorem touK_any (Ls : List Es) (p : Nat) (a b : Int) (hbd : ∀ L ∈ Ls, L.length ≤ 200) (hri : ∀ L ∈ Ls, Rises L) : ∃ ks : List Nat, ks.length ≤ 400 ∧ TouK Ls p a b ks := by
  have hno : (outV Ls p a ∨ outV Ls p b) → TouK Ls p a b [] := fun hab => by
    refine ⟨fun rb W hR => (rtouched_none rb Ls p a b hab W hR).mono ?_, fun hb n W hH hT => ?_⟩
    · rintro e w' ⟨rfl, hB⟩
      exact ⟨none, 0, rfl, ⟨none, 0, rfl, .inl rfl⟩, hB⟩
    · have hA : outV Ls p a ∨ ((∃ i : Nat, i < Ls.length ∧ a = (i : Int) - p) ∧ outV Ls p b) := by
        rcases out_or (Ls := Ls) (p := p) a with h | h
        · exact .inl h
        · rcases hab with h' | h'
          · exact .inl h'
          · exact .inr ⟨h, h'⟩
      have hb' := out_or (Ls := Ls) (p := p) b
      exact ⟨keyList_one n (n + 1) (n + 1 + 1) [] W fun w2 hb2 hK => touched1_noneZ W hb Ls p n (n + 1) (n + 1 + 1) a b hH hA hb' hT.1 hT.2.1 hT.2.2.1 ⟨hT.2.2.2.1, hT.2.2.2.2.1, hT.2.2.2.2.2⟩ w2 hb2 hK,
        keyList_of n (n + 1) (n + 1 + 1) [] W fun w2 hb2 hK => touched1_none W hb Ls p n (n + 1) (n + 1 + 1) a b hH hA hb' hT.1 hT.2.1 hT.2.2.1 ⟨hT.2.2.2.1, hT.2.2.2.2.1, hT.2.2.2.2.2⟩ w2 hb2 hK⟩
  rcases out_or (Ls := Ls) (p := p) a with h | ⟨i, hi, ha⟩
  · exact ⟨[], by simp, hno (.inl h)⟩
  rcases out_or (Ls := Ls) (p := p) b with h | ⟨j, hj, hb⟩
  · exact ⟨[], by simp, hno (.inr h)⟩
  have l1 := hbd _ (List.getElem_mem hi)
  have l2 := hbd _ (List.getElem_mem hj)
  have hD := rdif_DifK (hri _ (List.getElem_mem hi)) (hri _ (List.getElem_mem hj))
  refine ⟨(rdif (Ls[i].length + Ls[j].length) Ls[i] Ls[j]).map (·.1), ?_, fun rb W hR => rtouched_some rb Ls p i j hi hj a b ha hb W hR, fun hb' n W hH hT => ?_⟩
  · rw [List.length_map]
    exact Nat.le_trans (rdif_len _ _ _) (by omega)
  · obtain ⟨g, cap, vs, hx⟩ := hH.x
    have hM := hx.2.2.2.2.2
    obtain ⟨-, ⟨ta, hta, ea⟩, la⟩ := hM.2 i hi
    obtain ⟨-, ⟨tb, htb, eb⟩, lb⟩ := hM.2 j hj
    have wa : ta.wf 7 := hta.2.2.2.2
    have wb : tb.wf 7 := htb.2.2.2.2
    have hl := dif_lenK wa wb 0
    rw [ea, eb] at hl
    have hD2 := difK_dif wa wb
    rw [ea, eb] at hD2
    have hl5 : (ta.dif tb 7 0).length < 2000 := Nat.lt_of_le_of_lt hl (by omega)
    have t1 := fun w2 hb2 hK => touched1_one W hb' g cap vs Ls p i j n (n + 1) (n + 1 + 1) hx hi hj ta tb hta htb hT.1 (ha ▸ hT.2.1) (hb ▸ hT.2.2.1) ⟨hT.2.2.2.1, hT.2.2.2.2.1, hT.2.2.2.2.2⟩ w2 hb2 hK
    have t2 := fun w2 hb2 hK => touched1_some W hb' g cap vs Ls p i j n (n + 1) (n + 1 + 1) hx hi hj ta tb hta htb hl5 hT.1 (ha ▸ hT.2.1) (hb ▸ hT.2.2.1) ⟨hT.2.2.2.1, hT.2.2.2.2.1, hT.2.2.2.2.2⟩ w2 hb2 hK
    obtain ⟨k1, hk1⟩ : ∃ ks, ks = (ta.dif tb 7 0).map (·.1) := ⟨_, rfl⟩
    rw [← hk1] at hD2 t1 t2
    clear hk1 hl5 hl
    generalize (rdif (Ls[i].length + Ls[j].length) Ls[i] Ls[j]).map (·.1) = k2 at *
    obtain rfl : k1 = k2 := rising_eq hD2.1 hD.1 (fun k => (hD2.2 k).trans (hD.2 k).symm)
    exact ⟨keyList_one n (n + 1) (n + 1 + 1) _ W t1, keyList_of n (n + 1) (n + 1 + 1) _ W t2⟩

theorem KsAt.cells0 {W : World} {a : Option Addr} {cap : Nat} {ks : List Nat} (h : KsAt W (.slice a ks.length cap) ks) (h0 : 0 < ks.length) : ∃ g, a = some ⟨g, 0, none⟩ ∧ g < W.heap.size ∧ ∀ i (h : i < ks.length), W.cell? ⟨g, i, none⟩ = some (.int .u32 (ks[i] : Int)) := by
  obtain ⟨a', cap', e, h | ⟨g, rfl, hg, hc⟩⟩ := h
  · rw [h] at h0; simp at h0
  · injection e with e1 _ _
    exact ⟨g, e1, hg, hc⟩

set_option maxRecDepth 4000 in
set_option maxHeartbeats 4000000 in
theorem pkeys_of (hb rb n : Nat) (Ls : List Es) (p : Nat) (a b : Int) (ks : List Nat) (hks : ks.length ≤ 400) (hK : TouK Ls p a b ks) (w : World) (h : HistAt w hb Ls p) (hr : RhAt w rb Ls p) (hT : TouAt w n hb a b) : Calls Try.prog 12 #[.agg #[.pointer (some ⟨hb, 0, none⟩), .pointer (some ⟨rb, 0, none⟩)], touV n (n + 1) (n + 1 + 1), .int .i64 a, .int .i64 b] w fun e w' => e = .returned (.bool true) ∧ Below w.heap.size w w' := by
  have hb0 := (Below.refl w.heap.size w).alloc (Nat.le_refl _) (.cells #[.pointer (some ⟨hb, 0, none⟩), .pointer (some ⟨rb, 0, none⟩)] 27)
  have ht := hK.1 rb _ (hr.later hb0)
  have hKl : Hid (∀ W, Below w.heap.size w W → _) := fun W hW => hK.2 hb n W (h.later hW) (hT.later hW)
  have hkH : Hid (ks.length ≤ 400) := hks
  clear hK h hr hT hks
  go_enter Try.func12, Try.ntmps12
  go_wp2_with (go_at_call 39; fail)
  refine ht.mono ?_
  rintro e w1 ⟨ea, ec, rfl, hks1, hb1⟩
  clear ht
  have hB1 := below_step hb0 hb1
  have hk1 := (hKl.out _ hB1).1
  clear hb0 hb1
  go_wp2_with (go_at_call 40; fail)
  refine hk1.mono ?_
  rintro e w2 ⟨eb, ebc, rfl, hks2, hb2⟩
  clear hk1
  have hB2 := below_step hB1 hb2
  have hk2 := (hKl.out _ hB2).2
  have hks1 := hks1.later hb2
  clear hKl hb2 hB1
  go_wp2_with (go_at_call 40; fail)
  refine hk2.mono ?_
  rintro e w3 ⟨ed, edc, rfl, hks3, hb3⟩
  clear hk2
  have hB3 := below_step hB2 hb3
  have hks1 := hks1.later hb3
  have hks2 := hks2.later hb3
  clear hb3 hB2
  go_upto_region 4 with fail
  obtain ⟨N1, hN1⟩ : ∃ N, Hid (N = ks.length) := ⟨_, show _ = _ from rfl⟩
  obtain ⟨N2, hN2⟩ : ∃ N, Hid (N = min 1 N1) := ⟨_, show _ = _ from rfl⟩
  rw [← hN1.out, ← hN2.out]
  go_cut [64] (fun dv wx => dv = .bool false ∧ ∃ m, wx = w3.drewN m)
  case first =>
    cases ks with
    | nil =>
      clear hks1 hks2 hks3
      have z1 : N1 = 0 := hN1.out
      have z2 : N2 = 0 := by rw [hN2.out, z1]; rfl
      clear hN1 hN2
      subst z1 z2
      have hSd : True := trivial
      refine wp_region_held_drew (S := fun _ => True) (by kernel_rfl) hSd (fun hSd2 => ?_)
      clear hSd2
      refine tkH (i := 0) (d := some 30) (v := ?_) rfl rfl (by kernel_rfl) (by kernel_rfl) (by kernel_rfl) (fun _ _ _ h => h) (by rfl) ?_ (by with_reducible assumption) ?_
      rotate_left
      · (intro w hSw; (try dsimp only at hSw); go_simp; (try with_reducible rfl))
      simp only [Act.put, List.setIfInBounds_toArray, List.set_cons_zero, List.set_cons_succ]
      refine tkH (i := 1) (d := some 31) (v := ?_) rfl rfl (by kernel_rfl) (by kernel_rfl) (by kernel_rfl) (fun _ _ _ h => h) (by rfl) ?_ (by with_reducible assumption) ?_
      rotate_left
      · (intro w hSw; (try dsimp only at hSw); go_simp; (try with_reducible rfl))
      simp only [Act.put, List.setIfInBounds_toArray, List.set_cons_zero, List.set_cons_succ]
      refine tkH (i := 2) (d := some 32) (v := ?_) rfl rfl (by kernel_rfl) (by kernel_rfl) (by kernel_rfl) (fun _ _ _ h => h) (by rfl) ?_ (by with_reducible assumption) ?_
      rotate_left
      · (intro w hSw; (try dsimp only at hSw); go_simp; (try with_reducible rfl))
      simp only [Act.put, List.setIfInBounds_toArray, List.set_cons_zero, List.set_cons_succ]
      refine tkH (i := 3) (d := some 33) (v := ?_) rfl rfl (by kernel_rfl) (by kernel_rfl) (by kernel_rfl) (fun _ _ _ h => h) (by rfl) ?_ (by with_reducible assumption) ?_
      rotate_left
      · (intro w hSw; (try dsimp only at hSw); go_simp; (try with_reducible rfl))
      simp only [Act.put, List.setIfInBounds_toArray, List.set_cons_zero, List.set_cons_succ]
      refine tkH (i := 4) (d := some 34) (v := ?_) rfl rfl (by kernel_rfl) (by kernel_rfl) (by kernel_rfl) (fun _ _ _ h => h) (by rfl) ?_ (by with_reducible assumption) ?_
      rotate_left
      · (intro w hSw; (try dsimp only at hSw); go_simp; (try with_reducible rfl))
      simp only [Act.put, List.setIfInBounds_toArray, List.set_cons_zero, List.set_cons_succ]
      refine tkH (i := 5) (d := some 35) (v := ?_) rfl rfl (by kernel_rfl) (by kernel_rfl) (by kernel_rfl) (fun _ _ _ h => h) (by rfl) ?_ (by with_reducible assumption) ?_
      rotate_left
      · (intro w hSw; (try dsimp only at hSw); go_simp; (try with_reducible rfl))
      simp only [Act.put, List.setIfInBounds_toArray, List.set_cons_zero, List.set_cons_succ]
      refine tkH (i := 6) (d := some 36) (v := ?_) rfl rfl (by kernel_rfl) (by kernel_rfl) (by kernel_rfl) (fun _ _ _ h => h) (by rfl) ?_ (by with_reducible assumption) ?_
      rotate_left
      · (intro w hSw; (try dsimp only at hSw); go_simp; (try with_reducible rfl))
      simp only [Act.put, List.setIfInBounds_toArray, List.set_cons_zero, List.set_cons_succ]
      refine tkH (i := 7) (d := some 37) (v := ?_) rfl rfl (by kernel_rfl) (by kernel_rfl) (by kernel_rfl) (fun _ _ _ h => h) (by rfl) ?_ (by with_reducible assumption) ?_
      rotate_left
      · (intro w hSw; (try dsimp only at hSw); go_simp; (try with_reducible rfl))
      simp only [Act.put, List.setIfInBounds_toArray, List.set_cons_zero, List.set_cons_succ]
      refine tkH (i := 8) (d := some 38) (v := ?_) rfl rfl (by kernel_rfl) (by kernel_rfl) (by kernel_rfl) (fun _ _ _ h => h) (by rfl) ?_ (by with_reducible assumption) ?_
      rotate_left
      · (intro w hSw; (try dsimp only at hSw); go_simp; (try with_reducible rfl))
      simp only [Act.put, List.setIfInBounds_toArray, List.set_cons_zero, List.set_cons_succ]
      refine tkH (i := 9) (d := some 39) (v := ?_) rfl rfl (by kernel_rfl) (by kernel_rfl) (by kernel_rfl) (fun _ _ _ h => h) (by rfl) ?_ (by with_reducible assumption) ?_
      rotate_left
      · (intro w hSw; (try dsimp only at hSw); go_simp; (try with_reducible rfl))
      simp only [Act.put, List.setIfInBounds_toArray, List.set_cons_zero, List.set_cons_succ]
      refine tkH (i := 10) (d := some 40) (v := ?_) rfl rfl (by kernel_rfl) (by kernel_rfl) (by kernel_rfl) (fun _ _ _ h => h) (by rfl) ?_ (by with_reducible assumption) ?_
      rotate_left
      · (intro w hSw; (try dsimp only at hSw); go_simp; (try with_reducible rfl))
      simp only [Act.put, List.setIfInBounds_toArray, List.set_cons_zero, List.set_cons_succ]
      refine tkH (i := 11) (d := some 41) (v := ?_) rfl rfl (by kernel_rfl) (by kernel_rfl) (by kernel_rfl) (fun _ _ _ h => h) (by rfl) ?_ (by with_reducible assumption) ?_
      rotate_left
      · (intro w hSw; (try dsimp only at hSw); go_simp; (try with_reducible rfl))
      simp only [Act.put, List.setIfInBounds_toArray, List.set_cons_zero, List.set_cons_succ]
      refine tkH (i := 12) (d := some 42) (v := ?_) rfl rfl (by kernel_rfl) (by kernel_rfl) (by kernel_rfl) (fun _ _ _ h => h) (by rfl) ?_ (by with_reducible assumption) ?_
      rotate_left
      · (intro w hSw; (try dsimp only at hSw); go_simp; (try with_reducible rfl))
      simp only [Act.put, List.setIfInBounds_toArray, List.set_cons_zero, List.set_cons_succ]
      refine tkH (i := 13) (d := some 43) (v := ?_) rfl rfl (by kernel_rfl) (by kernel_rfl) (by kernel_rfl) (fun _ _ _ h => h) (by rfl) ?_ (by with_reducible assumption) ?_
      rotate_left
      · (intro w hSw; (try dsimp only at hSw); go_simp; (try with_reducible rfl))
      simp only [Act.put, List.setIfInBounds_toArray, List.set_cons_zero, List.set_cons_succ]
      refine tkH (i := 14) (d := some 44) (v := ?_) rfl rfl (by kernel_rfl) (by kernel_rfl) (by kernel_rfl) (fun _ _ _ h => h) (by rfl) ?_ (by with_reducible assumption) ?_
      rotate_left
      · (intro w hSw; (try dsimp only at hSw); go_simp; (try with_reducible rfl))
      simp only [Act.put, List.setIfInBounds_toArray, List.set_cons_zero, List.set_cons_succ]
      refine tkH (i := 15) (d := some 45) (v := ?_) rfl rfl (by kernel_rfl) (by kernel_rfl) (by kernel_rfl) (fun _ _ _ h => h) (by rfl) ?_ (by with_reducible assumption) ?_
      rotate_left
      · (intro w hSw; (try dsimp only at hSw); go_simp; (try with_reducible rfl))
      simp only [Act.put, List.setIfInBounds_toArray, List.set_cons_zero, List.set_cons_succ]
      refine tkH (i := 16) (d := some 46) (v := ?_) rfl rfl (by kernel_rfl) (by kernel_rfl) (by kernel_rfl) (fun _ _ _ h => h) (by rfl) ?_ (by with_reducible assumption) ?_
      rotate_left
      · (intro w hSw; (try dsimp only at hSw); go_simp; (try with_reducible rfl))
      simp only [Act.put, List.setIfInBounds_toArray, List.set_cons_zero, List.set_cons_succ]
      refine tkH (i := 17) (d := some 47) (v := ?_) rfl rfl (by kernel_rfl) (by kernel_rfl) (by kernel_rfl) (fun _ _ _ h => h) (by rfl) ?_ (by with_reducible assumption) ?_
      rotate_left
      · (intro w hSw; (try dsimp only at hSw); go_simp; (try with_reducible rfl))
      simp only [Act.put, List.setIfInBounds_toArray, List.set_cons_zero, List.set_cons_succ]
      refine tkH (i := 18) (d := some 48) (v := ?_) rfl rfl (by kernel_rfl) (by kernel_rfl) (by kernel_rfl) (fun _ _ _ h => h) (by rfl) ?_ (by with_reducible assumption) ?_
      rotate_left
      · (intro w hSw; (try dsimp only at hSw); go_simp; (try with_reducible rfl))
      simp only [Act.put, List.setIfInBounds_toArray, List.set_cons_zero, List.set_cons_succ]
      refine tkH (i := 19) (d := some 49) (v := ?_) rfl rfl (by kernel_rfl) (by kernel_rfl) (by kernel_rfl) (fun _ _ _ h => h) (by rfl) ?_ (by with_reducible assumption) ?_
      rotate_left
      · (intro w hSw; (try dsimp only at hSw); go_simp; (try with_reducible rfl))
      simp only [Act.put, List.setIfInBounds_toArray, List.set_cons_zero, List.set_cons_succ]
      refine tkH (i := 20) (d := some 50) (v := ?_) rfl rfl (by kernel_rfl) (by kernel_rfl) (by kernel_rfl) (fun _ _ _ h => h) (by rfl) ?_ (by with_reducible assumption) ?_
      rotate_left
      · (intro w hSw; (try dsimp only at hSw); go_simp; (try with_reducible rfl))
      simp only [Act.put, List.setIfInBounds_toArray, List.set_cons_zero, List.set_cons_succ]
      refine tkH (i := 21) (d := some 51) (v := ?_) rfl rfl (by kernel_rfl) (by kernel_rfl) (by kernel_rfl) (fun _ _ _ h => h) (by rfl) ?_ (by with_reducible assumption) ?_
      rotate_left
      · (intro w hSw; (try dsimp only at hSw); go_simp; (try with_reducible rfl))
      simp only [Act.put, List.setIfInBounds_toArray, List.set_cons_zero, List.set_cons_succ]
      refine tkH (i := 22) (d := some 52) (v := ?_) rfl rfl (by kernel_rfl) (by kernel_rfl) (by kernel_rfl) (fun _ _ _ h => h) (by rfl) ?_ (by with_reducible assumption) ?_
      rotate_left
      · (intro w hSw; (try dsimp only at hSw); go_simp; (try with_reducible rfl))
      simp only [Act.put, List.setIfInBounds_toArray, List.set_cons_zero, List.set_cons_succ]
      refine tkH (i := 23) (d := some 53) (v := ?_) rfl rfl (by kernel_rfl) (by kernel_rfl) (by kernel_rfl) (fun _ _ _ h => h) (by rfl) ?_ (by with_reducible assumption) ?_
      rotate_left
      · (intro w hSw; (try dsimp only at hSw); go_simp; (try with_reducible rfl))
      simp only [Act.put, List.setIfInBounds_toArray, List.set_cons_zero, List.set_cons_succ]
      refine tkH (i := 24) (d := some 54) (v := ?_) rfl rfl (by kernel_rfl) (by kernel_rfl) (by kernel_rfl) (fun _ _ _ h => h) (by rfl) ?_ (by with_reducible assumption) ?_
      rotate_left
      · (intro w hSw; (try dsimp only at hSw); go_simp; (try with_reducible rfl))
      simp only [Act.put, List.setIfInBounds_toArray, List.set_cons_zero, List.set_cons_succ]
      refine tkH (i := 25) (d := some 55) (v := ?_) rfl rfl (by kernel_rfl) (by kernel_rfl) (by kernel_rfl) (fun _ _ _ h => h) (by rfl) ?_ (by with_reducible assumption) ?_
      rotate_left
      · (intro w hSw; (try dsimp only at hSw); go_simp; (try with_reducible rfl))
      simp only [Act.put, List.setIfInBounds_toArray, List.set_cons_zero, List.set_cons_succ]
      refine skH (i := 26) (d := some 56) rfl rfl (by kernel_rfl) (by kernel_rfl) (by kernel_rfl) (fun _ _ _ h => h) (by rfl) (by with_reducible assumption) ?_
      simp only [Act.put, List.setIfInBounds_toArray, List.set_cons_zero, List.set_cons_succ]
      refine skH (i := 27) (d := some 57) rfl rfl (by kernel_rfl) (by kernel_rfl) (by kernel_rfl) (fun _ _ _ h => h) (by rfl) (by with_reducible assumption) ?_
      simp only [Act.put, List.setIfInBounds_toArray, List.set_cons_zero, List.set_cons_succ]
      refine skH (i := 28) (d := some 58) rfl rfl (by kernel_rfl) (by kernel_rfl) (by kernel_rfl) (fun _ _ _ h => h) (by rfl) (by with_reducible assumption) ?_
      simp only [Act.put, List.setIfInBounds_toArray, List.set_cons_zero, List.set_cons_succ]
      refine skH (i := 29) (d := some 59) rfl rfl (by kernel_rfl) (by kernel_rfl) (by kernel_rfl) (fun _ _ _ h => h) (by rfl) (by with_reducible assumption) ?_
      simp only [Act.put, List.setIfInBounds_toArray, List.set_cons_zero, List.set_cons_succ]
      refine skH (i := 30) (d := some 60) rfl rfl (by kernel_rfl) (by kernel_rfl) (by kernel_rfl) (fun _ _ _ h => h) (by rfl) (by with_reducible assumption) ?_
      simp only [Act.put, List.setIfInBounds_toArray, List.set_cons_zero, List.set_cons_succ]
      refine skH (i := 31) (d := some 61) rfl rfl (by kernel_rfl) (by kernel_rfl) (by kernel_rfl) (fun _ _ _ h => h) (by rfl) (by with_reducible assumption) ?_
      simp only [Act.put, List.setIfInBounds_toArray, List.set_cons_zero, List.set_cons_succ]
      refine skH (i := 32) (d := some 62) rfl rfl (by kernel_rfl) (by kernel_rfl) (by kernel_rfl) (fun _ _ _ h => h) (by rfl) (by with_reducible assumption) ?_
      simp only [Act.put, List.setIfInBounds_toArray, List.set_cons_zero, List.set_cons_succ]
      refine tkH (i := 33) (d := some 63) (v := ?_) rfl rfl (by kernel_rfl) (by kernel_rfl) (by kernel_rfl) (fun _ _ _ h => h) (by rfl) ?_ (by with_reducible assumption) ?_
      rotate_left
      · (intro w hSw; (try dsimp only at hSw); go_simp; (try with_reducible rfl))
      simp only [Act.put, List.setIfInBounds_toArray, List.set_cons_zero, List.set_cons_succ]
      refine tkH (i := 34) (d := some 64) (v := ?_) rfl rfl (by kernel_rfl) (by kernel_rfl) (by kernel_rfl) (fun _ _ _ h => h) (by rfl) ?_ (by with_reducible assumption) ?_
      rotate_left
      · (intro w hSw; (try dsimp only at hSw); go_simp; (try with_reducible rfl))
      simp only [Act.put, List.setIfInBounds_toArray, List.set_cons_zero, List.set_cons_succ]
      refine wpAnyH_done (by kernel_rfl) ?_ _
      go_wp2_with fail
      go_meet
      exact ⟨rfl, 1, rfl⟩
    | cons k t =>
      obtain ⟨g1, rfl, hg1, hc1⟩ := hks1.cells0 (by simp)
      obtain ⟨g2, rfl, hg2, hc2⟩ := hks2.cells0 (by simp)
      have x1 : w3.cell? ⟨g1, 0, none⟩ = some (.int .u32 (k : Int)) := hc1 0 (by simp)
      have x2 : w3.cell? ⟨g2, 0, none⟩ = some (.int .u32 (k : Int)) := hc2 0 (by simp)
      have z1 : 1 ≤ N1 := by rw [hN1.out]; simp
      have z2 : N2 = 1 := by rw [hN2.out]; omega
      have hn2 : (0 : Int) < (N1 : Int) := by omega
      have hmin : min (1 : Int) (N1 : Int) = 1 := by omega
      clear hks1 hks2 hks3 hc1 hc2 hN1 hN2 hkH z1
      subst z2
      go_quiet (fail)
      go_wp2_with fail
      go_meet
      exact ⟨rfl, _, rfl⟩
  case rest =>
    obtain ⟨rfl, m, rfl⟩ := hcut
    have z1 := hN1.out
    clear hN1
    subst z1
    have hB4 := below_drewN hB3 m
    have hks1 := hks1.later (below_drewN (Below.refl _ _) m)
    have hks3 := hks3.later (below_drewN (Below.refl _ _) m)
    clear hks2 hB3
    generalize w3.drewN m = W4 at *
    go_wp2_with fail
    go_loopw [14] (fun iv X => ∃ j : Nat, Hid (j ≤ ks.length) ∧ iv = .int .i64 (j : Int) ∧ Below W4.heap.size W4 X) (fun iv _ => ks.length - (intOf iv).toNat)
    case atStart => exact ⟨0, Nat.zero_le _, rfl, Below.refl _ _⟩
    case round =>
      obtain ⟨j, hj, rfl, hB⟩ := hrel
      by_cases hlt : j < ks.length
      · have hlt' : (j : Int) < (ks.length : Int) := Int.ofNat_lt.2 hlt
        have hj0 : (0 : Int) ≤ (j : Int) := Int.natCast_nonneg _
        obtain ⟨g1, rfl, hg1, hc1⟩ := hks1.cells0 (Nat.lt_of_le_of_lt (Nat.zero_le _) hlt)
        obtain ⟨g3, rfl, hg3, hc3⟩ := hks3.cells0 (Nat.lt_of_le_of_lt (Nat.zero_le _) hlt)
        have x1 := (hB.cell (p := ⟨g1, j, none⟩) hg1).trans (hc1 j hlt)
        have x3 := (hB.cell (p := ⟨g3, j, none⟩) hg3).trans (hc3 j hlt)
        have hms : Hid (j < ks.length ∧ ks.length ≤ 400) := ⟨hlt, hkH.out⟩
        generalize ks[j] = key at *
        clear hc1 hc3 hlt hj hks1 hks3
        go_wp2_with fail
        go_quiet (fail)
        have hB5 := below_drewN hB nq
        clear x1 x3
        generalize wr.drewN nq = W5 at *
        obtain ⟨hn5, hn4⟩ := hms.out
        go_wp2
        exact ⟨⟨j + 1, hn5, by go_num, hB5⟩, by simp [intOf]; omega⟩
      · have hlt' : ¬ (j : Int) < (ks.length : Int) := fun h => hlt (Int.ofNat_lt.1 h)
        clear hks1 hks3
        go_wp2
        go_ret
        exact ⟨rfl, below_step hB4 hB⟩

end Go.Proofs.Ytkojgbfocdefnaa


namespace Go.Proofs.Ytkojgbfocdefnaa
open Go.RowKit

/-- What Push leaves: the row's slice stored, then the place. -/
theorem push_end2 {w w10 : World} {hb mb g cap g10 cap10 p : Nat} {vs : Nat → Nat} {Ls : List Es} {L : Es} (hH : HB w hb (some ⟨g, 0, none⟩) Ls.length cap (p : Int)) (hM : Maps w g 0 vs Ls) (hpl : p < Ls.length) (hL : L.length ≤ 200) (hm : MapE w10 mb L) (hp : p < 32) (B10 : Below w.heap.size w w10) (hown : w10.ownsRow w.heap.size 46 1 (.slice (some ⟨g10, 0, none⟩) (p + 1 + 1) cap10) (p + 1 + 1) (ptrs vs (p + 1) ++ [.pointer (some ⟨mb, 0, none⟩)])) :
    (w10.setCell ⟨hb, 0, none⟩ (.slice (some ⟨g10, 0, none⟩) (p + 1 + 1) cap10)).cell? ⟨hb, 1, none⟩ = some (.int .i64 (p : Int)) ∧ (w10.setCell ⟨hb, 0, none⟩ (.slice (some ⟨g10, 0, none⟩) (p + 1 + 1) cap10)).frozen? ⟨hb, 1, none⟩ = false ∧
    HistAt ((w10.setCell ⟨hb, 0, none⟩ (.slice (some ⟨g10, 0, none⟩) (p + 1 + 1) cap10)).setCell ⟨hb, 1, none⟩ (.int .i64 ((p : Int) + 1))) hb (Ls.take (p + 1) ++ [L]) (p + 1) ∧ w.grownBy ((w10.setCell ⟨hb, 0, none⟩ (.slice (some ⟨g10, 0, none⟩) (p + 1 + 1) cap10)).setCell ⟨hb, 1, none⟩ (.int .i64 ((p : Int) + 1))) (some hb) := by
  have hH10 := hH.later B10
  have hbl := hH.lt
  have hS := heap_setCell_same w10 hb 0 _ _ (.slice (some ⟨g10, 0, none⟩) (p + 1 + 1) cap10) hH10
  have hgr1 := grown_set w10 hb 0 (.slice (some ⟨g10, 0, none⟩) (p + 1 + 1) cap10)
  rw [ptrs_snoc] at hown
  have hlen : (Ls.take (p + 1) ++ [L]).length = p + 1 + 1 := by simp; omega
  have hM10 : Maps w10 g10 0 (fun i => if i = p + 1 then mb else vs i) (Ls.take (p + 1) ++ [L]) := by
    refine ⟨(hown.lt g10 rfl).2, fun i hi => ?_⟩
    rw [hlen] at hi
    refine ⟨own_ptr hown i hi, ?_⟩
    by_cases e : i = p + 1
    · subst e
      simp only [if_true]
      rw [List.getElem_append_right (by simp; omega)]
      simp only [List.getElem_singleton]
      exact ⟨hm, hL⟩
    · simp only [if_neg e]
      rw [List.getElem_append_left (by simp; omega), List.getElem_take]
      exact ⟨(hM.2 i (by omega)).2.1.later B10, (hM.2 i (by omega)).2.2⟩
  have hne : g10 ≠ hb := fun e => by have := (hown.lt g10 rfl).1; omega
  generalize w10.setCell ⟨hb, 0, none⟩ (.slice (some ⟨g10, 0, none⟩) (p + 1 + 1) cap10) = X at *
  have hHX : HB X hb (some ⟨g10, 0, none⟩) (p + 1 + 1) cap10 (p : Int) := hS
  have hMX := hM10.kept hne hH10 hgr1
  have hgr2 := grown_set X hb 1 (.int .i64 ((p : Int) + 1))
  refine ⟨cell_of_row _ _ 1 _ _ _ hHX, frozen_of_row hHX 1, ⟨by rw [hlen]; omega, by rw [hlen]; omega, g10, cap10, _, ?_, ?_, hne, hMX.kept hne hHX hgr2⟩, ?_⟩
  · rw [hlen]
    exact heap_setCell_same X hb 1 _ _ (.int .i64 ((p : Int) + 1)) hHX
  · rw [hlen]
    exact own_cap hown
  · exact ((grown_of_below B10).trans hgr1).trans hgr2

theorem orEmpty_nil (w : World) : Calls Try.prog 41 #[.pointer none] w fun e w' => e = .returned (.pointer (some ⟨w.heap.size, 0, none⟩)) ∧ MapT w' w.heap.size .nil ∧ Below w.heap.size w w' := by
  go_enter Try.func41, Try.ntmps41
  go_wp2_with (go_at_call 43; refine (empty_any _).mono ?_; rintro e w1 ⟨rfl, hM1, hb1⟩)
  go_ret
  exact ⟨rfl, hM1, hb1⟩
set_option maxRecDepth 4000 in
set_option maxHeartbeats 1000000 in
theorem push_full0 (hb : Nat) (Ls : List Es) (w : World) (h : HistAt w hb Ls 32) : Calls Try.prog 23 #[.pointer (some ⟨hb, 0, none⟩), .pointer none] w fun e w' => e = .returned (.int .i64 110) ∧ Below w.heap.size w w' := by
  obtain ⟨g, cap, c0, c1, f0, f1⟩ := h.cells
  go_enter Try.func23, Try.ntmps23
  go_wp2
  go_ret
  exact ⟨rfl, Below.refl _ _⟩
/-- The empty map stays while a row of maps grows. -/
theorem mapT_nil_own {W W' : World} {mb base g cap n : Nat} {vs : Nat → Nat} (h : MapT W mb .nil) (ho : W.ownsRow base 46 1 (.slice (some ⟨g, 0, none⟩) n cap) n (ptrs vs n)) (hn : 0 < n) (hg : W.grownBy W' (some g)) : MapT W' mb .nil := by
  have hc := own_ptr ho 0 hn
  have hne : some g ≠ some mb := fun e => by
    obtain rfl := Option.some.inj e
    have h0 := h.2.1
    rw [Nat.zero_add] at hc
    rw [hc] at h0
    simp [Tr.ptr] at h0
  exact ⟨Nat.lt_of_lt_of_le h.1 hg.size, (grown_cell hg h.1 hne).trans h.2.1, (grown_cell hg h.1 hne).trans h.2.2.1, trivial, h.2.2.2.2⟩

set_option maxRecDepth 4000 in
set_option maxHeartbeats 4000000 in
theorem push_nil (hb : Nat) (Ls : List Es) (p : Nat) (hp : p < 32) (w : World) (h : HistAt w hb Ls p) : Calls Try.prog 23 #[.pointer (some ⟨hb, 0, none⟩), .pointer none] w fun e w' => e = .returned (.int .i64 0) ∧ HistAt w' hb (Ls.take (p + 1) ++ [[]]) (p + 1) ∧ w.grownBy w' (some hb) := by
  obtain ⟨hpl, hl, g, cap, vs, hH, hcap, hne, hM⟩ := h
  have hbl := hH.lt
  obtain ⟨i0, hi, hz0, hz1, hz2⟩ := info_parts infoM
  have hge : ¬ (32 : Int) ≤ (p : Int) := by omega
  have hp0 : (0 : Int) ≤ (p : Int) + 1 := by omega
  have hp1 : (p : Int) + 1 ≤ (cap : Int) := by omega
  have hwr : IntKind.i64.wrap ((p : Int) + 1) = (p : Int) + 1 := by rw [IntKind.wrap_i64]; omega
  have hwr3 : wrap64 ((p : Int) + 1) = (p : Int) + 1 := by unfold wrap64; omega
  have htn : ((p : Int) + 1).toNat = p + 1 := by omega
  have hc : ∀ X, Below w.heap.size w X → X.cell? ⟨hb, 0, none⟩ = some (.slice (some ⟨g, 0, none⟩) Ls.length cap) ∧ X.cell? ⟨hb, 1, none⟩ = some (.int .i64 (p : Int)) := fun X hX => ⟨(hX.cell (p := ⟨hb, 0, none⟩) hbl).trans (cell_of_row _ _ 0 _ _ _ hH), (hX.cell (p := ⟨hb, 1, none⟩) hbl).trans (cell_of_row _ _ 1 _ _ _ hH)⟩
  have hK : ∀ X, Below w.heap.size w X → Calls Try.prog 22 #[.slice (some ⟨g, 0, none⟩) (p + 1) cap] X fun e w' => ∃ g' cap', e = .returned (.slice (some ⟨g', 0, none⟩) (p + 1) cap') ∧ w'.ownsRow w.heap.size 46 1 (.slice (some ⟨g', 0, none⟩) (p + 1) cap') (p + 1) (ptrs vs (p + 1)) ∧ Below X.heap.size X w' := fun X hX => by
    refine (sclone_any g 0 (p + 1) cap vs (by omega) (by omega) X ((hM.later hX).1) (fun i hi => ((hM.later hX).2 i (by omega)).1)).mono ?_
    rintro e w' ⟨g', cap', rfl, ho, hb'⟩
    obtain ⟨q1, ⟨q2, _⟩ | ⟨g2, cap2, cur, q3, q4, q5⟩⟩ := ho
    · cases q2
    · exact ⟨g', cap', rfl, ⟨q1, .inr ⟨g2, cap2, cur, q3, Nat.le_trans hX.size q4, q5⟩⟩, hb'⟩
  have c0 := (hc w (Below.refl _ _)).1
  have c1 := (hc w (Below.refl _ _)).2
  have B0 : Below w.heap.size w w.drew := (Below.refl _ _).drew
  go_enter Try.func23, Try.ntmps23
  go_wp2
  have cA : ∀ o, (w.drew.alloc o).cell? ⟨hb, 0, none⟩ = some (.slice (some ⟨g, 0, none⟩) Ls.length cap) := fun o => (hc _ (B0.alloc (by simp) o)).1
  have cB : ∀ o, (w.drew.alloc o).cell? ⟨hb, 1, none⟩ = some (.int .i64 (p : Int)) := fun o => (hc _ (B0.alloc (by simp) o)).2
  go_region_law (first
    | (refine step_append_own _ rfl _ _ 61 rfl w.heap.size 46 i0 _ 1 8 Try.underlying61 hi hz0 hz1 hz2 rfl (by decide) _ (p + 1) (ptrs vs (p + 1)) rfl (own_laterB hown6 ((Below.refl _ _).alloc (Nat.le_refl _) _)) _ 1 1 [.pointer (some ⟨w5.heap.size, 0, none⟩)] rfl rfl (one_new _ _ _) (fun u hu => by rw [List.mem_singleton.1 hu]; rfl) (by unfold maxLen; omega) (by omega) (Nat.le_trans hB6.size (by simp)) ?_; intro v10 w10 hown10 hgrow10; obtain ⟨g10, cap10, rfl⟩ := own_some hown10 (by omega); have B10 : Below w.heap.size w w10 := (hB6.alloc hB6.size _).grown hgrow10 (Nat.le_trans hB6.size (by simp)) (fun k hk => by { cases hk; exact (hown5.lt _ rfl).1 }); have c10 := (hc _ B10).1; have f10 := frozen_of_row (hH.later B10) 0; have hm10 : MapE w10 w5.heap.size [] := ⟨.nil, mapT_nil_own (hm6.later ((Below.refl _ _).alloc (Nat.le_refl _) _)) (own_laterB hown6 ((Below.refl _ _).alloc (Nat.le_refl _) _)) (by omega) hgrow10, rfl⟩)
    | (go_simp; go_at_call 41; refine (orEmpty_nil _).mono ?_; rintro e w6 ⟨rfl, hm6, hb6⟩; have hB6 := below_step hB5 hb6; have hown6 := own_laterB hown5 hb6)
    | (go_simp; go_at_call 22; refine (hK _ B0).mono ?_; rintro e w5 ⟨g5, cap5, rfl, hown5, hb5⟩; have hB5 : Below w.heap.size w w5 := below_step B0 hb5))
  all_goals
    have hF := push_end2 hH hM hpl (by simp) hm10 hp B10 hown10
    generalize w10.setCell ⟨hb, 0, none⟩ (.slice (some ⟨g10, 0, none⟩) (p + 1 + 1) cap10) = X at *
    obtain ⟨x1, fx1, hE⟩ := hF
    clear c10 f10 hown10 hgrow10 hown5 hb5 hB5 hK hc cA cB c0 c1 hM hH hm10 hm6 hown6 hb6 hB6
    go_wp2
    go_ret
    refine ⟨rfl, ?_, ?_⟩
    · exact hE.1
    · exact hE.2

end Go.Proofs.Ytkojgbfocdefnaa


namespace Go.Proofs.Ytkojgbfocdefnaa
open Go.RowKit

/-- A block of a history, or of a pair of them. -/
def Odd (W : World) (x : Nat) : Prop := Hd W x ∨ (∃ cs hb, W.heap[x]? = some (.cells cs 27 (0, 0)) ∧ cs[0]? = some (.pointer (some ⟨hb, 0, none⟩)) ∧ Hd W hb) ∨ ∃ cs, W.heap[x]? = some (.cells cs 27 (0, 0)) ∧ cs[0]? = some (.pointer none) ∧ cs[1]? = some (.pointer none)
theorem Odd.ne_tag {W : World} {x b : Nat} {cs : Array Value} {t : TypeId} {f : Nat × Nat} (h : Odd W x) (hr : W.heap[b]? = some (.cells cs t f)) (h1 : t ≠ 64) (h2 : t ≠ 67) (h3 : t ≠ 27) : b ≠ x := by
  rcases h with h | ⟨cs', hb, h, -⟩ | ⟨cs', h, -⟩
  · exact h.ne_tag hr h1 h2
  · intro e
    subst e
    rw [hr] at h
    cases h
    exact h3 rfl
  · intro e
    subst e
    rw [hr] at h
    cases h
    exact h3 rfl
theorem Odd.cell {W : World} {x : Nat} {q : Option Addr} (h : Odd W x) (hc : W.cell? ⟨x, 0, none⟩ = some (.pointer q)) : (q = none ∧ W.cell? ⟨x, 1, none⟩ = some (.pointer none)) ∨ ∃ hb, q = some ⟨hb, 0, none⟩ ∧ Hd W hb := by
  rcases h with h | ⟨cs', hb, h, h0, h1⟩ | ⟨cs', h, h0, h1⟩
  · exact absurd rfl (h.ne_cell hc)
  · rw [cell_of_row _ _ 0 _ _ _ h, h0] at hc
    cases hc
    exact .inr ⟨hb, rfl, h1⟩
  · rw [cell_of_row _ _ 0 _ _ _ h, h0] at hc
    cases hc
    exact .inl ⟨rfl, by rw [cell_of_row _ _ 1 _ _ _ h, h1]⟩
theorem Lies.grO {S : Nat → Prop} {X Y : World} (hS : ∀ k, S k → Odd X k) (hg : GrS S X Y) : ∀ {t : Tr}, Lies X t → Lies Y t := by
  have hN : ∀ {b : Nat} {kv : Nat → Value} {sv : Value}, NodeAt X b kv sv → NodeAt Y b kv sv := fun h => (hg.block _ h.lt (fun e => (hS _ e).ne_tag h (by decide) (by decide) (by decide) rfl)).trans h
  have hSh : ∀ {b : Nat} {th : Nat → Bool} {vk vn : Nat → Int}, ShelfAt X b th vk vn → ShelfAt Y b th vk vn := fun h => (hg.block _ h.lt (fun e => (hS _ e).ne_tag h (by decide) (by decide) (by decide) rfl)).trans h
  intro t
  induction t with
  | nil => intro _; trivial
  | node b kids ih => intro h; exact ⟨hN h.1, fun i hi => ih i (h.2 i hi)⟩
  | leaf b s th vk vn => intro h; exact ⟨hN h.1, hSh h.2⟩
theorem Hd.no_map {W : World} {x : Nat} {L : Es} (h : Hd W x) (hm : MapE W x L) : False := by
  obtain ⟨t, hm, -⟩ := hm
  obtain ⟨u, hu⟩ := ptr_pointer t
  have h0 := hm.2.1
  rw [hu] at h0
  exact h.ne_cell h0 rfl
theorem MapE.off {S : Nat → Prop} {X : World} {b : Nat} {L : Es} (hS : ∀ k, S k → Odd X k) (h : MapE X b L) : ¬ S b := fun e => by
  obtain ⟨t, hm, he⟩ := h
  obtain ⟨u, hu⟩ := ptr_pointer t
  have h0 := hm.2.1
  have h0' := h0
  rw [hu] at h0
  rcases (hS _ e).cell h0 with ⟨-, h1⟩ | ⟨hb, rfl, hH⟩
  · have := hm.2.2.1
    rw [h1] at this
    simp at this
  have hL := hm.2.2.2.1
  cases t with
  | nil => simp [Tr.ptr] at hu
  | node b' kids =>
    simp [Tr.ptr] at hu
    subst hu
    exact hH.ne_tag hL.1 (by decide) (by decide) rfl
  | leaf b' s th vk vn =>
    simp [Tr.ptr] at hu
    subst hu
    exact hH.ne_tag hL.1 (by decide) (by decide) rfl
theorem MapE.grO {S : Nat → Prop} {X Y : World} {b : Nat} {L : Es} (hS : ∀ k, S k → Odd X k) (hg : GrS S X Y) (h : MapE X b L) : MapE Y b L := by
  have hn := h.off hS
  obtain ⟨t, hm, he⟩ := h
  exact ⟨t, ⟨Nat.lt_of_lt_of_le hm.1 hg.size, (hg.cell hm.1 hn).trans hm.2.1, (hg.cell hm.1 hn).trans hm.2.2.1, hm.2.2.2.1.grO hS hg, hm.2.2.2.2⟩, he⟩
theorem HistAt.grO {S : Nat → Prop} {X Y : World} {hb : Nat} {Ls : List Es} {p : Nat} (hS : ∀ k, S k → Odd X k) (hg : GrS S X Y) (hn : ¬ S hb) (h : HistAt X hb Ls p) : HistAt Y hb Ls p := by
  obtain ⟨h1, h2, g, cap, vs, h3, h4, h5, h6⟩ := h
  have hgn : ¬ S g := fun e => by
    obtain ⟨hq, -⟩ | ⟨hb', hq, hH⟩ := (hS _ e).cell (h6.2 0 (by omega)).1
    · cases hq
    have hm := (h6.2 0 (by omega)).2.1
    cases hq
    exact hH.no_map hm
  exact ⟨h1, h2, g, cap, vs, (hg.block hb h3.lt hn).trans h3, h4, h5, Nat.lt_of_lt_of_le h6.1 hg.size, fun i hi => ⟨(hg.cell h6.1 hgn).trans (h6.2 i hi).1, (h6.2 i hi).2.1.grO hS hg, (h6.2 i hi).2.2⟩⟩
theorem own_grO {S : Nat → Prop} {X Y : World} {base k n : Nat} {t : TypeId} {v : Value} {xs : List Value} (hS : ∀ k, S k → Odd X k) (hg : GrS S X Y) (h1 : t ≠ 64) (h2 : t ≠ 67) (h3 : t ≠ 27) (h : X.ownsRow base t k v n xs) : Y.ownsRow base t k v n xs := by
  obtain ⟨q1, q2 | ⟨g, cap, cur, e, hb, r, rest⟩⟩ := h
  · exact ⟨q1, .inl q2⟩
  · exact ⟨q1, .inr ⟨g, cap, cur, e, hb, (hg.block g (Array.getElem?_eq_some_iff.1 r).1 (fun e => (hS _ e).ne_tag r h1 h2 h3 rfl)).trans r, rest⟩⟩
theorem RfAt.grO {S : Nat → Prop} {X Y : World} {b : Nat} {L : Es} (hS : ∀ k, S k → Odd X k) (hg : GrS S X Y) (h : RfAt X b L) : RfAt Y b L := by
  obtain ⟨vi, vv, vs, st, h1, h2, h3, h4, h5, h6⟩ := h
  exact ⟨vi, vv, vs, st, (hg.block b (Array.getElem?_eq_some_iff.1 h1).1 (fun e => (hS _ e).ne_tag h1 (by decide) (by decide) (by decide) rfl)).trans h1, own_grO hS hg (by decide) (by decide) (by decide) h2, own_grO hS hg (by decide) (by decide) (by decide) h3, own_grO hS hg (by decide) (by decide) (by decide) h4, h5, h6⟩
theorem RhAt.grO {S : Nat → Prop} {X Y : World} {hb : Nat} {Ls : List Es} {p : Nat} (hS : ∀ k, S k → Odd X k) (hg : GrS S X Y) (hn : ¬ S hb) (h : RhAt X hb Ls p) : RhAt Y hb Ls p := by
  obtain ⟨h1, h2, g, cap, vs, h3, h4, h5, h6⟩ := h
  have hgn : ¬ S g := fun e => by
    obtain ⟨hq, -⟩ | ⟨hb', hq, hH⟩ := (hS _ e).cell (h6.2 0 (by omega)).1
    · cases hq
    obtain ⟨vi, vv, vs', st, r1, -⟩ := (h6.2 0 (by omega)).2.1
    cases hq
    exact hH.ne_tag r1 (by decide) (by decide) rfl
  exact ⟨h1, h2, g, cap, vs, (hg.block hb h3.lt hn).trans h3, h4, h5, Nat.lt_of_lt_of_le h6.1 hg.size, fun i hi => ⟨(hg.cell h6.1 hgn).trans (h6.2 i hi).1, (h6.2 i hi).2.1.grO hS hg, (h6.2 i hi).2.2⟩⟩
theorem tag_neO {X : World} {a b : Nat} {ca cb : Array Value} {ta tb : TypeId} {fa fb : Nat × Nat} (ha : X.heap[a]? = some (.cells ca ta fa)) (hb : X.heap[b]? = some (.cells cb tb fb)) (hne : ta ≠ tb) : a ≠ b := fun e => by
  subst e
  rw [ha] at hb
  injection hb with hb
  injection hb with _ h2
  exact hne h2
theorem Hd.odd {W : World} {x : Nat} (h : Hd W x) : Odd W x := .inl h
/-- Two histories, of the program and of the reference: their blocks. -/
theorem hist_ref_ne {W : World} {hb rb : Nat} {Ls Ls' : List Es} {p p' : Nat} (h : HistAt W hb Ls p) (hr : RhAt W rb Ls' p') : hb ≠ rb := by
  obtain ⟨-, -, g, cap, vs, h3, -⟩ := h
  obtain ⟨-, -, g', cap', vs', h3', -⟩ := hr
  exact tag_neO h3 h3' (by decide)

end Go.Proofs.Ytkojgbfocdefnaa
