import Derived.Test.YtmppgcijbeipfaaDoorJoin52
import Derived.Test.YtmppgcijbeipfaaDoorJoin54
import Derived.Test.YtmppgcijbeipfaaDoorRfDiff
import Derived.Test.YtmppgcijbeipfaaDoorJoin53
import Derived.Test.YtmppgcijbeipfaaDoorTOne
import Derived.Deep.RegionHeld3
import Derived.Test.YtmppgcijbeipfaaDoorJoin46
import Derived.Test.YtmppgcijbeipfaaDoorTKnown
import Derived.Test.YtmppgcijbeipfaaDoorJoin48
namespace Go.Proofs.YtmppgcijbeipfaaDoor
open Go.RowKit

set_option maxRecDepth 4000 in
set_option maxHeartbeats 4000000 in
/-- Diff. -/
theorem step_diff (pb : Nat) (vs : List Pv) (i j : Nat) (hi : i < vs.length) (hj : j < vs.length) (id : Nat) (x y a s : Int) (w : World) (hP : PlayR w pb vs) (hV : Pvs w s vs) : Calls Tryd.prog 6 #[.pointer (some ⟨pb, 0, none⟩), opV 7 (i : Int) (j : Int) id x y, .int .i64 a] w fun e w' => e = .returned (.bool true) ∧ Below w.heap.size w w' := by
  have hb0 := (Below.refl w.heap.size w).alloc (Nat.le_refl _) (.cells #[.int .i64 7, .int .i64 (i : Int), .int .i64 (j : Int), .int .u32 (id : Int), .int .i64 x, .int .i64 y] 31)
  obtain ⟨h0, gg, gw, cg, cw, h1, h2, c0, c1, hc⟩ := hP.later hb0
  obtain ⟨c2, c3⟩ := hc i hi
  obtain ⟨c4, c5⟩ := hc j hj
  have hi0 : (0 : Int) ≤ (i : Int) := Int.natCast_nonneg _
  have hi1 : (i : Int) < (vs.length : Int) := Int.ofNat_lt.2 hi
  have hi2 : ¬ (i : Int) < 0 := by omega
  have hi3 : ¬ (i : Int) ≥ (vs.length : Int) := by omega
  have hj0 : (0 : Int) ≤ (j : Int) := Int.natCast_nonneg _
  have hj1 : (j : Int) < (vs.length : Int) := Int.ofNat_lt.2 hj
  have hj2 : ¬ (j : Int) < 0 := by omega
  have hj3 : ¬ (j : Int) ≥ (vs.length : Int) := by omega
  have hUU : Hid (∀ X, Below w.heap.size w X → PvAt X vs[i]) := fun X hX => (hV.at' _ (List.getElem_mem hi)).later hX
  have hVV : Hid (∀ X, Below w.heap.size w X → PvAt X vs[j]) := fun X hX => (hV.at' _ (List.getElem_mem hj)).later hX
  clear hc hV hP
  generalize vs[i] = u at *
  generalize vs[j] = v at *
  unfold opV
  go_enter Tryd.func6, Tryd.ntmps6
  go_wp2_with fail
  go_quiet (fail)
  go_wp2_with fail
  go_quiet (fail)
  go_wp2_with fail
  go_quiet (fail)
  go_wp2_with fail
  go_quiet (fail)
  go_wp2_with fail
  go_quiet (fail)
  go_wp2_with fail
  go_quiet (fail)
  have hu0 := hUU.out _ (below_drewN hb0 0)
  have hv0 := hVV.out _ (below_drewN hb0 0)
  have hlu := pv_len hu0
  have hlv := pv_len hv0
  have hD : Hid (u.2.1.dif v.2.1 7 0 = rdif ((u.2.1.ents 7 0).length + (v.2.1.ents 7 0).length) (u.2.1.ents 7 0) (v.2.1.ents 7 0)) := dif_rdif hu0.1.2.2.2.2 hv0.1.2.2.2.2
  have hDl := dif_len hu0.1.2.2.2.2 hv0.1.2.2.2.2 0
  obtain ⟨D, hDD⟩ : ∃ D, u.2.1.dif v.2.1 7 0 = D := ⟨_, rfl⟩
  rw [hDD] at hD hDl
  have hDD' : Hid (u.2.1.dif v.2.1 7 0 = D) := hDD
  clear hDD
  clear hu0 hv0
  obtain ⟨lu, hlu'⟩ : ∃ lu, lu = (u.2.1.ents 7 0).length := ⟨_, rfl⟩
  obtain ⟨lv, hlv'⟩ : ∃ lv, lv = (v.2.1.ents 7 0).length := ⟨_, rfl⟩
  have hl1 : ∀ X, Below w.heap.size w X → Calls Tryd.prog 19 #[.pointer (some ⟨u.2.2.1, 0, none⟩)] X fun e w' => e = .returned (.int .i64 (lu : Int)) ∧ w' = X := fun X hX => by rw [hlu']; exact len_rf _ _ _ (hUU.out _ hX).2.rf
  have hl2 : ∀ X, Below w.heap.size w X → Calls Tryd.prog 19 #[.pointer (some ⟨v.2.2.1, 0, none⟩)] X fun e w' => e = .returned (.int .i64 (lv : Int)) ∧ w' = X := fun X hX => by rw [hlv']; exact len_rf _ _ _ (hVV.out _ hX).2.rf
  have hL : (lu : Int) ≤ 4294967296 ∧ (lv : Int) ≤ 4294967296 := by omega
  have hlu0 : (0 : Int) ≤ (lu : Int) := Int.natCast_nonneg _
  have hlv0 : (0 : Int) ≤ (lv : Int) := Int.natCast_nonneg _
  have hdf : Hid (∀ X, Below w.heap.size w X → Calls Tryd.prog 27 #[.pointer (some ⟨u.1, 0, none⟩), .pointer (some ⟨v.1, 0, none⟩), .int .i64 (-1), .int .i64 ((lu : Int) + (lv : Int) + 1)] X fun e w' => ∃ ca cc, e = .returned (.slice ca D.length cc) ∧ ChsAt w' (.slice ca D.length cc) D ∧ Below X.heap.size X w') := fun X hX => by
    have h := differs_u _ _ _ _ D hDD'.out (-1) ((lu : Int) + (lv : Int) + 1) (by omega) ⟨.inl (by omega), by omega, by omega⟩ X (hUU.out _ hX).1 (hVV.out _ hX).1
    rw [show runC (-1) D = D from rfl] at h
    exact h
  obtain ⟨hL1, hL2⟩ := hL
  have hl1 : Hid (∀ X, Below w.heap.size w X → Calls Tryd.prog 19 #[.pointer (some ⟨u.2.2.1, 0, none⟩)] X fun e w' => e = .returned (.int .i64 (lu : Int)) ∧ w' = X) := hl1
  have hl2 : Hid (∀ X, Below w.heap.size w X → Calls Tryd.prog 19 #[.pointer (some ⟨v.2.2.1, 0, none⟩)] X fun e w' => e = .returned (.int .i64 (lv : Int)) ∧ w' = X) := hl2
  have hDl2 : Hid (D.length ≤ 9000000000) := by show D.length ≤ 9000000000; omega
  clear hDl hlu hlv hlu' hlv' hDD'
  go_wp2_with (go_at_call 19; fail)
  refine (hl1.out _ (below_drewN hb0 _)).mono ?_
  rintro e w5 ⟨rfl, rfl⟩
  go_wp2_with (go_at_call 19; fail)
  refine (hl2.out _ (below_drewN hb0 _)).mono ?_
  rintro e w6 ⟨rfl, rfl⟩
  go_wp2_with (go_at_call 27; fail)
  refine (hdf.out _ (below_drewN hb0 _)).mono ?_
  rintro e w7 ⟨ca, cc, rfl, hC, hb7⟩
  have hB7 := below_step (below_drewN hb0 _) hb7
  have hu := hUU.out _ hB7
  have hv := hVV.out _ hB7
  have hdr := diff_rf _ _ _ _ (Nat.le_trans (pv_len hu) (by decide)) (Nat.le_trans (pv_len hv) (by decide)) _ hu.2.rf hv.2.rf
  rw [← hD.out] at hdr
  clear hdf hl1 hl2 hUU hVV hu hv
  go_wp2_with (go_at_call 29; fail)
  refine hdr.mono ?_
  rintro e w8 ⟨q, c, rfl, hown, hb8⟩
  have hB8 := below_step hB7 hb8
  have hsc := same_changes _ _ _ hDl2.out _ (hC.later hb8) (chs_of_own hown)
  clear hdr
  go_wp2_with (go_at_call 28; fail)
  refine hsc.mono ?_
  rintro e w9 ⟨rfl, hb9⟩
  have hB9 := below_step hB8 hb9
  go_wp2
  go_ret
  exact ⟨rfl, hB9⟩

end Go.Proofs.YtmppgcijbeipfaaDoor


namespace Go.Proofs.YtmppgcijbeipfaaDoor
open Go.RowKit

theorem chs_take {W : World} {a : Option Addr} {n c c' : Nat} {L : List Ch} (h : ChsAt W (.slice a L.length c) L) (hn : n ≤ L.length) : ChsAt W (.slice a n c') (L.take n) := by
  obtain ⟨a', cap, e, h⟩ := h
  injection e with e1 _ _
  subst e1
  refine ⟨_, c', by rw [List.length_take, Nat.min_eq_left hn], ?_⟩
  rcases h with rfl | ⟨g, off, e, hg, hc⟩
  · exact .inl (by simp)
  · refine .inr ⟨g, off, e, hg, fun i hi => ?_⟩
    rw [List.length_take] at hi
    rw [List.getElem_take]
    exact hc i (by omega)
theorem own_le7 {W : World} {b t k n : Nat} {a : Option Addr} {c : Nat} {xs : List Value} (ho : W.ownsRow b t k (.slice a n c) n xs) : n ≤ c := own_le ho

set_option maxRecDepth 4000 in
set_option maxHeartbeats 4000000 in
/-- Diff, left behind its first. -/
theorem step_first (pb : Nat) (vs : List Pv) (i j : Nat) (hi : i < vs.length) (hj : j < vs.length) (id : Nat) (x y a s : Int) (w : World) (hP : PlayR w pb vs) (hV : Pvs w s vs) : Calls Tryd.prog 6 #[.pointer (some ⟨pb, 0, none⟩), opV 9 (i : Int) (j : Int) id x y, .int .i64 a] w fun e w' => e = .returned (.bool true) ∧ Below w.heap.size w w' := by
  have hb0 := (Below.refl w.heap.size w).alloc (Nat.le_refl _) (.cells #[.int .i64 9, .int .i64 (i : Int), .int .i64 (j : Int), .int .u32 (id : Int), .int .i64 x, .int .i64 y] 31)
  obtain ⟨h0, gg, gw, cg, cw, h1, h2, c0, c1, hc⟩ := hP.later hb0
  obtain ⟨c2, c3⟩ := hc i hi
  obtain ⟨c4, c5⟩ := hc j hj
  have hi0 : (0 : Int) ≤ (i : Int) := Int.natCast_nonneg _
  have hi1 : (i : Int) < (vs.length : Int) := Int.ofNat_lt.2 hi
  have hi2 : ¬ (i : Int) < 0 := by omega
  have hi3 : ¬ (i : Int) ≥ (vs.length : Int) := by omega
  have hj0 : (0 : Int) ≤ (j : Int) := Int.natCast_nonneg _
  have hj1 : (j : Int) < (vs.length : Int) := Int.ofNat_lt.2 hj
  have hj2 : ¬ (j : Int) < 0 := by omega
  have hj3 : ¬ (j : Int) ≥ (vs.length : Int) := by omega
  have hUU : Hid (∀ X, Below w.heap.size w X → PvAt X vs[i]) := fun X hX => (hV.at' _ (List.getElem_mem hi)).later hX
  have hVV : Hid (∀ X, Below w.heap.size w X → PvAt X vs[j]) := fun X hX => (hV.at' _ (List.getElem_mem hj)).later hX
  clear hc hV hP
  generalize vs[i] = u at *
  generalize vs[j] = v at *
  unfold opV
  go_enter Tryd.func6, Tryd.ntmps6
  go_wp2_with fail
  go_quiet (fail)
  go_wp2_with fail
  go_quiet (fail)
  go_wp2_with fail
  go_quiet (fail)
  go_wp2_with fail
  go_quiet (fail)
  go_wp2_with fail
  go_quiet (fail)
  go_wp2_with fail
  go_quiet (fail)
  have hu0 := hUU.out _ (below_drewN hb0 0)
  have hv0 := hVV.out _ (below_drewN hb0 0)
  have hlu := pv_len hu0
  have hlv := pv_len hv0
  have hD : Hid (u.2.1.dif v.2.1 7 0 = rdif ((u.2.1.ents 7 0).length + (v.2.1.ents 7 0).length) (u.2.1.ents 7 0) (v.2.1.ents 7 0)) := dif_rdif hu0.1.2.2.2.2 hv0.1.2.2.2.2
  have hDl := dif_len hu0.1.2.2.2.2 hv0.1.2.2.2.2 0
  obtain ⟨D, hDD⟩ : ∃ D, u.2.1.dif v.2.1 7 0 = D := ⟨_, rfl⟩
  rw [hDD] at hD hDl
  have hDD' : Hid (u.2.1.dif v.2.1 7 0 = D) := hDD
  clear hDD
  clear hu0 hv0
  obtain ⟨T, hT⟩ : ∃ T, T = D.take 1 := ⟨_, rfl⟩
  have hTH : Hid (T = D.take 1) := hT
  have hdf : Hid (∀ X, Below w.heap.size w X → Calls Tryd.prog 27 #[.pointer (some ⟨u.1, 0, none⟩), .pointer (some ⟨v.1, 0, none⟩), .int .i64 1, .int .i64 2] X fun e w' => ∃ ca cc, e = .returned (.slice ca T.length cc) ∧ ChsAt w' (.slice ca T.length cc) T ∧ Below X.heap.size X w') := fun X hX => by
    have h := differs_u _ _ _ _ D hDD'.out 1 2 (by omega) ⟨.inr (by omega), by omega, by omega⟩ X (hUU.out _ hX).1 (hVV.out _ hX).1
    rw [show runC 1 D = D.take 1 from rfl, ← hT] at h
    exact h
  clear hT
  have hDl2 : Hid (D.length ≤ 9000000000) := by show D.length ≤ 9000000000; omega
  clear hDl hlu hlv hDD'
  go_wp2_with (go_at_call 27; fail)
  refine (hdf.out _ (below_drewN hb0 _)).mono ?_
  rintro e w7 ⟨ca, cc, rfl, hC, hb7⟩
  have hB7 := below_step (below_drewN hb0 _) hb7
  have hu := hUU.out _ hB7
  have hv := hVV.out _ hB7
  have hdr := diff_rf _ _ _ _ (Nat.le_trans (pv_len hu) (by decide)) (Nat.le_trans (pv_len hv) (by decide)) _ hu.2.rf hv.2.rf
  rw [← hD.out] at hdr
  clear hdf hUU hVV hu hv
  go_wp2_with (go_at_call 29; fail)
  refine hdr.mono ?_
  rintro e w8 ⟨q, c, rfl, hown, hb8⟩
  have hB8 := below_step hB7 hb8
  have hC8 := hC.later hb8
  have hcap := own_le7 hown
  have hW := chs_of_own hown
  have hsm : 1 < D.length → ∃ g, q = some ⟨g, 0, none⟩ := fun h => by
    obtain ⟨g, cap, e⟩ := own_some hown (by omega)
    injection e with e1 _ _
    exact ⟨g, e1⟩
  have hTl : Hid (T.length ≤ 9000000000) := by show T.length ≤ 9000000000; rw [hTH.out, List.length_take]; omega
  clear hdr hown hb8 hC
  by_cases hgt : 1 < D.length
  · obtain ⟨g, rfl⟩ := hsm hgt
    have hgt' : (1 : Int) < (D.length : Int) := by omega
    have hcc : (1 : Int) ≤ (c : Int) := by omega
    have hsc := same_changes _ _ T hTl.out _ hC8 (by rw [hTH.out]; exact chs_take (n := 1) (c' := c) hW (by omega))
    clear hC8 hW hsm
    go_wp2_with (go_at_call 28; fail)
    refine hsc.mono ?_
    rintro e w9 ⟨rfl, hb9⟩
    have hB9 := below_step hB8 hb9
    go_wp2
    go_ret
    exact ⟨rfl, hB9⟩
  · have hgt' : ¬ (1 : Int) < (D.length : Int) := by omega
    have hsc := same_changes _ _ T hTl.out _ hC8 (by rw [hTH.out, List.take_of_length_le (by omega)]; exact hW)
    clear hC8 hW hsm
    go_wp2_with (go_at_call 28; fail)
    refine hsc.mono ?_
    rintro e w9 ⟨rfl, hb9⟩
    have hB9 := below_step hB8 hb9
    go_wp2
    go_ret
    exact ⟨rfl, hB9⟩

end Go.Proofs.YtmppgcijbeipfaaDoor


namespace Go.Proofs.YtmppgcijbeipfaaDoor
open Go.RowKit

set_option maxRecDepth 4000 in
set_option maxHeartbeats 1000000 in
theorem same_entries5 (va vb : Value) (L : List (Nat × (Int × Int))) (hl : L.length ≤ 9000000000) (w : World) (ha : EntsAt w va L) (hb : EntsAt w vb L) : Calls Tryd.prog 22 #[va, vb] w fun e w' => e = .returned (.bool true) ∧ Below w.heap.size w w' := by
  obtain ⟨aa, ca, rfl, hda⟩ := ha
  obtain ⟨ab, cb, rfl, hdb⟩ := hb
  go_enter Tryd.func22, Tryd.ntmps22
  go_wp2
  go_loopw [5] (fun i wr => ∃ j : Nat, j ≤ L.length ∧ i = .int .i64 j ∧ Below w.heap.size w wr) (fun i _ => L.length - (intOf i).toNat)
  case atStart => exact ⟨0, by omega, rfl, Below.refl _ _⟩
  case round =>
    obtain ⟨j, hj, rfl, hB⟩ := hrel
    by_cases hlt : j < L.length
    · have hlt' : (j : Int) < L.length := by omega
      have hj0 : (0 : Int) ≤ (j : Int) := by omega
      rcases hda with h0 | ⟨ga, oa, rfl, hga, hca⟩
      · rw [h0] at hlt; simp at hlt
      rcases hdb with h0 | ⟨gb, ob, rfl, hgb, hcb⟩
      · rw [h0] at hlt; simp at hlt
      obtain ⟨a0, a1, a2⟩ := hca j hlt
      obtain ⟨b0, b1, b2⟩ := hcb j hlt
      generalize L[j].1 = k at *
      generalize L[j].2.1 = x at *
      generalize L[j].2.2 = y at *
      have hS0 : w.cell? ⟨ga, oa + j * 3, none⟩ = some (.int .u32 (k : Int)) ∧ w.cell? ⟨ga, oa + j * 3 + 1, none⟩ = some (.int .i64 x) ∧ w.cell? ⟨ga, oa + j * 3 + 2, none⟩ = some (.int .i64 y) ∧ w.cell? ⟨gb, ob + j * 3, none⟩ = some (.int .u32 (k : Int)) ∧ w.cell? ⟨gb, ob + j * 3 + 1, none⟩ = some (.int .i64 x) ∧ w.cell? ⟨gb, ob + j * 3 + 2, none⟩ = some (.int .i64 y) := ⟨a0, a1, a2, b0, b1, b2⟩
      have hS : ∀ X, Below w.heap.size w X → X.cell? ⟨ga, oa + j * 3, none⟩ = some (.int .u32 (k : Int)) ∧ X.cell? ⟨ga, oa + j * 3 + 1, none⟩ = some (.int .i64 x) ∧ X.cell? ⟨ga, oa + j * 3 + 2, none⟩ = some (.int .i64 y) ∧ X.cell? ⟨gb, ob + j * 3, none⟩ = some (.int .u32 (k : Int)) ∧ X.cell? ⟨gb, ob + j * 3 + 1, none⟩ = some (.int .i64 x) ∧ X.cell? ⟨gb, ob + j * 3 + 2, none⟩ = some (.int .i64 y) := fun X hX => ⟨(hX.cell (p := ⟨ga, _, none⟩) hga).trans a0, (hX.cell (p := ⟨ga, _, none⟩) hga).trans a1, (hX.cell (p := ⟨ga, _, none⟩) hga).trans a2, (hX.cell (p := ⟨gb, _, none⟩) hgb).trans b0, (hX.cell (p := ⟨gb, _, none⟩) hgb).trans b1, (hX.cell (p := ⟨gb, _, none⟩) hgb).trans b2⟩
      have hS1 := hS _ hB.drew
      have hsv := same_any x y x y true (by simp) wr.drew
      have hkk : ((k : Int) != (k : Int)) = false := by simp
      clear hS0 a0 a1 a2 b0 b1 b2 hca hcb
      go_wp2
      go_region_held3 (fun X => X.cell? ⟨ga, oa + j * 3, none⟩ = some (.int .u32 (k : Int)) ∧ X.cell? ⟨ga, oa + j * 3 + 1, none⟩ = some (.int .i64 x) ∧ X.cell? ⟨ga, oa + j * 3 + 2, none⟩ = some (.int .i64 y) ∧ X.cell? ⟨gb, ob + j * 3, none⟩ = some (.int .u32 (k : Int)) ∧ X.cell? ⟨gb, ob + j * 3 + 1, none⟩ = some (.int .i64 x) ∧ X.cell? ⟨gb, ob + j * 3 + 2, none⟩ = some (.int .i64 y)) (with_reducible assumption)
        (first | (go_at_call 12; refine hsv.mono ?_; rintro e w5 ⟨rfl, hb5⟩; have hB5 := below_step hB.drew hb5; have hS5 := hS _ hB5))
      go_wp2
      go_roundw
      case rel => exact ⟨j + 1, by omega, by go_num, hB5⟩
      case measure => simp [intOf]; omega
    · have hlt' : ¬ (j : Int) < L.length := by omega
      go_wp2
      go_ret
      exact ⟨rfl, hB⟩


end Go.Proofs.YtmppgcijbeipfaaDoor


namespace Go.Proofs.YtmppgcijbeipfaaDoor
open Go.RowKit

theorem EntsC.cases {W : World} {v : Value} {L : Es} (h : EntsC W v L) : (L = [] ∧ ∃ a c, v = .slice a 0 c) ∨ ∃ g off c, v = .slice (some ⟨g, off, none⟩) L.length c ∧ L.length ≤ c ∧ EntsAt W (.slice (some ⟨g, off, none⟩) L.length c) L := by
  obtain ⟨a, c, rfl, h0, hE⟩ := h
  have hE' := hE
  obtain ⟨a', c', e, h | ⟨g, off, e2, -⟩⟩ := hE
  · subst h
    exact .inl ⟨rfl, a, c, rfl⟩
  · injection e with e1 _ _
    subst e1
    subst e2
    exact .inr ⟨g, off, c, rfl, h0, hE'⟩
theorem ents_none {W : World} {a : Option Addr} {c : Nat} {L : Es} (h : L = []) : EntsC W (.slice a 0 c) L := by
  subst h
  exact ⟨a, c, rfl, Nat.zero_le _, ⟨a, c, rfl, .inl rfl⟩⟩

theorem ents_from {W : World} {g off c n c' X : Nat} {L : Es} (h : EntsAt W (.slice (some ⟨g, off, none⟩) L.length c) L) (hn : n ≤ L.length) (hc : L.length - n ≤ c') (hX : n < L.length → X = off + n * 3) : EntsC W (.slice (some ⟨g, X, none⟩) (L.length - n) c') (L.drop n) := by
  by_cases hlt : n < L.length
  · have := ents_drop_at (c' := c') h hlt
    rw [hX hlt]
    exact ⟨_, c', by rw [List.length_drop], by rw [List.length_drop]; exact hc, by rw [List.length_drop]; exact this⟩
  · have e : L.drop n = [] := List.drop_eq_nil_of_le (by omega)
    rw [show L.length - n = 0 from by omega]
    exact ents_none e

theorem rfPl_le' (L : Es) (id : Nat) : rfPl L id ≤ L.length := by
  exact rfPl_le L id

set_option maxHeartbeats 2000000 in
theorem from_rf (b id : Nat) (L : Es) (hl : L.length ≤ 5000000000) (w : World) (h : RfAt w b L) : Calls Tryd.prog 26 #[.pointer (some ⟨b, 0, none⟩), .int .u32 (id : Int)] w fun e w' => ∃ v, e = .returned v ∧ EntsC w' v (L.drop (rfPl L id)) ∧ Below w.heap.size w w' := by
  have hpl := place_rf b id L hl w h
  have hle := rfPl_le' L id
  go_enter Tryd.func26, Tryd.ntmps26
  go_wp2_with (go_at_call 35; fail)
  refine hpl.mono ?_
  rintro e w1 ⟨rfl, m1, rfl⟩
  clear hpl
  have hb1 := below_drewN (Below.refl w.heap.size w) m1
  have hls := list_rfc b L hl _ (h.later hb1)
  generalize w.drewN m1 = X at *
  go_wp2_with (go_at_call 24; fail)
  refine hls.mono ?_
  rintro e w2 ⟨v, rfl, hE, hb2⟩
  clear hls
  have hB := below_step hb1 hb2
  clear hb1 hb2
  rcases hE.cases with ⟨h0, a, c, rfl⟩ | ⟨g, off, c, rfl, hc, hA⟩
  · have hz : rfPl L id = 0 := by rw [h0] at hle; simpa [h0] using hle
    rw [hz] at *
    go_wp2
    go_ret
    exact ⟨_, rfl, ents_none (by simp [h0]), hB⟩
  · have hle' : (rfPl L id : Int) ≤ (L.length : Int) := Int.ofNat_le.2 hle
    have hq : rfPl L id ≤ c := Nat.le_trans hle hc
    go_wp2
    · rename_i hq2
      go_ret
      exact ⟨_, rfl, ents_from hA hle (by omega) (fun hlt => by omega), hB⟩
    · go_ret
      exact ⟨_, rfl, ents_from hA hle (by omega) (fun _ => rfl), hB⟩

end Go.Proofs.YtmppgcijbeipfaaDoor


namespace Go.Proofs.YtmppgcijbeipfaaDoor
open Go.RowKit

theorem from_iter (mb : Nat) (t : Tr) (low : Nat) (w : World) (h : MapT w mb t) : Calls Tryd.prog 25 #[.pointer (some ⟨mb, 0, none⟩), .int .u32 (low : Int)] w fun e w' => e = .returned (iterV w.heap.size) ∧ IterAt w' w.heap.size t low ∧ Below w.heap.size w w' := by
  obtain ⟨u, hu⟩ := ptr_pointer t
  have m0 := h.2.1
  rw [hu] at m0
  go_enter Tryd.func25, Tryd.ntmps25
  go_wp2
  go_ret
  have := iter_new w t u hu low low rfl 70 3 27 27
  exact ⟨rfl, this.1, this.2⟩

/-- What run gives of a list, left behind stop. -/
def runL (stop : Int) (L : List (Nat × (Int × Int))) : List (Nat × (Int × Int)) := if stop < 0 then L else L.take stop.toNat

def uJ (W : World) (T : Nat) (stop most : Int) (done : List (Nat × (Int × Int))) (X : World) : Prop := TakerAt X T done stop most done.length false false ∧ (done.length : Int) ≤ most ∧ (stop < 0 ∨ (done.length : Int) < stop) ∧ W.heap.size ≤ T ∧ Below W.heap.size W X
def uX (W : World) (T : Nat) (stop most : Int) (done : List (Nat × (Int × Int))) (X : World) : Prop := TakerAt X T done stop most done.length true false ∧ ((done.length : Int) = stop ∨ most < (done.length : Int)) ∧ W.heap.size ≤ T ∧ Below W.heap.size W X

theorem takes_entry2 (W : World) (T : Nat) (stop most : Int) (hmo : most ≤ 4294967297) (t : Tr) (h : Lies W t) : Takes 38 ⟨T, 0, none⟩ t (uJ W T stop most) (uX W T stop most) where
  lies := fun _ _ hJ => h.later hJ.2.2.2.2
  liesx := fun _ _ hJ => h.later hJ.2.2.2
  draw := fun _ X n hJ => ⟨hJ.1.drewN n, hJ.2.1, hJ.2.2.1, hJ.2.2.2.1, below_drewN hJ.2.2.2.2 n⟩
  call := fun done X k x y hk hJ => by
    obtain ⟨h1, h2, h3, h4, h5⟩ := hJ
    refine (entry_any T done stop most (by omega) false _ k x y rfl X h1).mono ?_
    rintro e X' ⟨rfl, hT, hB⟩
    have hB' : Below W.heap.size W X' := h5.trans (hB.mono h4)
    refine ⟨_, rfl, fun ho => ?_, fun ho => ?_⟩
    · simp only [Bool.not_eq_true', Bool.or_eq_false_iff, decide_eq_false_iff_not, beq_eq_false_iff_ne] at ho
      have e : (((done.length : Int) + 1 == stop) || decide (most < (done.length : Int) + 1)) = false := by simp; omega
      rw [e] at hT
      refine ⟨?_, ?_, ?_, h4, hB'⟩
      · rw [List.length_append]; exact hT
      · simp; omega
      · simp; omega
    · simp only [Bool.not_eq_false', Bool.or_eq_true, decide_eq_true_eq, beq_iff_eq] at ho
      have e : (((done.length : Int) + 1 == stop) || decide (most < (done.length : Int) + 1)) = true := by simp; omega
      rw [e] at hT
      refine ⟨?_, ?_, h4, hB'⟩
      · rw [List.length_append]; exact hT
      · simp; omega

theorem runL_prefix {stop most : Int} {L pre : List (Nat × (Int × Int))} (hL : (L.length : Int) ≤ most) (hp : pre <+: L) (h : (pre.length : Int) = stop ∨ most < (pre.length : Int)) : pre = runL stop L := by
  have h1 := hp.length_le
  rcases h with h | h
  · unfold runL
    rw [if_neg (by omega), List.prefix_iff_eq_take.1 hp]
    congr 1
    omega
  · omega
theorem runL_whole {stop : Int} {L : List (Nat × (Int × Int))} (h : stop < 0 ∨ (L.length : Int) < stop) : L = runL stop L := by
  unfold runL
  split
  · rfl
  · rw [List.take_of_length_le (by omega)]

set_option maxRecDepth 4000 in
set_option maxHeartbeats 1000000 in
theorem run_some (b low : Nat) (t : Tr) (hw : t.wf 7) (stop most : Int) (hst : stop ≠ 0) (hmo : ((t.fromL 7 0 low).length : Int) ≤ most ∧ most ≤ 4294967297) (w : World) (hI : IterAt w b t low) (hL : Lies w t) :
    Calls Tryd.prog 20 #[iterV b, .int .i64 stop, .int .i64 most] w fun e w' => ∃ ev, e = .returned ev ∧ w'.ownsRow (w.heap.size + 1) 49 3 ev (runL stop (t.fromL 7 0 low)).length (flat3 (runL stop (t.fromL 7 0 low))) ∧ Below w.heap.size w w' := by
  have hq : iterV b = .func (.func 49) #[] #[.pointer (some ⟨b, 0, none⟩), .pointer (some ⟨b + 1, 0, none⟩), .pointer (some ⟨b + 1 + 1, 0, none⟩), .pointer (some ⟨b + 1 + 1 + 1, 0, none⟩)] := rfl
  have hnil : ∀ W : World, (binOp BinOp.eql 56 (.func (.func 49) #[] #[.pointer (some ⟨b, 0, none⟩), .pointer (some ⟨b + 1, 0, none⟩), .pointer (some ⟨b + 1 + 1, 0, none⟩), .pointer (some ⟨b + 1 + 1 + 1, 0, none⟩)]) .nilFunc).run Tryd.prog W = .ok (.bool false) W := fun _ => rfl
  have hs0 : (stop == 0) = false := by simpa using hst
  rw [hq]
  go_enter Tryd.func20, Tryd.ntmps20
  have hb1 : Below w.heap.size w (w.alloc (.cells (takerRow (.slice none 0 0) stop most 0 false false) 92)) := (Below.refl _ _).alloc (Nat.le_refl _) _
  by_cases hge : 0 ≤ most ∧ (stop < 0 ∨ 0 < stop)
  · have hJ0 : uJ w w.heap.size stop most [] (w.alloc (.cells (takerRow (.slice none 0 0) stop most 0 false false) 92)) := ⟨⟨_, heap_alloc_last w _, World.ownsRow_nil _ _ _ _⟩, by simpa using hge.1, by simpa using hge.2, Nat.le_refl _, hb1⟩
    have hfr := from1_any ⟨w.heap.size, 0, none⟩ b low t hw _ _ (takes_entry2 w w.heap.size stop most hmo.2 t hL) _ (hI.later hb1) hJ0
    have hMo : Hid (((t.fromL 7 0 low).length : Int) ≤ most) := hmo.1
    clear hge hmo
    go_wp2_with (go_at_call 49; fail)
    refine hfr.mono ?_
    rintro e w3 ⟨rfl, hE⟩
    have hJ3 : ∃ o, TakerAt w3 w.heap.size (runL stop (t.fromL 7 0 low)) stop most ((runL stop (t.fromL 7 0 low)).length) o false ∧ Below w.heap.size w w3 := by
      rcases hE with hE | ⟨pre, hp, hx⟩
      · have := runL_whole hE.2.2.1
        rw [← this]
        exact ⟨_, hE.1, hE.2.2.2.2⟩
      · have := runL_prefix hMo.out hp hx.2.1
        rw [← this]
        exact ⟨_, hx.1, hx.2.2.2⟩
    obtain ⟨ob, ⟨ev, hT3, hown3⟩, hB3⟩ := hJ3
    obtain ⟨ea, el, ec, rfl⟩ := own_slice hown3
    have c6 : w3.cell? ⟨w.heap.size, 6, none⟩ = some (.bool false) := cell_of_row _ _ 6 _ _ _ hT3
    have c0 : w3.cell? ⟨w.heap.size, 0, none⟩ = some (.slice ea el ec) := cell_of_row _ _ 0 _ _ _ hT3
    clear hE hfr hJ0 hb1
    go_wp2
    go_ret
    exact ⟨_, rfl, hown3, hB3⟩
  · exact absurd ⟨by omega, by omega⟩ hge

set_option maxRecDepth 4000 in
set_option maxHeartbeats 1000000 in
theorem run_zero (b : Nat) (most : Int) (w : World) :
    Calls Tryd.prog 20 #[iterV b, .int .i64 0, .int .i64 most] w fun e w' => e = .returned (.slice none 0 0) ∧ Below w.heap.size w w' := by
  have hq : iterV b = .func (.func 49) #[] #[.pointer (some ⟨b, 0, none⟩), .pointer (some ⟨b + 1, 0, none⟩), .pointer (some ⟨b + 1 + 1, 0, none⟩), .pointer (some ⟨b + 1 + 1 + 1, 0, none⟩)] := rfl
  have hnil : ∀ W : World, (binOp BinOp.eql 56 (.func (.func 49) #[] #[.pointer (some ⟨b, 0, none⟩), .pointer (some ⟨b + 1, 0, none⟩), .pointer (some ⟨b + 1 + 1, 0, none⟩), .pointer (some ⟨b + 1 + 1 + 1, 0, none⟩)]) .nilFunc).run Tryd.prog W = .ok (.bool false) W := fun _ => rfl
  rw [hq]
  go_enter Tryd.func20, Tryd.ntmps20
  go_wp2
  go_ret
  exact ⟨rfl, (Below.refl _ _).alloc (Nat.le_refl _) _⟩

end Go.Proofs.YtmppgcijbeipfaaDoor


/- What run gives, of any stop. -/
namespace Go.Proofs.YtmppgcijbeipfaaDoor
open Go.RowKit

theorem run_u (b low : Nat) (t : Tr) (hw : t.wf 7) (stop most : Int) (hmo : ((t.fromL 7 0 low).length : Int) ≤ most ∧ most ≤ 4294967297) (w : World) (hI : IterAt w b t low) (hL : Lies w t) :
    Calls Tryd.prog 20 #[iterV b, .int .i64 stop, .int .i64 most] w fun e w' => ∃ a n c, e = .returned (.slice a n c) ∧ EntsAt w' (.slice a n c) (runL stop (t.fromL 7 0 low)) ∧ Below w.heap.size w w' := by
  by_cases h0 : stop = 0
  · subst h0
    refine (run_zero b most w).mono ?_
    rintro e w' ⟨rfl, hb⟩
    exact ⟨none, 0, 0, rfl, ⟨none, 0, rfl, .inl rfl⟩, hb⟩
  · refine (run_some b low t hw stop most h0 hmo w hI hL).mono ?_
    rintro e w' ⟨ev, rfl, hown, hb⟩
    obtain ⟨a, c, rfl, hd⟩ := ents_of_own hown
    exact ⟨a, _, c, rfl, ⟨a, c, rfl, hd⟩, hb⟩
theorem wrI1 {k : Int} (h0 : 0 ≤ k) (h1 : k ≤ 4294967296) : IntKind.i64.wrap (k + 1) = k + 1 := by
  simp [IntKind.wrap, IntKind.signed, IntKind.bits]
  omega
theorem fromL_zero {t : Tr} (hw : t.wf 7) : t.fromL 7 0 0 = t.ents 7 0 := by
  rw [fromL_top hw (by decide), List.filter_eq_self.2]
  intro e _
  simp [atLeast]
theorem fromL_pl {t : Tr} (hw : t.wf 7) {id : Nat} (hi : id < 4294967296) : t.fromL 7 0 id = (t.ents 7 0).drop (rfPl (t.ents 7 0) id) := by
  rw [fromL_top hw hi, drop_from (ents_rises 7 hw 0)]
  rfl

end Go.Proofs.YtmppgcijbeipfaaDoor


namespace Go.Proofs.YtmppgcijbeipfaaDoor
open Go.RowKit

set_option maxRecDepth 4000 in
set_option maxHeartbeats 4000000 in
/-- From. -/
theorem step_from (pb : Nat) (vs : List Pv) (i : Nat) (hi : i < vs.length) (n : Int) (id : Nat) (hid : id < 4294967296) (x y a : Int) (w : World) (hP : PlayR w pb vs) (hV : PvAt w vs[i]) : Calls Tryd.prog 6 #[.pointer (some ⟨pb, 0, none⟩), opV 6 (i : Int) n id x y, .int .i64 a] w fun e w' => e = .returned (.bool true) ∧ Below w.heap.size w w' := by
  obtain ⟨w1, hw1⟩ : ∃ w1, w1 = w.alloc (.cells #[.int .i64 6, .int .i64 (i : Int), .int .i64 n, .int .u32 (id : Int), .int .i64 x, .int .i64 y] 31) := ⟨_, rfl⟩
  have hb0 : Below w.heap.size w w1 := by rw [hw1]; exact (Below.refl w.heap.size w).alloc (Nat.le_refl _) _
  have hrow : w1.heap[w.heap.size]? = some (.cells #[.int .i64 6, .int .i64 (i : Int), .int .i64 n, .int .u32 (id : Int), .int .i64 x, .int .i64 y] 31 (0, 0)) := by rw [hw1]; exact heap_alloc_last w _
  obtain ⟨P, hPe⟩ : ∃ P, P = w.heap.size := ⟨_, rfl⟩
  rw [← hPe] at hrow
  obtain ⟨h0, gg, gw, cg, cw, h1, h2, c0, c1, hc⟩ := hP.later hb0
  obtain ⟨c2, c3⟩ := hc i hi
  have hi0 : (0 : Int) ≤ (i : Int) := Int.natCast_nonneg _
  have hi1 : (i : Int) < (vs.length : Int) := Int.ofNat_lt.2 hi
  have hi2 : ¬ (i : Int) < 0 := by omega
  have hi3 : ¬ (i : Int) ≥ (vs.length : Int) := by omega
  have hlt : P < w1.heap.size := (Array.getElem?_eq_some_iff.1 hrow).1
  have r0 : w1.cell? ⟨P, 0, none⟩ = some (.int .i64 6) := cell_of_row _ _ 0 _ _ _ hrow
  have r1 : w1.cell? ⟨P, 1, none⟩ = some (.int .i64 (i : Int)) := cell_of_row _ _ 1 _ _ _ hrow
  have hS0 : Hid (∀ X, Below w1.heap.size w1 X → X.cell? ⟨P, 2, none⟩ = some (.int .i64 n) ∧ X.cell? ⟨P, 3, none⟩ = some (.int .u32 (id : Int))) := fun X hX => ⟨(hX.cell (p := ⟨P, 2, none⟩) hlt).trans (cell_of_row _ _ 2 _ _ _ hrow), (hX.cell (p := ⟨P, 3, none⟩) hlt).trans (cell_of_row _ _ 3 _ _ _ hrow)⟩
  have hlen0 := pv_len hV
  have hlen := Nat.le_trans hlen0 (show 4294967296 ≤ 5000000000 by decide)
  have hw := hV.1.2.2.2.2
  have hPV : ∀ X, Below w1.heap.size w1 X → PvAt X vs[i] := fun X hX => hV.later (below_step hb0 hX)
  generalize vs[i] = v at *
  have hVV : Hid (∀ X, Below w1.heap.size w1 X → MapT X v.1 v.2.1) := fun X hX => (hPV X hX).1
  obtain ⟨M, hM⟩ : ∃ M, M = ((v.2.1.ents 7 0).drop (rfPl (v.2.1.ents 7 0) id)) := ⟨_, rfl⟩
  have hMl : M.length ≤ (v.2.1.ents 7 0).length := by rw [hM]; exact by rw [List.length_drop]; exact Nat.sub_le _ _
  obtain ⟨lu, hlu'⟩ : ∃ lu, lu = (v.2.1.ents 7 0).length := ⟨_, rfl⟩
  have hl1 : Hid (∀ X, Below w1.heap.size w1 X → Calls Tryd.prog 19 #[.pointer (some ⟨v.2.2.1, 0, none⟩)] X fun e w' => e = .returned (.int .i64 (lu : Int)) ∧ w' = X) := fun X hX => by rw [hlu']; exact len_rf _ _ _ (hPV X hX).2.rf
  have hlu0 : (0 : Int) ≤ (lu : Int) := Int.natCast_nonneg _
  have hL1 : (lu : Int) ≤ 4294967296 := by omega
  have hrun : Hid (∀ X b, Below w1.heap.size w1 X → IterAt X b v.2.1 id → Calls Tryd.prog 20 #[iterV b, .int .i64 n, .int .i64 (IntKind.i64.wrap ((lu : Int) + 1))] X fun e w' => ∃ a m c, e = .returned (.slice a m c) ∧ EntsAt w' (.slice a m c) (runL n M) ∧ Below X.heap.size X w') := fun X b hX hI => by
    have h := run_u b id v.2.1 hw n ((lu : Int) + 1) ⟨by rw [fromL_pl hw hid, ← hM]; omega, by omega⟩ X hI (hPV X hX).1.2.2.2.1
    rw [fromL_pl hw hid, ← hM] at h
    rw [wrI1 hlu0 hL1]
    exact h
  have hlist : Hid (∀ X, Below w1.heap.size w1 X → Calls Tryd.prog 26 #[.pointer (some ⟨v.2.2.1, 0, none⟩), .int .u32 (id : Int)] X fun e w' => ∃ v, e = .returned v ∧ EntsC w' v M ∧ Below X.heap.size X w') := fun X hX => by rw [hM]; exact from_rf _ _ _ hlen X (hPV X hX).2.rf
  have hMl2 : Hid (M.length ≤ 5000000000) := by show M.length ≤ 5000000000; omega
  have hRl : Hid ((runL n M).length ≤ 9000000000) := by
    show (runL n M).length ≤ 9000000000
    unfold runL
    split
    · omega
    · rw [List.length_take]; omega
  clear hc hV hP hrow hM hMl hlu' hlen hlen0 hw hPV
  unfold opV
  go_enter Tryd.func6, Tryd.ntmps6
  go_wp2_with fail
  rw [← hw1, ← hPe]
  have hPH : Hid (P = w.heap.size) := hPe
  clear hw1 hPe
  go_quiet (fail)
  go_wp2_with fail
  go_quiet (fail)
  go_wp2_with fail
  go_quiet (fail)
  go_wp2_with fail
  generalize hVe : w1.drewN _ = V
  have hbV : Below w1.heap.size w1 V := by rw [← hVe]; exact below_drewN (Below.refl _ _) _
  clear hVe c0 c1 c2 c3 r0 r1
  have hD := hbV.drew
  have hS := hS0.out _ hD
  go_region_held3 (fun X => X.cell? ⟨P, 2, none⟩ = some (.int .i64 n) ∧ X.cell? ⟨P, 3, none⟩ = some (.int .u32 (id : Int))) (with_reducible assumption)
    (first
      | (go_at_call 25; refine (from_iter _ _ _ _ (hVV.out _ hD)).mono ?_; rintro e w5 ⟨rfl, hI5, hb5⟩; have hB5 := below_step hD hb5; have hS5 := hS0.out _ hB5)
      | (go_at_call 19; refine (hl1.out _ hB5).mono ?_; rintro e w6 ⟨rfl, rfl⟩)
      | (go_at_call 20; refine (hrun.out _ _ hB5 hI5).mono ?_; rintro e w7 ⟨a7, n7, c7, rfl, hE7, hb7⟩; have hB7 := below_step hB5 hb7; have hS7 := hS0.out _ hB7))
  go_wp2_with fail
  have hD7 := hB7.drew
  have hS8 := hS0.out _ hD7
  have hE7' := hE7.later ((Below.refl w7.heap.size w7).drew)
  clear hrun hl1 hVV hI5 hS hS5 hS7 hE7
  go_region_held3 (fun X => X.cell? ⟨P, 2, none⟩ = some (.int .i64 n) ∧ X.cell? ⟨P, 3, none⟩ = some (.int .u32 (id : Int))) (with_reducible assumption)
    (first
      | (go_at_call 26; refine (hlist.out _ hD7).mono ?_; rintro e w8 ⟨v8, rfl, hE8, hb8⟩; have hB8 := below_step hD7 hb8; have hS9 := hS0.out _ hB8; have hcut := cut_rf v8 M n hMl2.out _ hE8)
      | (go_at_call 23; refine hcut.mono ?_; rintro e w9 ⟨v9, rfl, hE9, rfl⟩; have hse := same_entries5 _ _ (runL n M) hRl.out _ (hE7'.later hb8) hE9)
      | (go_at_call 22; refine hse.mono ?_; rintro e w10 ⟨rfl, hb10⟩; have hB10 := below_step hB8 hb10; have hS11 := hS0.out _ hB10))
  go_wp2
  go_ret
  exact ⟨rfl, below_step hb0 hB10⟩

end Go.Proofs.YtmppgcijbeipfaaDoor


namespace Go.Proofs.YtmppgcijbeipfaaDoor
open Go.RowKit

set_option maxRecDepth 4000 in
set_option maxHeartbeats 4000000 in
/-- All. -/
theorem step_all (pb : Nat) (vs : List Pv) (i : Nat) (hi : i < vs.length) (n : Int) (id : Nat) (x y a : Int) (w : World) (hP : PlayR w pb vs) (hV : PvAt w vs[i]) : Calls Tryd.prog 6 #[.pointer (some ⟨pb, 0, none⟩), opV 5 (i : Int) n id x y, .int .i64 a] w fun e w' => e = .returned (.bool true) ∧ Below w.heap.size w w' := by
  obtain ⟨w1, hw1⟩ : ∃ w1, w1 = w.alloc (.cells #[.int .i64 5, .int .i64 (i : Int), .int .i64 n, .int .u32 (id : Int), .int .i64 x, .int .i64 y] 31) := ⟨_, rfl⟩
  have hb0 : Below w.heap.size w w1 := by rw [hw1]; exact (Below.refl w.heap.size w).alloc (Nat.le_refl _) _
  have hrow : w1.heap[w.heap.size]? = some (.cells #[.int .i64 5, .int .i64 (i : Int), .int .i64 n, .int .u32 (id : Int), .int .i64 x, .int .i64 y] 31 (0, 0)) := by rw [hw1]; exact heap_alloc_last w _
  obtain ⟨P, hPe⟩ : ∃ P, P = w.heap.size := ⟨_, rfl⟩
  rw [← hPe] at hrow
  obtain ⟨h0, gg, gw, cg, cw, h1, h2, c0, c1, hc⟩ := hP.later hb0
  obtain ⟨c2, c3⟩ := hc i hi
  have hi0 : (0 : Int) ≤ (i : Int) := Int.natCast_nonneg _
  have hi1 : (i : Int) < (vs.length : Int) := Int.ofNat_lt.2 hi
  have hi2 : ¬ (i : Int) < 0 := by omega
  have hi3 : ¬ (i : Int) ≥ (vs.length : Int) := by omega
  have hlt : P < w1.heap.size := (Array.getElem?_eq_some_iff.1 hrow).1
  have r0 : w1.cell? ⟨P, 0, none⟩ = some (.int .i64 5) := cell_of_row _ _ 0 _ _ _ hrow
  have r1 : w1.cell? ⟨P, 1, none⟩ = some (.int .i64 (i : Int)) := cell_of_row _ _ 1 _ _ _ hrow
  have hS0 : Hid (∀ X, Below w1.heap.size w1 X → X.cell? ⟨P, 2, none⟩ = some (.int .i64 n)) := fun X hX => (hX.cell (p := ⟨P, 2, none⟩) hlt).trans (cell_of_row _ _ 2 _ _ _ hrow)
  have hlen0 := pv_len hV
  have hlen := Nat.le_trans hlen0 (show 4294967296 ≤ 5000000000 by decide)
  have hw := hV.1.2.2.2.2
  have hPV : ∀ X, Below w1.heap.size w1 X → PvAt X vs[i] := fun X hX => hV.later (below_step hb0 hX)
  generalize vs[i] = v at *
  have hVV : Hid (∀ X, Below w1.heap.size w1 X → MapT X v.1 v.2.1) := fun X hX => (hPV X hX).1
  obtain ⟨M, hM⟩ : ∃ M, M = (v.2.1.ents 7 0) := ⟨_, rfl⟩
  have hMl : M.length ≤ (v.2.1.ents 7 0).length := by rw [hM]; exact Nat.le_refl _
  obtain ⟨lu, hlu'⟩ : ∃ lu, lu = (v.2.1.ents 7 0).length := ⟨_, rfl⟩
  have hl1 : Hid (∀ X, Below w1.heap.size w1 X → Calls Tryd.prog 19 #[.pointer (some ⟨v.2.2.1, 0, none⟩)] X fun e w' => e = .returned (.int .i64 (lu : Int)) ∧ w' = X) := fun X hX => by rw [hlu']; exact len_rf _ _ _ (hPV X hX).2.rf
  have hlu0 : (0 : Int) ≤ (lu : Int) := Int.natCast_nonneg _
  have hL1 : (lu : Int) ≤ 4294967296 := by omega
  have hrun : Hid (∀ X b, Below w1.heap.size w1 X → IterAt X b v.2.1 0 → Calls Tryd.prog 20 #[iterV b, .int .i64 n, .int .i64 (IntKind.i64.wrap ((lu : Int) + 1))] X fun e w' => ∃ a m c, e = .returned (.slice a m c) ∧ EntsAt w' (.slice a m c) (runL n M) ∧ Below X.heap.size X w') := fun X b hX hI => by
    have h := run_u b 0 v.2.1 hw n ((lu : Int) + 1) ⟨by rw [fromL_zero hw, ← hM]; omega, by omega⟩ X hI (hPV X hX).1.2.2.2.1
    rw [fromL_zero hw, ← hM] at h
    rw [wrI1 hlu0 hL1]
    exact h
  have hlist : Hid (∀ X, Below w1.heap.size w1 X → Calls Tryd.prog 24 #[.pointer (some ⟨v.2.2.1, 0, none⟩)] X fun e w' => ∃ v, e = .returned v ∧ EntsC w' v M ∧ Below X.heap.size X w') := fun X hX => by rw [hM]; exact list_rfc _ _ hlen X (hPV X hX).2.rf
  have hMl2 : Hid (M.length ≤ 5000000000) := by show M.length ≤ 5000000000; omega
  have hRl : Hid ((runL n M).length ≤ 9000000000) := by
    show (runL n M).length ≤ 9000000000
    unfold runL
    split
    · omega
    · rw [List.length_take]; omega
  clear hc hV hP hrow hM hMl hlu' hlen hlen0 hw hPV
  unfold opV
  go_enter Tryd.func6, Tryd.ntmps6
  go_wp2_with fail
  rw [← hw1, ← hPe]
  have hPH : Hid (P = w.heap.size) := hPe
  clear hw1 hPe
  go_quiet (fail)
  go_wp2_with fail
  go_quiet (fail)
  go_wp2_with fail
  go_quiet (fail)
  go_wp2_with fail
  generalize hVe : w1.drewN _ = V
  have hbV : Below w1.heap.size w1 V := by rw [← hVe]; exact below_drewN (Below.refl _ _) _
  clear hVe c0 c1 c2 c3 r0 r1
  have hD := hbV.drew
  have hS := hS0.out _ hD
  go_region_held3 (fun X => X.cell? ⟨P, 2, none⟩ = some (.int .i64 n)) (with_reducible assumption)
    (first
      | (go_at_call 21; refine (all_any _ _ _ (hVV.out _ hD)).mono ?_; rintro e w5 ⟨rfl, hI5, hb5⟩; have hB5 := below_step hD hb5; have hS5 := hS0.out _ hB5)
      | (go_at_call 19; refine (hl1.out _ hB5).mono ?_; rintro e w6 ⟨rfl, rfl⟩)
      | (go_at_call 20; refine (hrun.out _ _ hB5 hI5).mono ?_; rintro e w7 ⟨a7, n7, c7, rfl, hE7, hb7⟩; have hB7 := below_step hB5 hb7; have hS7 := hS0.out _ hB7))
  go_wp2_with fail
  have hD7 := hB7.drew
  have hS8 := hS0.out _ hD7
  have hE7' := hE7.later ((Below.refl w7.heap.size w7).drew)
  clear hrun hl1 hVV hI5 hS hS5 hS7 hE7
  go_region_held3 (fun X => X.cell? ⟨P, 2, none⟩ = some (.int .i64 n)) (with_reducible assumption)
    (first
      | (go_at_call 24; refine (hlist.out _ hD7).mono ?_; rintro e w8 ⟨v8, rfl, hE8, hb8⟩; have hB8 := below_step hD7 hb8; have hS9 := hS0.out _ hB8; have hcut := cut_rf v8 M n hMl2.out _ hE8)
      | (go_at_call 23; refine hcut.mono ?_; rintro e w9 ⟨v9, rfl, hE9, rfl⟩; have hse := same_entries5 _ _ (runL n M) hRl.out _ (hE7'.later hb8) hE9)
      | (go_at_call 22; refine hse.mono ?_; rintro e w10 ⟨rfl, hb10⟩; have hB10 := below_step hB8 hb10; have hS11 := hS0.out _ hB10))
  go_wp2
  go_ret
  exact ⟨rfl, below_step hb0 hB10⟩

end Go.Proofs.YtmppgcijbeipfaaDoor


namespace Go.Proofs.YtmppgcijbeipfaaDoor
open Go.RowKit

set_option maxRecDepth 4000 in
set_option maxHeartbeats 2000000 in
/-- Get. -/
theorem step_get (pb : Nat) (vs : List Pv) (i : Nat) (hi : i < vs.length) (n : Int) (id : Nat) (hid : id < 4294967296) (x y a : Int) (w : World) (hP : PlayR w pb vs) (hV : PvAt w vs[i]) : Calls Tryd.prog 6 #[.pointer (some ⟨pb, 0, none⟩), opV 3 (i : Int) n id x y, .int .i64 a] w fun e w' => e = .returned (.bool true) ∧ Below w.heap.size w w' := by
  obtain ⟨w1, hw1⟩ : ∃ w1, w1 = w.alloc (.cells #[.int .i64 3, .int .i64 (i : Int), .int .i64 n, .int .u32 (id : Int), .int .i64 x, .int .i64 y] 31) := ⟨_, rfl⟩
  have hb0 : Below w.heap.size w w1 := by rw [hw1]; exact (Below.refl w.heap.size w).alloc (Nat.le_refl _) _
  have hrow : w1.heap[w.heap.size]? = some (.cells #[.int .i64 3, .int .i64 (i : Int), .int .i64 n, .int .u32 (id : Int), .int .i64 x, .int .i64 y] 31 (0, 0)) := by rw [hw1]; exact heap_alloc_last w _
  obtain ⟨P, hPe⟩ : ∃ P, P = w.heap.size := ⟨_, rfl⟩
  rw [← hPe] at hrow
  obtain ⟨h0, gg, gw, cg, cw, h1, h2, c0, c1, hc⟩ := hP.later hb0
  obtain ⟨c2, c3⟩ := hc i hi
  have hi0 : (0 : Int) ≤ (i : Int) := Int.natCast_nonneg _
  have hi1 : (i : Int) < (vs.length : Int) := Int.ofNat_lt.2 hi
  have hi2 : ¬ (i : Int) < 0 := by omega
  have hi3 : ¬ (i : Int) ≥ (vs.length : Int) := by omega
  have hlt : P < w1.heap.size := (Array.getElem?_eq_some_iff.1 hrow).1
  have r0 : w1.cell? ⟨P, 0, none⟩ = some (.int .i64 3) := cell_of_row _ _ 0 _ _ _ hrow
  have r1 : w1.cell? ⟨P, 1, none⟩ = some (.int .i64 (i : Int)) := cell_of_row _ _ 1 _ _ _ hrow
  have r3 : w1.cell? ⟨P, 3, none⟩ = some (.int .u32 (id : Int)) := cell_of_row _ _ 3 _ _ _ hrow
  have hS0 : Hid (∀ X, Below w1.heap.size w1 X → X.cell? ⟨P, 3, none⟩ = some (.int .u32 (id : Int))) := fun X hX => (hX.cell (p := ⟨P, 3, none⟩) hlt).trans (cell_of_row _ _ 3 _ _ _ hrow)
  have hgt := rfVal_get hV.1.2.2.2.2 hid
  have hlen := Nat.le_trans (pv_len hV) (show 4294967296 ≤ 5000000000 by decide)
  have hPV : ∀ X, Below w1.heap.size w1 X → PvAt X vs[i] := fun X hX => hV.later (below_step hb0 hX)
  generalize vs[i] = v at *
  have hG1 : Hid (∀ X, Below w1.heap.size w1 X → Calls Tryd.prog 10 #[.pointer (some ⟨v.1, 0, none⟩), .int .u32 (id : Int)] X fun e w' => e = .returned (.tuple #[.agg #[.int .i64 ((v.2.1.get 7 id).getD (0, 0)).1, .int .i64 ((v.2.1.get 7 id).getD (0, 0)).2], .bool (v.2.1.get 7 id).isSome]) ∧ Below X.heap.size X w') := fun X hX => mget_any _ _ _ _ (hPV _ hX).1
  have hG2 : Hid (∀ X, Below w1.heap.size w1 X → Calls Tryd.prog 18 #[.pointer (some ⟨v.2.2.1, 0, none⟩), .int .u32 (id : Int)] X fun e w' => e = .returned (.tuple #[.agg #[.int .i64 ((v.2.1.get 7 id).getD (0, 0)).1, .int .i64 ((v.2.1.get 7 id).getD (0, 0)).2], .bool (v.2.1.get 7 id).isSome]) ∧ Below X.heap.size X w') := fun X hX => by have h := get_rf v.2.2.1 id _ hlen X (hPV _ hX).2.rf; rw [hgt] at h; exact h
  clear hgt hlen hPV hc hV hP hrow
  generalize (v.2.1.get 7 id).isSome = o at *
  generalize ((v.2.1.get 7 id).getD (0, 0)).1 = p at *
  generalize ((v.2.1.get 7 id).getD (0, 0)).2 = q at *
  unfold opV
  go_enter Tryd.func6, Tryd.ntmps6
  go_wp2_with fail
  rw [← hw1, ← hPe]
  have hPH : Hid (P = w.heap.size) := hPe
  clear hw1 hPe
  go_quiet (fail)
  go_wp2_with fail
  go_quiet (fail)
  go_wp2_with fail
  go_quiet (fail)
  go_wp2_with (go_at_call 10; fail)
  refine (hG1.out _ (below_drewN (Below.refl _ _) _)).mono ?_
  rintro e w5 ⟨rfl, hb5⟩
  have hB5 := below_step (below_drewN (Below.refl w1.heap.size w1) _) hb5
  clear hb5 c0 c1 c2 c3 r0 r1 r3
  have hB6 := hB5.alloc hB5.size (.cells #[.int .i64 p, .int .i64 q] 29)
  have s6 := hS0.out _ hB6
  have t6 := heap_alloc_last w5 (.cells #[.int .i64 p, .int .i64 q] 29)
  go_wp2_with (go_at_call 18; fail)
  refine (hG2.out _ hB6).mono ?_
  rintro e w7 ⟨rfl, hb7⟩
  have hB7 := below_step hB6 hb7
  have hl5 : w5.heap.size < (w5.alloc (.cells #[.int .i64 p, .int .i64 q] 29)).heap.size := by simp
  have hb8 := (Below.refl w7.heap.size w7).alloc (Nat.le_refl _) (.cells #[.int .i64 p, .int .i64 q] 29)
  have hl7 := Nat.lt_of_lt_of_le hl5 hb7.size
  have v0 : (w7.alloc (.cells #[.int .i64 p, .int .i64 q] 29)).cell? ⟨w5.heap.size, 0, none⟩ = some (.int .i64 p) := ((hb8.cell (p := ⟨w5.heap.size, 0, none⟩) hl7).trans (hb7.cell (p := ⟨w5.heap.size, 0, none⟩) hl5)).trans (cell_of_row _ _ 0 _ _ _ t6)
  have v1 : (w7.alloc (.cells #[.int .i64 p, .int .i64 q] 29)).cell? ⟨w5.heap.size, 1, none⟩ = some (.int .i64 q) := ((hb8.cell (p := ⟨w5.heap.size, 1, none⟩) hl7).trans (hb7.cell (p := ⟨w5.heap.size, 1, none⟩) hl5)).trans (cell_of_row _ _ 1 _ _ _ t6)
  have t8 := heap_alloc_last w7 (.cells #[.int .i64 p, .int .i64 q] 29)
  have x0 : (w7.alloc (.cells #[.int .i64 p, .int .i64 q] 29)).cell? ⟨w7.heap.size, 0, none⟩ = some (.int .i64 p) := cell_of_row _ _ 0 _ _ _ t8
  have x1 : (w7.alloc (.cells #[.int .i64 p, .int .i64 q] 29)).cell? ⟨w7.heap.size, 1, none⟩ = some (.int .i64 q) := cell_of_row _ _ 1 _ _ _ t8
  have hB8 := below_step hB7 hb8
  have ho : (o == o) = true := by simp
  have hsv := same_any p q p q true (by simp) (w7.alloc (.cells #[.int .i64 p, .int .i64 q] 29))
  clear hb7 hb8 t6 t8 hl5 hl7 s6 hB5 hB6 hB7
  go_wp2_with (go_at_call 12; fail)
  refine hsv.mono ?_
  rintro e w9 ⟨rfl, hb9⟩
  have hB9 := below_step hb0 (below_step hB8 hb9)
  go_wp2
  go_ret
  exact ⟨rfl, hB9⟩

end Go.Proofs.YtmppgcijbeipfaaDoor


namespace Go.Proofs.YtmppgcijbeipfaaDoor
open Go.RowKit

set_option maxRecDepth 4000 in
set_option maxHeartbeats 2000000 in
/-- Len. -/
theorem step_len (pb : Nat) (vs : List Pv) (i : Nat) (hi : i < vs.length) (n : Int) (id : Nat) (x y a : Int) (w : World) (hP : PlayR w pb vs) (hV : PvAt w vs[i]) : Calls Tryd.prog 6 #[.pointer (some ⟨pb, 0, none⟩), opV 4 (i : Int) n id x y, .int .i64 a] w fun e w' => e = .returned (.bool true) ∧ Below w.heap.size w w' := by
  have hb0 := (Below.refl w.heap.size w).alloc (Nat.le_refl _) (.cells #[.int .i64 4, .int .i64 (i : Int), .int .i64 n, .int .u32 (id : Int), .int .i64 x, .int .i64 y] 31)
  obtain ⟨h0, gg, gw, cg, cw, h1, h2, c0, c1, hc⟩ := hP.later hb0
  obtain ⟨c2, c3⟩ := hc i hi
  have hi0 : (0 : Int) ≤ (i : Int) := Int.natCast_nonneg _
  have hi1 : (i : Int) < (vs.length : Int) := Int.ofNat_lt.2 hi
  have hi2 : ¬ (i : Int) < 0 := by omega
  have hi3 : ¬ (i : Int) ≥ (vs.length : Int) := by omega
  have hVV : Hid (∀ X, Below w.heap.size w X → PvAt X vs[i]) := fun X hX => hV.later hX
  clear hc hV hP
  generalize vs[i] = v at *
  unfold opV
  go_enter Tryd.func6, Tryd.ntmps6
  go_wp2_with fail
  go_quiet (fail)
  go_wp2_with fail
  go_quiet (fail)
  go_wp2_with fail
  go_quiet (fail)
  go_wp2_with (first | (go_at_call 13; refine (len_any _ _ _ (hVV.out _ (below_drewN hb0 _)).1).mono ?_; rintro e w5 ⟨rfl, rfl⟩) | (go_at_call 19; refine (len_rf _ _ _ (hVV.out _ (below_drewN hb0 _)).2.rf).mono ?_; rintro e w6 ⟨rfl, rfl⟩))
  go_ret
  exact ⟨by simp, below_drewN hb0 _⟩

end Go.Proofs.YtmppgcijbeipfaaDoor


/- A step, whatever its kind; the beginning. -/
namespace Go.Proofs.YtmppgcijbeipfaaDoor
open Go.RowKit

theorem step_any (lo pb : Nat) (vg vw : Value) (vs : List Pv) (hn : 0 < vs.length) (k m n : Int) (id : Nat) (hid : id < 4294967296) (x y a : Int) (w : World) (hO : PlayO w lo pb vg vw vs) (hV : Pvs w a vs) (hlo : lo ≤ w.heap.size) (hl : (vs.length + 1) * 8 ≤ 140737488355328) : Calls Tryd.prog 6 #[.pointer (some ⟨pb, 0, none⟩), opV k m n id x y, .int .i64 a] w fun e w' => e = .returned (.bool true) ∧ StepQ lo pb vs a w w' := by
  have hR := hO.read hn
  have rd : ∀ {e : Ending} {w' : World}, (e = .returned (.bool true) ∧ Below w.heap.size w w') → e = .returned (.bool true) ∧ StepQ lo pb vs a w w' := fun h => ⟨h.1, stepQ_read hO hV hlo h.2⟩
  by_cases hm : m < 0 ∨ (vs.length : Int) ≤ m
  · exact (step_out pb vs k m n id x y a hm w hR).mono fun e w' h => rd h
  obtain ⟨i, rfl⟩ : ∃ i : Nat, m = (i : Int) := ⟨m.toNat, by omega⟩
  have hi : i < vs.length := by omega
  have hVi := hV.at' _ (List.getElem_mem hi)
  by_cases h1 : k = 1
  · subst h1; exact step_put lo pb vg vw vs i hi n id hid x y a w hO hV hlo hl
  by_cases h2 : k = 2
  · subst h2; exact step_drop lo pb vg vw vs i hi n id hid x y a w hO hV hlo hl
  by_cases h3 : k = 3
  · subst h3; exact (step_get pb vs i hi n id hid x y a w hR hVi).mono fun e w' h => rd h
  by_cases h4 : k = 4
  · subst h4; exact (step_len pb vs i hi n id x y a w hR hVi).mono fun e w' h => rd h
  by_cases h5 : k = 5
  · subst h5; exact (step_all pb vs i hi n id x y a w hR hVi).mono fun e w' h => rd h
  by_cases h6 : k = 6
  · subst h6; exact (step_from pb vs i hi n id hid x y a w hR hVi).mono fun e w' h => rd h
  by_cases hnn : n < 0 ∨ (vs.length : Int) ≤ n
  · exact (step_nout pb vs i hi k n (by omega) hnn id x y a w hR).mono fun e w' h => rd h
  obtain ⟨j, rfl⟩ : ∃ j : Nat, n = (j : Int) := ⟨n.toNat, by omega⟩
  have hj : j < vs.length := by omega
  by_cases h7 : k = 7
  · subst h7; exact (step_diff pb vs i j hi hj id x y a a w hR hV).mono fun e w' h => rd h
  by_cases h8 : k = 8
  · subst h8; exact (step_shared pb vs i j hi hj id x y a a w hR hV).mono fun e w' h => rd h
  by_cases h9 : k = 9
  · subst h9; exact (step_first pb vs i j hi hj id x y a a w hR hV).mono fun e w' h => rd h
  exact (step_else pb vs i j hi hj k (by omega) id x y a w hR).mono fun e w' h => rd h

theorem rs_empty {W : World} {b : Nat} (h : RfAt W b []) (σ : Nat → Nat → Int) : RsAt W b [] σ := by
  obtain ⟨vi, vv, vs, st, h0, h1, h2, h3, h4, h5⟩ := h
  exact ⟨vi, vv, vs, st, h0, h1, h2, h3, h4, h5, fun i hi => by simp at hi⟩
/-- What begin leaves. -/
def BegP (w : World) (pb : Nat) (w' : World) : Prop := ∃ vg vw x, PlayO w' w.heap.size pb vg vw [x] ∧ Pvs w' 1 [x] ∧ Below w.heap.size w w'

set_option maxRecDepth 4000 in
set_option maxHeartbeats 1000000 in
theorem begin_any (w : World) : Calls Tryd.prog 4 #[] w fun e w' => ∃ pb, e = .returned (.pointer (some ⟨pb, 0, none⟩)) ∧ BegP w pb w' := by
  have he := empty_any w
  go_enter Tryd.func4, Tryd.ntmps4
  go_wp2_with (go_at_call 7; fail)
  refine he.mono ?_
  rintro e w1 ⟨rfl, hM, hb1⟩
  have hb2 := (Below.refl w1.heap.size w1).alloc (Nat.le_refl _) (.cells #[.pointer (some ⟨w.heap.size, 0, none⟩)] 33)
  have hg2 := World.ownsRow_lit (base := w.heap.size) (e := 33) (size := 1) w1 #[.pointer (some ⟨w.heap.size, 0, none⟩)] 1 hb1.size (by unfold maxLen; omega) rfl
  have hr := empty_rf (w1.alloc (.cells #[.pointer (some ⟨w.heap.size, 0, none⟩)] 33))
  have hlt := hM.1
  clear he
  go_wp2_with (go_at_call 8; fail)
  refine hr.mono ?_
  rintro e w3 ⟨rfl, hR, hb3⟩
  have hs1 : (w1.alloc (.cells #[.pointer (some ⟨w.heap.size, 0, none⟩)] 33)).heap.size = w1.heap.size + 1 := by simp
  have hs3 := hb3.size
  obtain ⟨rb, hrb⟩ : ∃ rb, rb = (w1.alloc (.cells #[.pointer (some ⟨w.heap.size, 0, none⟩)] 33)).heap.size := ⟨_, rfl⟩
  rw [← hrb] at hR ⊢
  have hb4 := (Below.refl w3.heap.size w3).alloc (Nat.le_refl _) (.cells #[.pointer (some ⟨rb, 0, none⟩)] 36)
  have hg4 := World.ownsRow_lit (base := w.heap.size) (e := 36) (size := 1) w3 #[.pointer (some ⟨rb, 0, none⟩)] 1 (by have := hb1.size; omega) (by unfold maxLen; omega) rfl
  have hb5 := (Below.refl (w3.alloc (.cells #[.pointer (some ⟨rb, 0, none⟩)] 36)).heap.size (w3.alloc (.cells #[.pointer (some ⟨rb, 0, none⟩)] 36))).alloc (Nat.le_refl _) (.cells #[.slice (some ⟨w1.heap.size, 0, none⟩) 1 1, .slice (some ⟨w3.heap.size, 0, none⟩) 1 1] 40)
  have hrow := heap_alloc_last (w3.alloc (.cells #[.pointer (some ⟨rb, 0, none⟩)] 36)) (.cells #[.slice (some ⟨w1.heap.size, 0, none⟩) 1 1, .slice (some ⟨w3.heap.size, 0, none⟩) 1 1] 40)
  have hB5 := below_step (below_step (below_step (below_step hb1 hb2) hb3) hb4) hb5
  have hfin : Hid (BegP w (w3.alloc (.cells #[.pointer (some ⟨rb, 0, none⟩)] 36)).heap.size ((w3.alloc (.cells #[.pointer (some ⟨rb, 0, none⟩)] 36)).alloc (.cells #[.slice (some ⟨w1.heap.size, 0, none⟩) 1 1, .slice (some ⟨w3.heap.size, 0, none⟩) 1 1] 40))) := by
    have hs4 := hb4.size
    refine ⟨_, _, (w.heap.size, .nil, rb, fun _ _ => 0), ⟨hrow, own_laterB (own_laterB (own_laterB hg2 hb3) hb4) hb5, own_laterB hg4 hb5, by omega, fun x hx => ?_⟩, ⟨fun x hx => ?_, fun x hx l q => ?_, fun x hx y hy => ?_⟩, hB5⟩
    · rw [List.mem_singleton.1 hx]
      refine ⟨by show w.heap.size ≠ _; omega, fun e => ?_, fun e => ?_⟩
      · have : w1.heap.size = w.heap.size := Option.some.inj e
        omega
      · have : w3.heap.size = w.heap.size := Option.some.inj e
        omega
    · rw [List.mem_singleton.1 hx]
      exact ⟨((((hM.later hb2).later hb3).later hb4).later hb5), rs_empty ((hR.later hb4).later hb5) _⟩
    · rw [List.mem_singleton.1 hx]
      show (0 : Int) < 1
      omega
    · rw [List.mem_singleton.1 hx, List.mem_singleton.1 hy]
      exact keyed_self _ _
  have hrbH : Hid (rb = (w1.alloc (.cells #[.pointer (some ⟨w.heap.size, 0, none⟩)] 33)).heap.size) := hrb
  clear hrb hrow hg2 hg4 hR hM hb1 hb2 hb3 hb4 hb5 hB5 hs1 hs3 hlt hr
  go_wp2
  go_ret
  exact ⟨_, rfl, by have h := hfin.out; rw [show (w3.alloc (.cells #[.pointer (some ⟨rb, 0, none⟩)] 36)).heap.size = w3.heap.size + 1 from by simp] at h; exact h⟩

end Go.Proofs.YtmppgcijbeipfaaDoor


namespace Go.Proofs.YtmppgcijbeipfaaDoor
open Go.RowKit

set_option maxRecDepth 4000 in
set_option maxHeartbeats 2000000 in
theorem tall_walk (v : Value) (L : List OpT) (w : World) (h : OpsT w v L) : Calls Tryd.prog 3 #[v] w fun e w' => e = .returned (.bool true) ∧ Below w.heap.size w w' := by
  obtain ⟨a, cap, rfl, hL, hd⟩ := h
  have hbg := begin_any w
  go_enter Tryd.func3, Tryd.ntmps3
  go_wp2_with (go_at_call 4; fail)
  refine hbg.mono ?_
  rintro e w1 ⟨pb, rfl, hP1⟩
  have hkn := known_true w1
  clear hbg
  go_wp2_with (go_at_call 5; fail)
  refine hkn.mono ?_
  rintro e w2 ⟨rfl, hb2⟩
  have hst : ∃ vg vw vs, PlayO w2 w.heap.size pb vg vw vs ∧ Pvs w2 1 vs ∧ 0 < vs.length ∧ vs.length ≤ 1 ∧ Below w.heap.size w w2 := by
    obtain ⟨vg, vw, x, h1, h2, h3⟩ := hP1
    exact ⟨vg, vw, [x], h1.later hb2, h2.later hb2 (by omega), by simp, by simp, below_step h3 hb2⟩
  clear hkn hP1 hb2
  go_wp2
  go_loopw [4] (fun iv W => ∃ (j : Nat), j ≤ L.length ∧ iv = .int .i64 (j : Int) ∧ ∃ vg vw vs, PlayO W w.heap.size pb vg vw vs ∧ Pvs W ((j : Int) + 1) vs ∧ 0 < vs.length ∧ vs.length ≤ j + 1 ∧ Below w.heap.size w W) (fun iv _ => L.length - (intOf iv).toNat)
  case atStart =>
    obtain ⟨vg, vw, vs, h1, h2, h3, h4, h5⟩ := hst
    exact ⟨0, by omega, rfl, vg, vw, vs, h1, h2, h3, by omega, h5⟩
  case round =>
    obtain ⟨j, hj, rfl, vg, vw, vs, hO, hV, hn, hvl, hB⟩ := hrel
    clear hst
    by_cases hlt : j < L.length
    · have hlt' : (j : Int) < (L.length : Int) := by omega
      have hltd : decide ((j : Int) < (L.length : Int)) = true := decide_eq_true hlt'
      have hj0 : (0 : Int) ≤ (j : Int) := by omega
      rcases hd with h0 | ⟨g, off, rfl, hg, hc⟩
      · rw [h0] at hlt; simp at hlt
      obtain ⟨hid, q0, q1, q2, q3, q4, q5⟩ := hc j hlt
      clear hc
      generalize L[j] = o at *
      obtain ⟨k, m, n, id, x, y⟩ := o
      simp only at hid q0 q1 q2 q3 q4 q5
      have hs := step_any w.heap.size pb vg vw vs hn k m n id hid x y ((j : Int) + 1) wr hO hV hB.size (by omega)
      have r0 := (hB.cell (p := ⟨g, off + j * 6, none⟩) hg).trans q0
      have r1 := (hB.cell (p := ⟨g, off + j * 6 + 1, none⟩) hg).trans q1
      have r2 := (hB.cell (p := ⟨g, off + j * 6 + 2, none⟩) hg).trans q2
      have r3 := (hB.cell (p := ⟨g, off + j * 6 + 3, none⟩) hg).trans q3
      have r4 := (hB.cell (p := ⟨g, off + j * 6 + 4, none⟩) hg).trans q4
      have r5 := (hB.cell (p := ⟨g, off + j * 6 + 5, none⟩) hg).trans q5
      clear q0 q1 q2 q3 q4 q5 hO hV
      unfold opV at hs
      go_wp2_with (go_at_call 6; fail)
      trace_state
      refine hs.mono ?_
      rintro e w5 ⟨rfl, vg', vw', vs', hO5, hV5, h51, h52, hb5⟩
      have hB5 := hB.trans hb5
      clear hs
      go_wp2
      go_roundw
      case rel => exact ⟨j + 1, by omega, by go_num, vg', vw', vs', hO5, by rw [show (((j + 1 : Nat) : Int) + 1) = (j : Int) + 1 + 1 by omega]; exact hV5, by omega, by omega, hB5⟩
      case measure => simp [intOf]; omega
    · have hlt' : ¬ (j : Int) < (L.length : Int) := by omega
      have hltd : decide ((j : Int) < (L.length : Int)) = false := decide_eq_false hlt'
      go_wp2
      go_ret
      exact ⟨rfl, hB⟩

end Go.Proofs.YtmppgcijbeipfaaDoor
