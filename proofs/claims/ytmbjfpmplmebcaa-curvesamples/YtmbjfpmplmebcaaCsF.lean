import Derived.Test.YtmbjfpmplmebcaaCsE
namespace Go.Proofs.Ytmbjfpmplmebcaa.CF
open Go.RowKit
attribute [local go_sem] run_store_float

theorem xsL_get (f s : Int) (n k : Nat) (h : k < (xsL f s n).length) : (xsL f s n)[k] = f + (k : Int) * s := by simp [xsL]
theorem grown_cell {W W' : World} {r : Option Nat} (hg : W.grownBy W' r) {b o : Nat} (hl : b < W.heap.size) (hne : r ≠ some b) : W'.cell? ⟨b, o, none⟩ = W.cell? ⟨b, o, none⟩ := by
  have := hg.block b hl hne.symm
  simp only [World.cell?, this]
theorem xs_later {w w' : World} {a : Option Addr} {xs : List Int} (h : XsAt w a xs) {n : Nat} (hb : Below n w w') (hn : w.heap.size ≤ n) : XsAt w' a xs := by
  rcases h with h | ⟨b, off, ha, hlt, hc⟩
  · exact .inl h
  · exact .inr ⟨b, off, ha, Nat.lt_of_lt_of_le hlt hb.size, fun i hi => (hb.cell (p := ⟨b, off + i, none⟩) (Nat.lt_of_lt_of_le hlt hn)).trans (hc i hi)⟩
theorem pt_of_own {w : World} {base n : Nat} {e : TypeId} {v : Value} {D : Dots} (h : w.ownsRow base e 2 v n (ptV D)) (hn : n = D.length) : ∃ a c, v = .slice a D.length c ∧ PtAt w a D := by
  subst hn
  have h0 := h
  obtain ⟨_, ⟨rfl, hn⟩ | ⟨g, cap, cur, rfl, hb, hc, _⟩⟩ := h0
  · have : D = [] := List.eq_nil_of_length_eq_zero hn
    subst this
    exact ⟨none, 0, rfl, .inl rfl⟩
  · refine ⟨_, _, rfl, .inr ⟨g, 0, rfl, (h.lt g rfl).2, fun i hi => ?_⟩⟩
    obtain ⟨h1, h2⟩ := ptV_get D i hi
    have hl : (ptV D).length = D.length * 2 := h.1
    rw [Nat.zero_add]
    exact ⟨(h.cellAt (i * 2) (by omega)).trans h1, (h.cellAt (i * 2 + 1) (by omega)).trans h2⟩
theorem SS.new {W : World} {V : Nat} {av : Option Addr} {cv : Nat} {vs : List (Int × Int)} (hV : W.heap[V]? = some (.cells #[.slice av vs.length cv] 22 (0, 0))) : SS W W.heap.size V av cv vs [] [] (.slice none 0 0) (W.alloc (.cells #[.slice none 0 0] 23)) := by
  have hb : Below W.heap.size W (W.alloc (.cells #[.slice none 0 0] 23)) := (Below.refl _ _).alloc (Nat.le_refl _) _
  exact ⟨hb, ⟨.slice none 0 0, heap_new W _, World.ownsRow_nil _ _ _ _⟩, (hb.block V (Array.getElem?_eq_some_iff.1 hV).1).trans hV, World.ownsRow_nil _ _ _ _⟩
set_option maxRecDepth 8000 in
set_option maxHeartbeats 4000000 in
theorem samples_walk (f s n : Int) (vs : List (Int × Int)) (hvl : vs.length ≤ 9223372036854775806) (hvr : ∀ k, -9223372036854775808 ≤ (pickV vs k).2 ∧ (pickV vs k).2 ≤ 9223372036854775807) (av : Option Addr) (cv : Nat) (W : World) (hvs : VsAt W av vs) : Calls Try.prog 3 #[.int .i64 f, .int .i64 s, .int .i64 n, .slice av vs.length cv] W fun e w' => e = .returned (.bool true) ∧ Below W.heap.size W w' := by
  obtain ⟨i0, hi, hz0, hz1, hz2⟩ := info_parts infoR
  obtain ⟨N, en, hN, hxr, hXs, hSm⟩ := both_way f s n vs hvl hvr
  obtain ⟨W1, hW1⟩ : ∃ X, W.alloc (.cells #[.slice av vs.length cv] 22) = X := ⟨_, rfl⟩
  have hBW1 : Below W.heap.size W W1 := by rw [← hW1]; exact (Below.refl _ _).alloc (Nat.le_refl _) _
  have hV1 : W1.heap[W.heap.size]? = some (.cells #[.slice av vs.length cv] 22 (0, 0)) := by rw [← hW1]; exact heap_new W _
  have hX1 := hXs W1
  clear hXs
  go_enter Try.func3, Try.ntmps3
  go_wp2_with (go_at_call 9; fail)
  refine hX1.mono ?_
  clear hX1
  rintro e W2 ⟨xa, xc, rfl, hxs2, hB2⟩
  have hV2 : W2.heap[W.heap.size]? = some (.cells #[.slice av vs.length cv] 22 (0, 0)) := (hB2.block _ (Array.getElem?_eq_some_iff.1 hV1).1).trans hV1
  have hBW2 : Below W.heap.size W W2 := hBW1.trans (hB2.mono hBW1.size)
  have hvs2 := hvs.later hBW2 (Nat.le_refl _)
  have hsm := hSm W2 W2.heap.size W.heap.size av cv _ (Nat.le_refl _) hvs2 (SS.new hV2)
  clear hSm hV1 hB2 hBW1 hW1
  go_wp2_with (go_at_call 11; fail)
  refine hsm.mono ?_
  clear hsm
  rintro e w5 ⟨pv, rfl, hS⟩
  obtain ⟨pa, pc, rfl, hpt⟩ := pt_of_own hS.p rfl
  obtain ⟨v0, hA5, ho5⟩ := hS.a
  obtain ⟨aa, ac, rfl, hask⟩ := xs_of_own ho5
  rw [xsL_len] at hA5
  have hxs5 := xs_later hxs2 hS.bel (Nat.le_refl _)
  have hvs5 := hvs2.later hS.bel (Nat.le_refl _)
  have hBe5 : Below W.heap.size W w5 := hBW2.trans (hS.bel.mono hBW2.size)
  have hV5 := hS.v
  have hpl := ptsD_len f s vs N
  have hO := ptsD_ok (vs := vs) hxr N (Nat.le_refl _)
  have hAl : W2.heap.size < w5.heap.size := (Array.getElem?_eq_some_iff.1 hA5).1
  have hVl : W.heap.size < w5.heap.size := (Array.getElem?_eq_some_iff.1 hV5).1
  have cA : Hid (∀ X, Below w5.heap.size w5 X → X.cell? ⟨W2.heap.size, 0, none⟩ = some (.slice aa N ac)) := ⟨fun X hX => (hX.cell (p := ⟨W2.heap.size, 0, none⟩) hAl).trans (by rw [cell_of_row _ _ 0 _ _ _ hA5]; rfl)⟩
  have cV : Hid (∀ X, Below w5.heap.size w5 X → X.cell? ⟨W.heap.size, 0, none⟩ = some (.slice av vs.length cv)) := ⟨fun X hX => (hX.cell (p := ⟨W.heap.size, 0, none⟩) hVl).trans (by rw [cell_of_row _ _ 0 _ _ _ hV5]; rfl)⟩
  clear hS hA5 ho5 hV2 hV5 hxs2 hvs2 hvs hBW2
  go_upto_block 0 with fail
  go_cut [12] (fun wv wx => ∃ a c, wv = .slice a (ptsD f s vs N).length c ∧ RtAt wx a (ptsD f s vs N) ∧ Below w5.heap.size w5 wx)
  case first =>
    clear hpt hask hO cA
    go_wp2_with fail
    go_loopw [12, 16] (fun wv x wr => ∃ k : Nat, k ≤ N ∧ x = .int .i64 (k : Int) ∧ wr.ownsRow w5.heap.size 37 2 wv (ptsD f s vs k).length (rtV (ptsD f s vs k)) ∧ Below w5.heap.size w5 wr) (fun _ x _ => N - (intOf x).toNat)
    case atStart => exact ⟨0, by omega, rfl, World.ownsRow_nil _ _ _ _, Below.refl _ _⟩
    case round =>
      obtain ⟨k, hk, rfl, ho, hB⟩ := hrel
      by_cases hlt : k < N
      · have hlt' : (k : Int) < (N : Int) := by omega
        have cv0 := cV.out _ hB
        by_cases hv : vs.length = 0
        · have hv' : ¬ (0 : Int) < (vs.length : Int) := by omega
          have hve : vs = [] := List.eq_nil_of_length_eq_zero hv
          have e0 : ptsD f s vs k = ptsD f s vs N := by rw [hve, ptsD_nil, ptsD_nil]
          rw [e0] at ho
          obtain ⟨a, c, rfl, hR⟩ := rt_of_own ho rfl
          clear hv hve e0 cV
          go_wp2
          go_meet
          exact ⟨a, c, rfl, hR, hB⟩
        · have hv' : (0 : Int) < (vs.length : Int) := by omega
          obtain ⟨b, off, rfl, hbl, hc⟩ := hvs5.resolve_left (fun e => by rw [e] at hv; simp at hv)
          obtain ⟨bx, ox, rfl, hxl, hxc⟩ := hxs5.resolve_left (fun e => by have := xsL_len f s N; rw [e] at this; simp at this; omega)
          obtain ⟨j, hj⟩ : ∃ j, j = k % vs.length := ⟨_, rfl⟩
          have hjl : j < vs.length := by rw [hj]; exact Nat.mod_lt _ (by omega)
          obtain ⟨k0, k1⟩ := hc j hjl
          have hx0 := hxc k (by rw [xsL_len]; exact hlt)
          rw [xsL_get] at hx0
          have hpk : pickV vs k = (vs[j].1, vs[j].2) := by unfold pickV; rw [if_neg hv, ← hj]; simp [List.getD, hjl]
          have hpd : Hid (ptsD f s vs (k + 1) = ptsD f s vs k ++ if (pickV vs k).1 = 1 ∨ (pickV vs k).1 = 2 then [(f + (k : Int) * s, wholeN (pickV vs k).2)] else []) := ⟨rfl⟩
          have hvr2 := hvr k
          rw [hpk] at hpd hvr2
          have hwa := whole_any vs[j].2 hvr2.1 hvr2.2
          generalize vs[j].1 = m1 at *
          generalize vs[j].2 = m2 at *
          have hrem : IntKind.i64.wrap ((k : Int).tmod (vs.length : Int)) = (j : Int) := by
            rw [Int.tmod_eq_emod_of_nonneg (by omega), ← Int.natCast_emod, ← hj, IntKind.wrap_i64]
            omega
          have hrem2 : (k : Int).tmod (vs.length : Int) = (j : Int) := by rw [Int.tmod_eq_emod_of_nonneg (by omega), ← Int.natCast_emod, ← hj]
          have hrem3 : (k : Int) % (vs.length : Int) = (j : Int) := by rw [← Int.natCast_emod, ← hj]
          have hk0 : (0 : Int) ≤ (k : Int) := by omega
          have hj0 : (0 : Int) ≤ (j : Int) := by omega
          have hj1 : (j : Int) < (vs.length : Int) := by omega
          have hvn : (vs.length : Int) ≠ 0 := by omega
          have hS0 : ∀ X, Below w5.heap.size w5 X → X.cell? ⟨W.heap.size, 0, none⟩ = some (.slice (some ⟨b, off, none⟩) vs.length cv) ∧ X.cell? ⟨b, off + j * 2, none⟩ = some (.int .i64 m1) ∧ X.cell? ⟨b, off + j * 2 + 1, none⟩ = some (.int .i64 m2) := fun X hX => ⟨cV.out _ hX, (hX.cell (p := ⟨b, off + j * 2, none⟩) hbl).trans k0, (hX.cell (p := ⟨b, off + j * 2 + 1, none⟩) hbl).trans k1⟩
          have hT0 : ∀ X, Below w5.heap.size w5 X → X.cell? ⟨bx, ox + k, none⟩ = some (.int .i64 (f + (k : Int) * s)) := fun X hX => (hX.cell (p := ⟨bx, ox + k, none⟩) hxl).trans hx0
          have hBD : Below w5.heap.size w5 wr.drew := hB.drew
          have hS1 := hS0 _ hBD
          clear hvs5 hxs5 hc hxc k0 k1 hx0 hpk hj hvr hvr2 cV
          go_upto_region 9 with fail
          go_region_held3 (fun X => X.cell? ⟨W.heap.size, 0, none⟩ = some (.slice (some ⟨b, off, none⟩) vs.length cv) ∧ X.cell? ⟨b, off + j * 2, none⟩ = some (.int .i64 m1) ∧ X.cell? ⟨b, off + j * 2 + 1, none⟩ = some (.int .i64 m2)) (first | (with_reducible assumption) | (exact hS0 _ (Below.alloc hBD hBD.size _))) (fail)
          have hsz := hB.size
          obtain ⟨X3, hX3⟩ : ∃ X, (wr.alloc (.cells #[.int .i64 m1, .int .i64 m2] 28)).drew = X := ⟨_, rfl⟩
          have t0 : X3.cell? ⟨wr.heap.size, 0, none⟩ = some (.int .i64 m1) := by rw [← hX3]; simp
          have t1 : X3.cell? ⟨wr.heap.size, 1, none⟩ = some (.int .i64 m2) := by rw [← hX3]; simp
          have hX3l : wr.heap.size < X3.heap.size := World.block_lt_of_cell? _ _ t0
          have hoX : X3.ownsRow w5.heap.size 37 2 u12 (ptsD f s vs k).length (rtV (ptsD f s vs k)) := by rw [← hX3]; exact (ho.alloc _).drew
          have hBX : Below w5.heap.size w5 X3 := by rw [← hX3]; exact (hB.alloc hB.size _).drew
          have hpl2 := ptsD_len f s vs k
          have hun : Hid (u12.ownBlock ≠ some wr.heap.size) := ⟨fun e => absurd (ho.lt _ e).2 (Nat.lt_irrefl _)⟩
          rw [hX3]
          clear hX3 hS0 hS1 hBD hB ho hbl
          by_cases c1 : m1 = 1
          · have c1' : (m1 == 1) = true := beq_iff_eq.2 c1
            have hpe : Hid (ptsD f s vs (k + 1) = ptsD f s vs k ++ [(f + (k : Int) * s, wholeN m2)]) := ⟨by rw [hpd.out, if_pos (.inl c1)]⟩
            clear hpd
            generalize wholeN m2 = U at *
            have hoA := hoX.drew.alloc (.cells #[.int .i64 (f + (k : Int) * s), .int .u32 (U : Int)] 37)
            have hBXD := hBX.drew
            have hBA : Below w5.heap.size w5 (X3.drew.alloc (.cells #[.int .i64 (f + (k : Int) * s), .int .u32 (U : Int)] 37)) := hBXD.alloc hBXD.size _
            have hlv := Hid.mk (fun (j : Nat) hj => (hoX.lt j hj).1)
            have q0 : ∀ X, Below w5.heap.size w5 X → Below X3.heap.size X3 X → X.cell? ⟨bx, ox + k, none⟩ = some (.int .i64 (f + (k : Int) * s)) ∧ X.cell? ⟨wr.heap.size, 1, none⟩ = some (.int .i64 m2) := fun X hX hY => ⟨hT0 _ hX, (hY.cell (p := ⟨wr.heap.size, 1, none⟩) hX3l).trans t1⟩
            have q1 := q0 _ hBXD (Below.refl _ _).drew
            have hqA := q0 _ hBA ((Below.refl _ _).drew.alloc (Nat.le_refl _) _)
            have hAl := Hid.mk (World.block_lt_of_cell? _ _ hqA.2)
            clear hX3l
            go_upto_region 11 with fail
            go_region_held3 (fun X => X.cell? ⟨bx, ox + k, none⟩ = some (.int .i64 (f + (k : Int) * s)) ∧ X.cell? ⟨wr.heap.size, 1, none⟩ = some (.int .i64 m2)) (first | (with_reducible assumption) | (exact q0 _ (Below.alloc hBXD hBXD.size _) ((Below.refl _ _).drew.alloc (Nat.le_refl _) _))) (first | (go_at_call 12; refine (hwa _).mono ?_; rintro _ _ ⟨rfl, rfl⟩) | ((refine step_append_own (P := Try.prog) _ rfl _ _ 26 rfl w5.heap.size 37 i0 _ 2 16 Try.underlying26 hi hz0 hz1 hz2 rfl (by decide) _ (ptsD f s vs k).length (rtV (ptsD f s vs k)) rfl hoA ⟨X3.heap.size, 0, none⟩ 1 1 [.int .i64 (f + (k : Int) * s), .int .u32 (U : Int)] rfl rfl (lit_at X3.drew _ _) (by simp [Value.oneCell']) (by unfold maxLen; omega) (by omega) hBA.size ?_; intro v' w4 hown' hgrow; have hB4 := hBA.grown hgrow hBA.size hlv.out; have hS4 : _ ∧ _ := ⟨hT0 _ hB4, (grown_cell hgrow (o := 1) hAl.out hun.out).trans hqA.2⟩)))
            go_wp2
            go_roundw
            case rel => exact ⟨k + 1, by omega, by go_num, by rw [hpe.out, List.length_append, rtV_snoc]; exact hown', hB4⟩
            case measure => simp [intOf]; omega
          · have c1' : (m1 == 1) = false := beq_eq_false_iff_ne.2 c1
            by_cases c2 : m1 = 2
            · have c2' : (m1 == 2) = true := beq_iff_eq.2 c2
              have hpe : Hid (ptsD f s vs (k + 1) = ptsD f s vs k ++ [(f + (k : Int) * s, wholeN m2)]) := ⟨by rw [hpd.out, if_pos (.inr c2)]⟩
              clear hpd
              generalize wholeN m2 = U at *
              have hoA := hoX.drew.alloc (.cells #[.int .i64 (f + (k : Int) * s), .int .u32 (U : Int)] 37)
              have hBXD := hBX.drew
              have hBA : Below w5.heap.size w5 (X3.drew.alloc (.cells #[.int .i64 (f + (k : Int) * s), .int .u32 (U : Int)] 37)) := hBXD.alloc hBXD.size _
              have hlv := Hid.mk (fun (j : Nat) hj => (hoX.lt j hj).1)
              have q0 : ∀ X, Below w5.heap.size w5 X → Below X3.heap.size X3 X → X.cell? ⟨bx, ox + k, none⟩ = some (.int .i64 (f + (k : Int) * s)) ∧ X.cell? ⟨wr.heap.size, 1, none⟩ = some (.int .i64 m2) := fun X hX hY => ⟨hT0 _ hX, (hY.cell (p := ⟨wr.heap.size, 1, none⟩) hX3l).trans t1⟩
              have q1 := q0 _ hBXD (Below.refl _ _).drew
              have hqA := q0 _ hBA ((Below.refl _ _).drew.alloc (Nat.le_refl _) _)
              have hAl := Hid.mk (World.block_lt_of_cell? _ _ hqA.2)
              clear hX3l
              go_upto_region 11 with fail
              go_region_held3 (fun X => X.cell? ⟨bx, ox + k, none⟩ = some (.int .i64 (f + (k : Int) * s)) ∧ X.cell? ⟨wr.heap.size, 1, none⟩ = some (.int .i64 m2)) (first | (with_reducible assumption) | (exact q0 _ (Below.alloc hBXD hBXD.size _) ((Below.refl _ _).drew.alloc (Nat.le_refl _) _))) (first | (go_at_call 12; refine (hwa _).mono ?_; rintro _ _ ⟨rfl, rfl⟩) | ((refine step_append_own (P := Try.prog) _ rfl _ _ 26 rfl w5.heap.size 37 i0 _ 2 16 Try.underlying26 hi hz0 hz1 hz2 rfl (by decide) _ (ptsD f s vs k).length (rtV (ptsD f s vs k)) rfl hoA ⟨X3.heap.size, 0, none⟩ 1 1 [.int .i64 (f + (k : Int) * s), .int .u32 (U : Int)] rfl rfl (lit_at X3.drew _ _) (by simp [Value.oneCell']) (by unfold maxLen; omega) (by omega) hBA.size ?_; intro v' w4 hown' hgrow; have hB4 := hBA.grown hgrow hBA.size hlv.out; have hS4 : _ ∧ _ := ⟨hT0 _ hB4, (grown_cell hgrow (o := 1) hAl.out hun.out).trans hqA.2⟩)))
              go_wp2
              go_roundw
              case rel => exact ⟨k + 1, by omega, by go_num, by rw [hpe.out, List.length_append, rtV_snoc]; exact hown', hB4⟩
              case measure => simp [intOf]; omega
            · have c2' : (m1 == 2) = false := beq_eq_false_iff_ne.2 c2
              have hpe : Hid (ptsD f s vs (k + 1) = ptsD f s vs k) := ⟨by rw [hpd.out, if_neg (by rintro (h | h); · exact c1 h
                                                                                                  · exact c2 h), List.append_nil]⟩
              clear hpd hT0 hwa
              go_wp2
              go_roundw
              case rel => exact ⟨k + 1, by omega, by go_num, by rw [hpe.out]; exact hoX, hBX⟩
              case measure => simp [intOf]; omega
      · obtain rfl : k = N := by omega
        have hlt' : ¬ (k : Int) < (k : Int) := by omega
        obtain ⟨a, c, rfl, hR⟩ := rt_of_own ho rfl
        clear cV
        go_wp2
        go_meet
        exact ⟨a, c, rfl, hR, hB⟩
  case rest =>
  obtain ⟨ra, rc, rfl, hR, hB6⟩ := hcut
  have hsd := sameDots_self (ptsD f s vs N) hO (by omega) pa ra pc rc wc (hpt.later hB6) hR
  have ca6 := cA.out _ hB6
  have hne : (en != en) = false := by simp
  have hnn : ((N : Int) != (N : Int)) = false := by simp
  clear cV hpt hR hO
  go_wp2_with (go_at_call 13; fail)
  refine hsd.mono ?_
  clear hsd
  rintro _ w7 ⟨rfl, hB7⟩
  have hB57 : Below w5.heap.size w5 w7 := hB6.trans (hB7.mono hB6.size)
  clear hB7
  go_wp2
  go_loopw [18] (fun x wr => ∃ k : Nat, k ≤ N ∧ x = .int .i64 (k : Int) ∧ Below w5.heap.size w5 wr) (fun x _ => N - (intOf x).toNat)
  case atStart => exact ⟨0, by omega, rfl, hB57⟩
  case round =>
    clear hB57 hB6 ca6
    obtain ⟨k, hk, rfl, hB⟩ := hrel
    by_cases hlt : k < N
    · have hlt' : (k : Int) < (N : Int) := by omega
      have hk0 : (0 : Int) ≤ (k : Int) := by omega
      have hkl : k < (xsL f s N).length := by rw [xsL_len]; exact hlt
      obtain ⟨b1, o1, rfl, hl1, hc1⟩ := (xs_later hask hB (Nat.le_refl _)).resolve_left (fun e => by rw [e] at hkl; simp at hkl)
      obtain ⟨b2, o2, rfl, hl2, hc2⟩ := (xs_later hxs5 hB (Nat.le_refl _)).resolve_left (fun e => by rw [e] at hkl; simp at hkl)
      have k1 := hc1 k hkl
      have k2 := hc2 k hkl
      have ca := cA.out _ hB
      generalize (xsL f s N)[k] = x at *
      have hxx : (x != x) = false := by simp
      clear hc1 hc2 cA
      go_wp2_with fail
      go_quiet (fail)
      go_wp2
      go_roundw
      case rel => exact ⟨k + 1, by omega, by go_num, below_drewN hB _⟩
      case measure => simp [intOf]; omega
    · have hlt' : ¬ (k : Int) < (N : Int) := by omega
      have hBe : Below W.heap.size W wr := hBe5.trans (hB.mono hBe5.size)
      clear cA
      go_wp2
      go_ret
      exact ⟨rfl, hBe⟩
end Go.Proofs.Ytmbjfpmplmebcaa.CF
