import Derived.Test.YtblfdjdhikfjhaaGreatJoin46
import Derived.Test.YtblfdjdhikfjhaaGreatJoin45
import Derived.Test.YtblfdjdhikfjhaaGreatJoin17
import Derived.Test.YtblfdjdhikfjhaaGreatJoin22
namespace Go.Proofs.YtblfdjdhikfjhaaGreat.BZ
open Go.RowKit

theorem chL_len (c : Ch) : (chL c).length = 7 := rfl
theorem flat7_len (L : List Ch) : (flat7 L).length = L.length * 7 := by
  induction L with
  | nil => rfl
  | cons a L ih => simp [flat7, chL_len] at ih ⊢; omega
theorem flat7_at : ∀ (L : List Ch) (i : Nat) (h : i < L.length) (j : Nat) (u : Value), (chL L[i])[j]? = some u → (flat7 L)[i * 7 + j]? = some u
  | [], i, h, _, _, _ => by simp at h
  | a :: L, 0, h, j, u, hu => by
    have hj : j < (chL a).length := (List.getElem?_eq_some_iff.1 hu).1
    show (chL a ++ flat7 L)[0 * 7 + j]? = some u
    rw [Nat.zero_mul, Nat.zero_add, List.getElem?_append_left hj]
    exact hu
  | a :: L, i + 1, h, j, u, hu => by
    have ih := flat7_at L i (by simpa using h) j u (by simpa using hu)
    show (chL a ++ flat7 L)[(i + 1) * 7 + j]? = some u
    rw [List.getElem?_append_right (by rw [chL_len]; omega), chL_len, show (i + 1) * 7 + j - 7 = i * 7 + j from by omega]
    exact ih
theorem own_wd {wb base n size : Nat} {X Y : World} {e : TypeId} {v : Value} {xs : List Value} (h : X.ownsRow base e size v n xs) (he : e ≠ 5) (hb : wb < base) (hd : Wd wb X Y) : Y.ownsRow base e size v n xs := by
  obtain ⟨h1, h2 | ⟨g, cap, cur, h2, h3, h4, h5⟩⟩ := h
  · exact ⟨h1, .inl h2⟩
  · refine ⟨h1, .inr ⟨g, cap, cur, h2, h3, (hd.kt g (by omega) (Array.getElem?_eq_some_iff.1 h4).1 (fun cs f hc => ?_)).trans h4, h5⟩⟩
    rw [h4] at hc
    injection hc with hc
    injection hc with _ hc
    exact he hc
theorem difE_tree {ta tb : Tr} (ha : ta.wf 7) (hb : tb.wf 7) : ta.dif tb 7 0 = difE (ta.ents 7 0) (tb.ents 7 0) := dif_rdif ha hb
theorem difE_val {A B : Es} (ha : Rises A) (hb : Rises B) (hs : ∀ e ∈ A, e.1 < 4294967296) (hs2 : ∀ e ∈ B, e.1 < 4294967296) (hR : EsR B) : ∀ c ∈ difE A B, c.1 < 4294967296 ∧ ∀ v, c.2.2 = some v → Rg v.1 ∧ Rg v.2 := fun c hc => by
  obtain ⟨-, h2, h3⟩ := difE_spec ha hb
  have hv := h3 c hc
  refine ⟨?_, fun v e => ?_⟩
  · have hk := (h2 c.1).1 (List.mem_map.2 ⟨c, hc, rfl⟩)
    by_cases hB : valE B c.1 = none
    · cases hA : valE A c.1 with
      | none => rw [hA, hB] at hk; exact absurd rfl hk
      | some v => exact hs _ ((valE_iff ha _ _).1 hA)
    · cases hB2 : valE B c.1 with
      | none => exact absurd hB2 hB
      | some v => exact hs2 _ ((valE_iff hb _ _).1 hB2)
  · rw [hv] at e
    exact hR _ ((valE_iff hb _ _).1 e)
theorem encC_some {k : Nat} {o : Option (Int × Int)} {v : Int × Int} : encC (k, (o, some v)) = encN k ++ (encN 1 ++ (encI v.1 ++ encI v.2)) := rfl
theorem encC_none {k : Nat} {o : Option (Int × Int)} : encC (k, (o, none)) = encN k ++ encN 0 := rfl

theorem enc_next (acc : List UInt8) (D : List Ch) (j : Nat) (h : j < D.length) : acc ++ (encN D.length ++ (D.take (j + 1)).flatMap encC) = acc ++ (encN D.length ++ (D.take j).flatMap encC) ++ encC D[j] := by
  rw [List.take_succ_eq_append_getElem h, List.flatMap_append, List.append_assoc, List.append_assoc]
  simp
theorem enc_bound (acc : List UInt8) (D : List Ch) (j : Nat) (h : j < D.length) (hb : acc.length + ((encN D.length).length + (D.flatMap encC).length) ≤ 100000000000000) : (acc ++ (encN D.length ++ (D.take j).flatMap encC)).length + (encC D[j]).length ≤ 100000000000000 := by
  have h1 := congrArg List.length (enc_next acc D j h)
  have h2 : (D.flatMap encC).length = ((D.take (j + 1)).flatMap encC).length + ((D.drop (j + 1)).flatMap encC).length := by
    rw [← List.length_append, ← List.flatMap_append, List.take_append_drop]
  simp only [List.length_append] at h1 ⊢
  omega

set_option maxRecDepth 8000 in
set_option maxHeartbeats 4000000 in
theorem wdiff_any (wb ma mb : Nat) (A B : Es) (hR : EsR B) (W : World) {acc : List UInt8} (hl : acc.length + (encD A B).length ≤ 100000000000000) (h : WAt W wb acc) (hA : MapE W ma A) (hB : MapE W mb B) : Calls Tryz.prog 70 #[.pointer (some ⟨wb, 0, none⟩), .pointer (some ⟨ma, 0, none⟩), .pointer (some ⟨mb, 0, none⟩)] W (Wp wb acc (encD A B) W) := by
  have hAl := hA.len
  have hBl := hB.len
  have hvals := difE_val hA.rises hB.rises hA.small hB.small hR
  have hwl := h.lt
  obtain ⟨D, hD⟩ : ∃ D, Hid (difE A B = D) := ⟨_, rfl⟩
  have hDl : D.length ≤ 8589934592 := by
    have := difE_len A B
    rw [hD.out] at this
    omega
  have hED : Hid (encD A B = encN D.length ++ D.flatMap encC) := by show encD A B = _; unfold encD; rw [hD.out]
  rw [hD.out] at hvals
  obtain ⟨ta, hTa, rfl⟩ := hA
  obtain ⟨tb, hTb, rfl⟩ := hB
  have hDD : ta.dif tb 7 0 = D := by rw [difE_tree hTa.2.2.2.2 hTb.2.2.2.2, hD.out]
  rw [hED.out] at hl ⊢
  rw [List.length_append] at hl
  have hHl : Hid (acc.length + ((encN D.length).length + (D.flatMap encC).length) ≤ 100000000000000) := hl
  have hHv : Hid (∀ c ∈ D, c.1 < 4294967296 ∧ ∀ v, c.2.2 = some v → Rg v.1 ∧ Rg v.2) := hvals
  clear hl hvals hED hD hAl hBl
  go_enter Tryz.func70, Tryz.ntmps70
  go_wp2_with (go_at_call 85; fail)
  refine (diff_iter ma mb W).mono ?_
  rintro e w1 ⟨rfl, hDA, hb1⟩
  have hC := collect_any W.heap.size ma mb ta tb D hDD (by omega) w1 hDA (hTa.later hb1) (hTb.later hb1)
  have hW1 := h.later hb1
  have hWd1 := Wd.of_below hb1 (Nat.le_of_lt hwl)
  clear h hDA hTa hTb hDD
  go_wp2_with (go_at_call 84; fail)
  refine hC.mono ?_
  rintro e w2 ⟨v, rfl, hrow, hb2⟩
  have hW2 := hW1.later hb2
  have hWd2 := hWd1.trans (Wd.of_below hb2 (Nat.le_trans (Nat.le_of_lt hwl) hb1.size))
  have hwb : wb < w1.heap.size := Nat.lt_of_lt_of_le hwl hb1.size
  obtain ⟨pa, cap, rfl⟩ := own_sl hrow
  have hnum := wnum_any wb D.length (by omega) w2 (by have := hHl.out; omega) hW2
  have hwr : IntKind.u64.wrap (D.length : Int) = (D.length : Int) := by rw [IntKind.wrap_u64]; omega
  clear hC hW1 hWd1 hb1 hb2
  go_wp2_with (go_at_call 45; fail)
  refine hnum.mono ?_
  rintro e w3 ⟨rfl, hW3, hD3⟩
  have hrow3 := own_wd hrow (by decide) hwb hD3
  have hWd3 := hWd2.trans hD3
  clear hnum hW2 hWd2 hrow hwr
  go_wp2
  go_loopw [20] (fun iv wr => ∃ j : Nat, j ≤ D.length ∧ iv = .int .i64 (j : Int) ∧ WAt wr wb (acc ++ (encN D.length ++ (D.take j).flatMap encC)) ∧ wr.ownsRow w1.heap.size 150 7 (.slice pa D.length cap) D.length (flat7 D) ∧ Wd wb W wr) (fun iv _ => D.length - (intOf iv).toNat)
  case atStart => exact ⟨0, by omega, rfl, by simpa using hW3, hrow3, hWd3⟩
  case round =>
    obtain ⟨j, hj, rfl, hWr, hrow, hWd⟩ := hrel
    clear hW3 hrow3 hWd3 hD3
    by_cases hlt : j < D.length
    · have hlt' : (j : Int) < (D.length : Int) := by omega
      have hj0 : (0 : Int) ≤ (j : Int) := by omega
      obtain ⟨g, cap', hpe⟩ : ∃ g cap', (Value.slice pa D.length cap) = .slice (some ⟨g, 0, none⟩) D.length cap' := by
        obtain ⟨_, ⟨e, h0⟩ | ⟨g, cap', cur, e, _⟩⟩ := hrow
        · omega
        · exact ⟨g, cap', e⟩
      simp only [Value.slice.injEq] at hpe
      obtain ⟨rfl, -, rfl⟩ := hpe
      have hcl : ∀ k u, k < 7 → (chL D[j])[k]? = some u → wr.cell? ⟨g, j * 7 + k, none⟩ = some u := fun k u hk hu => (hrow.cellAt (j * 7 + k) (by omega)).trans (flat7_at D j hlt k u hu)
      have hnx := enc_next acc D j hlt
      have hbd := enc_bound acc D j hlt hHl.out
      have hv := hHv.out D[j] (List.getElem_mem hlt)
      obtain ⟨a1, ha1⟩ : ∃ a1, Hid (acc ++ (encN D.length ++ (D.take j).flatMap encC) = a1) := ⟨_, rfl⟩
      rw [ha1.out] at hnx hbd hWr
      generalize D[j] = c at *
      obtain ⟨k, o, o2⟩ := c
      obtain ⟨hk, hv⟩ := hv
      have c0 : wr.cell? ⟨g, j * 7, none⟩ = some (.int .u32 (k : Int)) := hcl 0 _ (by omega) rfl
      have c1 := hcl 1 _ (by omega) rfl
      have c2 := hcl 2 _ (by omega) rfl
      have c3 := hcl 3 _ (by omega) rfl
      have c4 := hcl 4 _ (by omega) rfl
      have c5 := hcl 5 _ (by omega) rfl
      have c6 := hcl 6 _ (by omega) rfl
      obtain ⟨p1, hp1⟩ : ∃ p, Hid (o.isSome = p) := ⟨_, rfl⟩
      obtain ⟨q3, hq3⟩ : ∃ p, Hid ((o.getD (0, 0)).1 = p) := ⟨_, rfl⟩
      obtain ⟨q4, hq4⟩ : ∃ p, Hid ((o.getD (0, 0)).2 = p) := ⟨_, rfl⟩
      rw [hp1.out] at c1
      rw [hq3.out] at c3
      rw [hq4.out] at c4
      have hnx : Hid (acc ++ (encN D.length ++ (D.take (j + 1)).flatMap encC) = a1 ++ encC (k, o, o2)) := hnx
      have hwl2 := hWr.lt
      have hg1 : w1.heap.size ≤ wr.heap.size := by
        have := hWd.bl.size
        have := (hrow.lt g rfl)
        omega
      clear hcl hp1 hq3 hq4 ha1
      cases o2 with
      | none =>
        have hbd' : a1.length + ((encN k).length + (encN 0).length) ≤ 100000000000000 := by rw [encC_none, List.length_append] at hbd; exact hbd
        have hbX : Below wr.heap.size wr (wr.alloc (.cells #[.int .u32 (k : Int), .bool p1, .bool false, .int .i64 q3, .int .i64 q4, .int .i64 0, .int .i64 0] 150)) := (Below.refl _ _).alloc (Nat.le_refl _) _
        have hrX : (wr.alloc (.cells #[.int .u32 (k : Int), .bool p1, .bool false, .int .i64 q3, .int .i64 q4, .int .i64 0, .int .i64 0] 150)).heap[wr.heap.size]? = some (.cells #[.int .u32 (k : Int), .bool p1, .bool false, .int .i64 q3, .int .i64 q4, .int .i64 0, .int .i64 0] 150 (0, 0)) := heap_alloc_last wr _
        have hWX := hWr.later hbX
        have hrowX := own_laterB hrow hbX
        have hWdX := hWd.trans (Wd.of_below hbX (Nat.le_of_lt hwl2))
        have hn1 := wnum_any wb k (by omega) (wr.alloc (.cells #[.int .u32 (k : Int), .bool p1, .bool false, .int .i64 q3, .int .i64 q4, .int .i64 0, .int .i64 0] 150)) (by omega) hWX
        have b0 : (wr.alloc (.cells #[.int .u32 (k : Int), .bool p1, .bool false, .int .i64 q3, .int .i64 q4, .int .i64 0, .int .i64 0] 150)).cell? ⟨wr.heap.size, 0, none⟩ = some (.int .u32 (k : Int)) := cell_of_row _ _ 0 _ _ _ hrX
        simp only [Option.isSome_none, Option.getD_none] at c2 c5 c6
        clear hWr hrow hWd hbd hbX
        go_wp2_with (go_at_call 45; fail)
        refine hn1.mono ?_
        rintro e w5 ⟨rfl, hW5, hD5⟩
        have hr5 := (hD5.kt wr.heap.size (by omega) (Array.getElem?_eq_some_iff.1 hrX).1 (fun cs f hc => by rw [hrX] at hc; injection hc with hc; injection hc with _ hc; revert hc; decide)).trans hrX
        have b2 : w5.cell? ⟨wr.heap.size, 2, none⟩ = some (.bool false) := cell_of_row _ _ 2 _ _ _ hr5
        have hn2 := wnum_any wb 0 (by decide) w5 (by rw [List.length_append]; omega) hW5
        have hrow5 := own_wd hrowX (by decide) hwb hD5
        have hWd5 := hWdX.trans hD5
        clear hn1 hWX hrowX hWdX hD5 hrX hr5 b0 c0 c1 c2 c3 c4 c5 c6
        go_wp2_with (go_at_call 45; fail)
        refine hn2.mono ?_
        rintro e w6 ⟨rfl, hW6, hD6⟩
        have hrow6 := own_wd hrow5 (by decide) hwb hD6
        have hWd6 := hWd5.trans hD6
        have hW6' : WAt w6 wb (acc ++ (encN D.length ++ (D.take (j + 1)).flatMap encC)) := by rw [hnx.out, encC_none, ← List.append_assoc]; exact hW6
        clear hn2 hW5 hW6 hrow5 hWd5 hD6 hnx hbd'
        go_wp2
        go_roundw
        case rel => exact ⟨j + 1, by omega, by go_num, hW6', hrow6, hWd6⟩
        case measure => simp [intOf]; omega
      | some v =>
        obtain ⟨vk, vn⟩ := v
        obtain ⟨hr1, hr2⟩ := hv (vk, vn) rfl
        simp only at hr1 hr2
        have hbd' : a1.length + ((encN k).length + ((encN 1).length + ((encI vk).length + (encI vn).length))) ≤ 100000000000000 := by rw [encC_some, List.length_append, List.length_append, List.length_append] at hbd; exact hbd
        obtain ⟨X, hX⟩ : ∃ X, wr.alloc (.cells #[.int .u32 (k : Int), .bool p1, .bool true, .int .i64 q3, .int .i64 q4, .int .i64 vk, .int .i64 vn] 150) = X := ⟨_, rfl⟩
        have hbX : Below wr.heap.size wr X := by rw [← hX]; exact (Below.refl _ _).alloc (Nat.le_refl _) _
        have hrX : X.heap[wr.heap.size]? = some (.cells #[.int .u32 (k : Int), .bool p1, .bool true, .int .i64 q3, .int .i64 q4, .int .i64 vk, .int .i64 vn] 150 (0, 0)) := by rw [← hX]; exact heap_alloc_last wr _
        have hWX := hWr.later hbX
        have hrowX := own_laterB hrow hbX
        have hWdX := hWd.trans (Wd.of_below hbX (Nat.le_of_lt hwl2))
        have hn1 := wnum_any wb k (by omega) X (by omega) hWX
        have b0 : X.cell? ⟨wr.heap.size, 0, none⟩ = some (.int .u32 (k : Int)) := cell_of_row _ _ 0 _ _ _ hrX
        replace c2 : wr.cell? ⟨g, j * 7 + 2, none⟩ = some (.bool true) := c2
        replace c5 : wr.cell? ⟨g, j * 7 + 5, none⟩ = some (.int .i64 vk) := c5
        replace c6 : wr.cell? ⟨g, j * 7 + 6, none⟩ = some (.int .i64 vn) := c6
        clear hWr hrow hWd hbd hbX hv
        go_wp2_with (go_at_call 45; fail)
        refine hn1.mono ?_
        rintro e w5 ⟨rfl, hW5, hD5⟩
        have hne : ∀ cs f, X.heap[wr.heap.size]? ≠ some (.cells cs 5 f) := fun cs f hc => by rw [hrX] at hc; injection hc with hc; injection hc with _ hc; revert hc; decide
        have hr5 := (hD5.kt wr.heap.size (by omega) (Array.getElem?_eq_some_iff.1 hrX).1 hne).trans hrX
        have b2 : w5.cell? ⟨wr.heap.size, 2, none⟩ = some (.bool true) := cell_of_row _ _ 2 _ _ _ hr5
        have hn2 := wnum_any wb 1 (by decide) w5 (by rw [List.length_append]; omega) hW5
        have hrow5 := own_wd hrowX (by decide) hwb hD5
        have hWd5 := hWdX.trans hD5
        clear hn1 hWX hrowX hWdX hD5 hrX hX b0 c0 c1 c2 c3 c4 c5 c6 hne
        go_wp2_with (go_at_call 45; fail)
        refine hn2.mono ?_
        rintro e w6 ⟨rfl, hW6, hD6⟩
        have hne : ∀ cs f, w5.heap[wr.heap.size]? ≠ some (.cells cs 5 f) := fun cs f hc => by rw [hr5] at hc; injection hc with hc; injection hc with _ hc; revert hc; decide
        have hr6 := (hD6.kt wr.heap.size (by omega) (Array.getElem?_eq_some_iff.1 hr5).1 hne).trans hr5
        have b5 : w6.cell? ⟨wr.heap.size, 5, none⟩ = some (.int .i64 vk) := cell_of_row _ _ 5 _ _ _ hr6
        have hn3 := wint_any wb vk hr1 w6 (by rw [List.length_append, List.length_append]; omega) hW6
        have hrow6 := own_wd hrow5 (by decide) hwb hD6
        have hWd6 := hWd5.trans hD6
        clear hn2 hW5 hrow5 hWd5 hD6 hr5 b2 hne
        go_wp2_with (go_at_call 86; fail)
        refine hn3.mono ?_
        rintro e w7 ⟨rfl, hW7, hD7⟩
        have hne : ∀ cs f, w6.heap[wr.heap.size]? ≠ some (.cells cs 5 f) := fun cs f hc => by rw [hr6] at hc; injection hc with hc; injection hc with _ hc; revert hc; decide
        have hr7 := (hD7.kt wr.heap.size (by omega) (Array.getElem?_eq_some_iff.1 hr6).1 hne).trans hr6
        have b6 : w7.cell? ⟨wr.heap.size, 6, none⟩ = some (.int .i64 vn) := cell_of_row _ _ 6 _ _ _ hr7
        have hn4 := wint_any wb vn hr2 w7 (by rw [List.length_append, List.length_append, List.length_append]; omega) hW7
        have hrow7 := own_wd hrow6 (by decide) hwb hD7
        have hWd7 := hWd6.trans hD7
        clear hn3 hW6 hrow6 hWd6 hD7 hr6 b5 hne
        go_wp2_with (go_at_call 86; fail)
        refine hn4.mono ?_
        rintro e w8 ⟨rfl, hW8, hD8⟩
        have hrow8 := own_wd hrow7 (by decide) hwb hD8
        have hWd8 := hWd7.trans hD8
        have hW8' : WAt w8 wb (acc ++ (encN D.length ++ (D.take (j + 1)).flatMap encC)) := by
          rw [hnx.out, encC_some, ← List.append_assoc, ← List.append_assoc, ← List.append_assoc]
          exact hW8
        clear hn4 hW7 hW8 hrow7 hWd7 hD8 hr7 b6 hnx hbd'
        go_wp2
        go_roundw
        case rel => exact ⟨j + 1, by omega, by go_num, hW8', hrow8, hWd8⟩
        case measure => simp [intOf]; omega
    · have hlt' : ¬ (j : Int) < (D.length : Int) := by omega
      obtain rfl : j = D.length := by omega
      rw [List.take_length] at hWr
      have hfin : Wp wb acc (encN D.length ++ D.flatMap encC) W (.returned (.tuple #[])) wr := ⟨rfl, hWr, hWd⟩
      clear hWr hrow hWd
      go_wp2
      exact bodyPost_end (v := .tuple #[]) (by simp [results, Tryz.results70, go_sem]) rfl hfin

end Go.Proofs.YtblfdjdhikfjhaaGreat.BZ
