import Derived.Test.YtmlkceganilboaaDoorTStepN
import Derived.Test.YtmlkceganilboaaDoorTMade
import Derived.Deep.DeepCutAuto
import Derived.Deep.CutBlock
namespace Go.Proofs.YtmlkceganilboaaDoor
open Go.RowKit

theorem sub_ents {W : World} {a : Option Addr} {n c : Nat} {L : List (Nat × (Int × Int))} (h : EntsAt W (.slice a n c) L) (s : Nat) (hs : s ≤ L.length) : EntsAt W (.slice a s c) (L.take s) := by
  obtain ⟨a', c', h1, h2⟩ := h
  obtain ⟨rfl, rfl, rfl⟩ := Value.slice.inj h1
  have hl : (L.take s).length = s := by rw [List.length_take]; omega
  refine ⟨a, c, by rw [hl], ?_⟩
  rcases h2 with h2 | ⟨g, off, rfl, hg, hc⟩
  · exact .inl (by rw [h2]; simp)
  · refine .inr ⟨g, off, rfl, hg, fun i hi => ?_⟩
    have := hc i (by rw [hl] at hi; omega)
    simpa using this
theorem drop_ents {W : World} {a a2 : Option Addr} {n c c2 : Nat} {L : List (Nat × (Int × Int))} (h : EntsAt W (.slice a n c) L) (j : Nat) (hj : j ≤ L.length) (ha : j < L.length → ∀ g off, a = some ⟨g, off, none⟩ → a2 = some ⟨g, off + j * 3, none⟩) : EntsAt W (.slice a2 (L.length - j) c2) (L.drop j) := by
  obtain ⟨a', c', h1, h2⟩ := h
  obtain ⟨rfl, rfl, rfl⟩ := Value.slice.inj h1
  refine ⟨a2, c2, by rw [List.length_drop], ?_⟩
  by_cases hlt : j < L.length
  · rcases h2 with h2 | ⟨g, off, rfl, hg, hc⟩
    · rw [h2] at hlt; simp at hlt
    · refine .inr ⟨g, off + j * 3, ha hlt g off rfl, hg, fun i hi => ?_⟩
      rw [List.length_drop] at hi
      have := hc (j + i) (by omega)
      rw [show off + j * 3 + i * 3 = off + (j + i) * 3 from by omega]
      simpa using this
  · exact .inl (List.drop_of_length_le (by omega))

theorem runL_neg (L : List (Nat × (Int × Int))) : runL (-1) L = L := rfl
theorem runL_nat (s : Nat) (L : List (Nat × (Int × Int))) : runL (s : Int) L = L.take s := by
  unfold runL
  rw [if_neg (by omega)]
  rfl
theorem filter_zero (L : List (Nat × (Int × Int))) : L.filter (atLeast 0) = L := by
  rw [List.filter_eq_self]
  intro e _
  simp [atLeast]

theorem own_cap {w : World} {base n size c : Nat} {e : TypeId} {a : Option Addr} {xs : List Value} (h : w.ownsRow base e size (.slice a n c) n xs) : n ≤ c := by
  obtain ⟨-, h | ⟨g, cap, cur, hv, -, -, hc, -⟩⟩ := h
  · obtain ⟨-, rfl, -⟩ := Value.slice.inj h.1
    exact Nat.zero_le _
  · obtain ⟨-, -, rfl⟩ := Value.slice.inj hv
    exact hc
set_option maxHeartbeats 1000000 in
theorem from_cap (mb : Nat) (t : Tr) (low : Nat) (hlo : low < 4294967296) (stop : Int) (hl : (t.ents 7 0).length ≤ 5000) (w : World) (h : MapT w mb t) :
    Calls Tryd.prog 15 #[.pointer (some ⟨mb, 0, none⟩), .int .u32 (low : Int), .int .i64 stop] w fun e w' => ∃ a c, e = .returned (.slice a (runL stop ((t.ents 7 0).filter (atLeast low))).length c) ∧ EntsAt w' (.slice a (runL stop ((t.ents 7 0).filter (atLeast low))).length c) (runL stop ((t.ents 7 0).filter (atLeast low))) ∧ (runL stop ((t.ents 7 0).filter (atLeast low))).length ≤ c ∧ Below w.heap.size w w' := by
  have hw := h.2.2.2.2
  have htop := fromL_top hw hlo
  by_cases hs : stop = 0
  · subst hs
    go_enter Tryd.func15, Tryd.ntmps15
    go_wp2_with (first | (go_at_call 23; refine (from_iter mb t low _ h).mono ?_; rintro e w1 ⟨rfl, hI, hb1⟩) | (go_at_call 20; refine (run_zero w.heap.size 5000 _).mono ?_; rintro e w2 ⟨rfl, hb2⟩))
    go_ret
    exact ⟨none, 0, rfl, ⟨none, 0, rfl, .inl rfl⟩, Nat.le_refl _, below_step hb1 hb2⟩
  · have hlen : (((t.fromL 7 0 low).length : Nat) : Int) ≤ 5000 ∧ (5000 : Int) ≤ 4294967297 := by
      rw [htop]
      have := List.length_filter_le (atLeast low) (t.ents 7 0)
      omega
    have hTop : Hid (t.fromL 7 0 low = (t.ents 7 0).filter (atLeast low)) := htop
    clear htop
    go_enter Tryd.func15, Tryd.ntmps15
    go_wp2_with (first | (go_at_call 23; refine (from_iter mb t low _ h).mono ?_; rintro e w1 ⟨rfl, hI, hb1⟩) | (go_at_call 20; refine (run_some w.heap.size low t hw stop 5000 hs hlen _ hI (h.2.2.2.1.later hb1)).mono ?_; rintro e w2 ⟨ev, rfl, hown, hb2⟩))
    go_ret
    rw [hTop.out] at hown
    obtain ⟨a, c, rfl, hd⟩ := ents_of_own hown
    exact ⟨a, c, rfl, ⟨a, c, rfl, hd⟩, own_cap hown, below_step hb1 hb2⟩

/-- All from a key on. -/
theorem from_whole (mb : Nat) (t : Tr) (low : Nat) (hlo : low < 4294967296) (F : List (Nat × (Int × Int))) (hF : (t.ents 7 0).filter (atLeast low) = F) (hl : (t.ents 7 0).length ≤ 5000) (w : World) (h : MapT w mb t) :
    Calls Tryd.prog 15 #[.pointer (some ⟨mb, 0, none⟩), .int .u32 (low : Int), .int .i64 (-1)] w fun e w' => ∃ a c, e = .returned (.slice a F.length c) ∧ EntsAt w' (.slice a F.length c) F ∧ F.length ≤ c ∧ Below w.heap.size w w' := by
  have := from_cap mb t low hlo (-1) hl w h
  rw [hF, runL_neg] at this
  exact this
theorem from_part (mb : Nat) (t : Tr) (low : Nat) (hlo : low < 4294967296) (s : Nat) (hl : (t.ents 7 0).length ≤ 5000) (w : World) (h : MapT w mb t) :
    Calls Tryd.prog 15 #[.pointer (some ⟨mb, 0, none⟩), .int .u32 (low : Int), .int .i64 (s : Int)] w fun e w' => ∃ a c, e = .returned (.slice a (runL (s : Int) ((t.ents 7 0).filter (atLeast low))).length c) ∧ EntsAt w' (.slice a (runL (s : Int) ((t.ents 7 0).filter (atLeast low))).length c) (runL (s : Int) ((t.ents 7 0).filter (atLeast low))) ∧ Below w.heap.size w w' := from_any mb t low hlo s hl w h

theorem drop_add {W : World} {a : Option Addr} {n c c2 : Nat} {L F : List (Nat × (Int × Int))} (h : EntsAt W (.slice a n c) L) (j : Nat) (hj : j ≤ L.length) (hF : F = L.drop j) : EntsAt W (.slice (Option.map (fun x : Addr => x.add (j * 3)) a) (L.length - j) c2) F := by
  rw [hF]
  refine drop_ents h j hj fun _ g off e => ?_
  rw [e]
  simp [Addr.add]

set_option maxRecDepth 8000 in
set_option maxHeartbeats 2000000 in
theorem from_walk (vl : Value) (L : List (Nat × (Int × (Int × Bool)))) (id : Nat) (stop : Int) (w : World) (hL : PutsAt w vl L) (hid : id < 4294967296) (hst : -9223372036854775808 ≤ stop ∧ stop ≤ 9223372036854775807) :
    Calls Tryd.prog 4 #[vl, .int .u32 (id : Int), .int .i64 stop] w fun e w' => e = .returned (.bool true) ∧ Below w.heap.size w w' := by
  go_enter Tryd.func4, Tryd.ntmps4
  go_upto_block 0 with (first | (go_at_call 14; refine (made_any _ L 0 _ hL).mono ?_; rintro e w1 ⟨mb, t, ab, ta, rfl, hM1, hE1, -, -, hb1⟩; have hlen : (t.ents 7 0).length ≤ 5000 := by { rw [hE1]; have h1 := scr_len [] (L.take 200); have h2 := List.length_take_le 200 L; simp at h1; omega }; clear hE1) | (go_at_call 6; refine (known_true _).mono ?_; rintro e w2 ⟨rfl, hb2⟩; have hM2 := hM1.later hb2) | (go_at_call 9; refine (list_all mb t hlen _ hM2).mono ?_; rintro e w3 ⟨av, rfl, hown3, hb3⟩; have hal := ents_of_own hown3; obtain ⟨aa, ac, rfl, hald⟩ := hal; have hcap := own_cap hown3))
  have hA3 : EntsAt w3 (.slice aa (t.ents 7 0).length ac) (t.ents 7 0) := ⟨aa, ac, rfl, hald⟩
  have hM3 := hM2.later hb3
  have hB3 := below_step (below_step hb1 hb2) hb3
  have hw7 := hM3.2.2.2.2
  have hR := ents_rises 7 hw7 0
  clear hown3 hald hb1 hb2 hb3 hM1 hM2 hL
  go_cut [10] (fun i wx => ∃ j : Nat, j ≤ (t.ents 7 0).length ∧ i = .int .i64 j ∧ wx = w3 ∧ (t.ents 7 0).filter (atLeast id) = (t.ents 7 0).drop j)
  case first =>
    go_wp2_with fail
    go_loopw [10] (fun i wr => ∃ j : Nat, j ≤ (t.ents 7 0).length ∧ i = .int .i64 j ∧ wr = w3 ∧ ∀ k (hk : k < (t.ents 7 0).length), k < j → (t.ents 7 0)[k].1 < id) (fun i _ => (t.ents 7 0).length - (intOf i).toNat)
    case atStart => exact ⟨0, by omega, rfl, rfl, fun k _ h => absurd h (by omega)⟩
    case round =>
      obtain ⟨j, hj, rfl, rfl, hlow⟩ := hrel
      have hLow : Hid (∀ k (hk : k < (t.ents 7 0).length), k < j → (t.ents 7 0)[k].1 < id) := hlow
      clear hlow
      by_cases hlt : j < (t.ents 7 0).length
      · have hlt' : (j : Int) < (t.ents 7 0).length := by omega
        have hj0 : (0 : Int) ≤ (j : Int) := by omega
        obtain ⟨ga, oa, rfl, a0, -, -⟩ := ents_cellsF hA3 j hlt
        obtain ⟨z, hz⟩ : ∃ z, (t.ents 7 0)[j].1 = z := ⟨_, rfl⟩
        have hZ : Hid ((t.ents 7 0)[j].1 = z) := hz
        rw [hz] at a0
        clear hz
        by_cases hless : z < id
        · have hless' : (z : Int) < (id : Int) := by omega
          go_wp2
          go_roundw
          case rel =>
            refine ⟨j + 1, by omega, by go_num, by first | rfl | trivial, fun k hk h => ?_⟩
            rcases Nat.lt_or_ge k j with h1 | h1
            · exact hLow.out k hk h1
            · obtain rfl : k = j := by omega
              exact hZ.out ▸ hless
          case measure => simp [intOf]; omega
        · have hless' : ¬ (z : Int) < (id : Int) := by omega
          go_wp2_with fail
          go_meet
          exact ⟨j, by omega, rfl, rfl, rises_cut hR (fun k hk h => hLow.out k hk h) (fun _ => by rw [hZ.out]; exact hless) (by omega)⟩
      · have hlt' : ¬ (j : Int) < (t.ents 7 0).length := by omega
        go_wp2_with fail
        go_meet
        exact ⟨j, by omega, rfl, rfl, rises_cut hR (fun k hk h => hLow.out k hk h) (fun h => absurd h hlt) (by omega)⟩
  case rest =>
    obtain ⟨j, hj, rfl, rfl, hcutF⟩ := hcut
    obtain ⟨F, hF⟩ : ∃ F, (t.ents 7 0).filter (atLeast id) = F := ⟨_, rfl⟩
    rw [hF] at hcutF
    have hFl : F.length ≤ 5000 := by rw [← hF]; exact Nat.le_trans (List.length_filter_le _ _) hlen
    have hFF : Hid ((t.ents 7 0).filter (atLeast id) = F) := hF
    have hFD : Hid (F = (t.ents 7 0).drop j) := hcutF
    clear hF hcutF
    have hj1 : (j : Int) ≤ (t.ents 7 0).length := by omega
    have hj0 : (0 : Int) ≤ (j : Int) := by omega
    go_upto_region 9 with (first | (go_at_call_of 15 (Value.int IntKind.u32 (id : Int)); refine (from_whole mb t id hid F hFF.out hlen _ hM3).mono ?_; rintro e w4 ⟨fa, fc, rfl, hT4, hfc, hb4⟩) | fail)
    have hA4 := hA3.later hb4
    have hM4 := hM3.later hb4
    have hB4 := below_step hB3 hb4
    have hD1 := drop_add (c2 := ac - j) hA4 j hj hFD.out
    have hD2 : ac = j → EntsAt w4 (.slice aa 0 0) F := fun e => by
      have h0 : F = [] := by rw [hFD.out]; exact List.drop_of_length_le (by omega)
      rw [h0]
      exact ⟨aa, 0, rfl, .inl rfl⟩
    clear hA3 hM3 hB3 hb4
    go_cut [58] (fun b wx => b = .bool false ∧ Below w4.heap.size w4 wx)
    case first =>
      by_cases hcj : ac = j
      · have hD := hD2 hcj
        subst hcj
        clear hD1 hD2
        go_wp2_with (first | (go_at_call_of 10 (Value.slice fa F.length fc); refine (same_entries _ _ F (by omega) _ hT4 hD).mono ?_; rintro e w5 ⟨rfl, hb5⟩) | (go_at_call 15; refine (from_whole mb t 0 (by decide) (t.ents 7 0) (filter_zero _) hlen _ (hM4.later hb5)).mono ?_; rintro e w6 ⟨za, zc, rfl, hT6, -, hb6⟩; have hB6 := below_step hb5 hb6) | (go_at_call 10; refine (same_entries _ _ (t.ents 7 0) (by omega) _ hT6 (hA4.later hB6)).mono ?_; rintro e w7 ⟨rfl, hb7⟩))
        go_meet
        exact ⟨rfl, below_step hB6 hb7⟩
      · clear hD2
        go_wp2_with (first | (go_at_call_of 10 (Value.slice fa F.length fc); refine (same_entries _ _ F (by omega) _ hT4 hD1).mono ?_; rintro e w5 ⟨rfl, hb5⟩) | (go_at_call 15; refine (from_whole mb t 0 (by decide) (t.ents 7 0) (filter_zero _) hlen _ (hM4.later hb5)).mono ?_; rintro e w6 ⟨za, zc, rfl, hT6, -, hb6⟩; have hB6 := below_step hb5 hb6) | (go_at_call 10; refine (same_entries _ _ (t.ents 7 0) (by omega) _ hT6 (hA4.later hB6)).mono ?_; rintro e w7 ⟨rfl, hb7⟩))
        go_meet
        exact ⟨rfl, below_step hB6 hb7⟩
    case rest =>
      obtain ⟨rfl, hbc⟩ := hcut
      have hA5 := hA4.later hbc
      have hM5 := hM4.later hbc
      have hT5 := hT4.later hbc
      have hB5 := below_step hB4 hbc
      clear hA4 hM4 hT4 hB4 hbc hD1 hD2
      go_upto_region 11 with fail
      go_cut [66] (fun b wx => ∃ o : Bool, b = .bool o ∧ (o = false → 0 ≤ stop ∧ stop ≤ F.length) ∧ wx = wc)
      case first =>
        by_cases hs1 : stop < 0
        · go_wp2_with fail
          go_meet
          exact ⟨true, rfl, fun e => (by cases e), rfl⟩
        · by_cases hs2 : (F.length : Int) < stop
          · go_wp2_with fail
            go_meet
            exact ⟨true, rfl, fun e => (by cases e), rfl⟩
          · go_wp2_with fail
            go_meet
            exact ⟨false, rfl, fun _ => by omega, rfl⟩
      case rest =>
        obtain ⟨o, rfl, hos, rfl⟩ := hcut
        go_upto_if 66 with fail
        go_cut [2] (fun s wx => ∃ s' : Nat, s' ≤ F.length ∧ s = .int .i64 s' ∧ wx = wc)
        case first =>
          cases o with
          | true =>
            clear hos
            go_wp2_with fail
            go_meet
            exact ⟨F.length, Nat.le_refl _, rfl, rfl⟩
          | false =>
            have hos' := hos rfl
            clear hos
            obtain ⟨s', rfl⟩ : ∃ s' : Nat, stop = (s' : Int) := ⟨stop.toNat, by omega⟩
            go_wp2_with fail
            go_meet
            exact ⟨s', by omega, rfl, rfl⟩
        case rest =>
          obtain ⟨s, hs, rfl, rfl⟩ := hcut
          clear hos hst
          have hs' : (s : Int) ≤ F.length := by omega
          have hs0 : (0 : Int) ≤ (s : Int) := by omega
          have hsc : (s : Int) ≤ (fc : Int) := by omega
          have hTs := sub_ents hT5 s hs
          have hrL : runL (s : Int) ((t.ents 7 0).filter (atLeast id)) = F.take s := by rw [hFF.out, runL_nat]
          have hpl : (F.take s).length = s := by rw [List.length_take]; omega
          have hHr : Hid (runL (s : Int) ((t.ents 7 0).filter (atLeast id)) = F.take s) := hrL
          have hHp : Hid ((F.take s).length = s) := hpl
          clear hrL hpl
          go_wp2_with (first | (go_at_call 15; refine (from_part mb t id hid s hlen _ hM5).mono ?_; rintro e w8 ⟨pa, pc, rfl, hP8, hb8⟩; have hTs8 := hTs.later hb8; rw [← hHr.out] at hTs8) | (go_at_call 10; refine (same_entries _ _ (runL (s : Int) ((t.ents 7 0).filter (atLeast id))) (by rw [hHr.out, hHp.out]; omega) _ hP8 hTs8).mono ?_; rintro e w9 ⟨rfl, hb9⟩; have hM9 := (hM5.later hb8).later hb9; have hA9 := (hA5.later hb8).later hb9; have hP9 := hP8.later hb9; have hB9 := below_step (below_step hB5 hb8) hb9) | (go_at_call 16; fail))
          have hb10 : Below w9.heap.size w9 (w9.alloc (.cells (withinRow mb aa (t.ents 7 0).length ac pa (runL (s : Int) ((t.ents 7 0).filter (atLeast id))).length pc id (s : Int) 0 false) 51)) := (Below.refl w9.heap.size w9).alloc (Nat.le_refl _) _
          have hW10 : WithinAt w9 (w9.alloc (.cells (withinRow mb aa (t.ents 7 0).length ac pa (runL (s : Int) ((t.ents 7 0).filter (atLeast id))).length pc id (s : Int) 0 false) 51)) w9.heap.size mb t aa ac pa pc id (s : Int) 0 false := ⟨heap_alloc_last w9 _, hM9.later hb10, hA9.later hb10, hP9.later hb10, Nat.le_refl _, hM9, hA9, hP9, hb10⟩
          refine (all_any mb t _ hW10.map).mono ?_
          rintro e w11 ⟨rfl, hI, hb11⟩
          have hW11 := hW10.later hb11
          clear hM9 hA9 hP9 hb10 hW10 hb11 hTs8 hP8 hb8 hb9 hTs hT5 hA5 hM5 hB5 hHr hHp hFF hFD
          generalize (w9.alloc (.cells (withinRow mb aa (t.ents 7 0).length ac pa (runL (s : Int) ((t.ents 7 0).filter (atLeast id))).length pc id (s : Int) 0 false) 51)).heap.size = nb at *
          have hJ0 : wJ w9 w9.heap.size mb t aa ac pa pc id (s : Int) [] w11 := ⟨List.nil_prefix, hW11⟩
          have hfr := from1_anyW ⟨w9.heap.size, 0, none⟩ nb 0 t hw7 _ _ (takes_step w9 w9.heap.size mb t hlen aa ac pa pc id hid (s : Int)) w11 hI hJ0
          have hnil : ∀ W : World, (binOp BinOp.eql 53 (.func (.func 29) #[] #[.pointer (some ⟨nb, 0, none⟩), .pointer (some ⟨nb + 1, 0, none⟩), .pointer (some ⟨nb + 1 + 1, 0, none⟩), .pointer (some ⟨nb + 1 + 1 + 1, 0, none⟩)]) .nilFunc).run Tryd.prog W = .ok (.bool false) W := fun _ => rfl
          clear hI hW11 hJ0
          unfold iterV
          go_wp2_with (go_at_call 29; fail)
          refine hfr.mono ?_
          rintro e w12 ⟨rfl, hE⟩
          rw [fromL_all] at hE
          have h12 : WithinAt w9 w12 w9.heap.size mb t aa ac pa pc id (s : Int) (t.ents 7 0).length false := by
            rcases hE with hE | ⟨pre, hp, hx⟩
            · exact hE.2
            · exact absurd hp hx.1
          clear hE hfr hnil
          obtain ⟨c0, c1, -, -, -, c5, c6⟩ := h12.cells
          have hnn : (((t.ents 7 0).length : Int) == ((t.ents 7 0).length : Int)) = true := by simp
          go_wp2_with (first | (go_at_call 9; refine (list_all mb t hlen _ h12.map).mono ?_; rintro e w13 ⟨bv, rfl, hown13, hb13⟩; have hal := ents_of_own hown13; obtain ⟨ba, bc, rfl, hbld⟩ := hal; have hbl : EntsAt w13 (.slice ba (t.ents 7 0).length bc) (t.ents 7 0) := ⟨ba, bc, rfl, hbld⟩) | (go_at_call 10; refine (same_entries _ _ (t.ents 7 0) (by omega) _ hbl (h12.all.later hb13)).mono ?_; rintro e w14 ⟨rfl, hb14⟩))
          go_ret
          exact ⟨rfl, below_step (below_step (below_step hB9 h12.below) hb13) hb14⟩

end Go.Proofs.YtmlkceganilboaaDoor
