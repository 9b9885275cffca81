import Derived.Test.YtilpommjeifdfaaHBound
namespace Go.Proofs.Ytilpommjeifdfaa
open Go.RowKit

theorem AllAt.item {W : World} {lo g off cap : Nat} {Ls : List Es} (h : AllAt W lo (.slice (some ⟨g, off, none⟩) Ls.length cap) Ls) {i : Nat} (hi : i < Ls.length) {L : Es} (hL : Ls.getD i [] = L) : ∃ a c, W.cell? ⟨g, off + i, none⟩ = some (.slice a L.length c) ∧ EntsAt W (.slice a L.length c) L ∧ L.length ≤ 200 := by
  obtain ⟨g', off', cap', ss, e, h0, h1, h2, h3⟩ := h
  injection e with e1 e2 e3
  injection e1 with e1
  injection e1 with e4 e5
  subst e3 e4 e5 hL
  rw [getD_at hi]
  obtain ⟨q1, q2, q3⟩ := h3 i hi
  have q4 := q2
  obtain ⟨a, c, hq, -⟩ := q2
  rw [hq] at q1 q4
  exact ⟨a, c, q1, q4, q3⟩
theorem backnums (p x l : Nat) (hx : x = p + 1) (hl : l = p + 2) (hp : p < 32) : ((p : Int) == 32) = false ∧ decide ((p : Int) < 0) = false ∧ decide ((32 : Int) < (p : Int)) = false ∧ (IntKind.i64.wrap ((p : Int) + 1) = (x : Int) ∧ wrap64 ((p : Int) + 1) = (x : Int)) ∧ (IntKind.i64.wrap ((x : Int) + 1) = (l : Int) ∧ wrap64 ((x : Int) + 1) = (l : Int)) ∧ (IntKind.i64.wrap (-(x : Int)) = -(x : Int) ∧ wrap64 (-(x : Int)) = -(x : Int)) ∧ (IntKind.i64.wrap ((x : Int) - 1) = (p : Int) ∧ wrap64 ((x : Int) - 1) = (p : Int)) ∧ (0 : Int) ≤ (x : Int) ∧ (x : Int) < (l : Int) ∧ (0 : Int) ≤ (p : Int) ∧ (p : Int) < (l : Int) :=
  ⟨by simp; omega, decide_eq_false (by omega), decide_eq_false (by omega), wrI (by omega) (by omega) (by omega), wrI (by omega) (by omega) (by omega), wrI rfl (by omega) (by omega), wrI (by omega) (by omega) (by omega), by omega, by omega, by omega, by omega⟩
theorem downnums (k x l : Nat) (hk : 0 < k) (hkx : k ≤ x) (hx : x + 1 + 0 = l) (hl : l ≤ 33) : ∃ j z : Nat, (0 : Int) < (k : Int) ∧ (IntKind.i64.wrap ((k : Int) - 1) = (j : Int) ∧ wrap64 ((k : Int) - 1) = (j : Int)) ∧ (IntKind.i64.wrap ((x : Int) - (k : Int)) = (z : Int) ∧ wrap64 ((x : Int) - (k : Int)) = (z : Int)) ∧ (IntKind.i64.wrap ((z : Int) + 1) = (z : Int) + 1 ∧ wrap64 ((z : Int) + 1) = (z : Int) + 1) ∧ (0 : Int) ≤ (j : Int) ∧ (j : Int) < (l : Int) ∧ Hid (k = j + 1) ∧ Hid (j < l) ∧ Hid (j + 1 + (z + 1) = l) :=
  ⟨k - 1, x - k, by omega, wrI (by omega) (by omega) (by omega), wrI (by omega) (by omega) (by omega), wrI rfl (by omega) (by omega), by omega, by omega, (show k = k - 1 + 1 by omega), (show k - 1 < l by omega), (show k - 1 + 1 + (x - k + 1) = l by omega)⟩
theorem upnums (k x l : Nat) (hkx : k < x) (hx : x + 1 + 0 = l) (hl : l ≤ 33) : ∃ j : Nat, (k : Int) < (x : Int) ∧ (IntKind.i64.wrap ((k : Int) + 1) = (j : Int) ∧ wrap64 ((k : Int) + 1) = (j : Int)) ∧ (0 : Int) ≤ (j : Int) ∧ (j : Int) < (l : Int) ∧ Hid (j = k + 1) ∧ Hid (k + 1 < l) ∧ Hid (j ≤ x) :=
  ⟨k + 1, by omega, wrI (by omega) (by omega) (by omega), by omega, by omega, (show k + 1 = k + 1 from rfl), (show k + 1 < l by omega), (show k + 1 ≤ x by omega)⟩
theorem pushed {Ls : List Es} {p : Nat} {M Lp : Es} (hp : p < Ls.length) (hL : Ls.getD p [] = Lp) : (Ls.take (p + 1) ++ [M]).length = p + 2 ∧ (Ls.take (p + 1) ++ [M]).getD (p + 1) [] = M ∧ (Ls.take (p + 1) ++ [M]).getD p [] = Lp := by
  have hl : (Ls.take (p + 1)).length = p + 1 := by rw [List.length_take]; omega
  refine ⟨by simp; omega, ?_, ?_⟩
  · rw [getD_at (by simp; omega), List.getElem_append_right (by omega)]
    simp
  · rw [getD_at (by simp; omega), List.getElem_append_left (by omega), List.getElem_take, ← getD_at hp, hL]

/-- What stands behind the first half: the history with its change, the versions told. -/
def BackS (w : World) (hb : Nat) (Ls : List Es) (lo g off cap k : Nat) (X : World) : Prop := HistAt X hb Ls k ∧ AllAt X lo (.slice (some ⟨g, off, none⟩) Ls.length cap) Ls ∧ Below w.heap.size w X
theorem BackS.later {w : World} {hb : Nat} {Ls : List Es} {lo g off cap k : Nat} {X Y : World} (h : BackS w hb Ls lo g off cap k X) (hbl : Below X.heap.size X Y) : BackS w hb Ls lo g off cap k Y := ⟨h.1.later hbl, h.2.1.later hbl, below_step h.2.2 hbl⟩
theorem BackS.kept {w : World} {hb : Nat} {Ls : List Es} {lo g off cap k k' : Nat} {X Y : World} (h : BackS w hb Ls lo g off cap k X) (hlo : hb < lo) (hlw : w.heap.size ≤ hb) (hH : HistAt Y hb Ls k') (hg : X.grownBy Y (some hb)) : BackS w hb Ls lo g off cap k' Y := ⟨hH, h.2.1.kept hlo h.1 hg, grown_below h.2.2 hg hlw⟩

set_option maxRecDepth 4000 in
set_option maxHeartbeats 8000000 in
theorem hback_walk (v : Value) (S : List HOp) (vl : Value) (L : Es) (w : World) (hS : OpsA w v S) (hL : EntA w vl L) :
    Calls Try.prog 3 #[v, vl] w fun e w' => e = .returned (.bool true) ∧ Below w.heap.size w w' := by
  have hk := known_hist w
  have hSv := hS
  have hLv := hL
  obtain ⟨a0, cap0, rfl, -⟩ := hS
  obtain ⟨a1, cap1, rfl, -⟩ := hL
  go_enter Try.func3, Try.ntmps3
  go_wp2_with (first | (go_at_call 7; refine hk.mono ?_; rintro e w1 ⟨rfl, hb1⟩) | (go_at_call 8; refine (new_nil _).mono ?_; rintro e w2 ⟨hb, rfl, hlo2, hH2, hb2⟩) | (go_at_call 9; fail))
  have hB2 := below_step hb1 hb2
  have hlo : w.heap.size ≤ hb := by have := hb1.size; omega
  refine (plays_any hb ([[]], 0) _ S w hSv hlo _ hB2 hH2).mono ?_
  rintro e w3 ⟨rfl, hH3, hg3⟩
  have hB3 := grown_below hB2 hg3 hlo
  obtain ⟨s, hs⟩ : ∃ s, s = S.foldl hstep ([[]], 0) := ⟨_, rfl⟩
  rw [← hs] at hH3
  clear hs hk hb1 hb2 hlo2 hH2 hB2 hg3 hSv
  obtain ⟨Ls, p⟩ := s
  simp only at hH3
  obtain ⟨Lp, hLp⟩ : ∃ Lp, Hid (Ls.getD p [] = Lp) := ⟨Ls.getD p [], show Ls.getD p [] = _ from rfl⟩
  have hno := now_any hb Ls p w3 hH3
  rw [hLp.out] at hno
  have hp1 := hH3.1
  have hp2 := hH3.2.1
  obtain ⟨r, hr⟩ : ∃ r, Hid (p + 1 + r = Ls.length) := ⟨Ls.length - 1 - p, show p + 1 + (Ls.length - 1 - p) = Ls.length by omega⟩
  have hde := fun X h => depth_any hb Ls p r hr.out X h
  have hH3' := hH3
  go_wp2_with (first
    | (go_at_call 11; refine hno.mono ?_; rintro e w4 ⟨mb4, rfl, hm4, hl4, hb4⟩; have hen := ents_map mb4 Lp Lp.length rfl hl4 _ hm4)
    | (go_at_call 10; refine hen.mono ?_; rintro e w5 ⟨a5, c5, rfl, he5, hb5⟩; have hde5 := hde _ ((hH3.later hb4).later hb5))
    | (go_at_call 12; refine hde5.mono ?_; rintro e w6 ⟨rfl, hb6⟩)
    | (go_at_call 14; fail))
  have hB6 := below_step (below_step (below_step hB3 hb4) hb5) hb6
  have hH6 := ((hH3.later hb4).later hb5).later hb6
  have he6 := he5.later hb6
  clear hno hen hde5 hm4 hb4 hb5 hb6 hH3 hH3' he5 hB3
  refine (build_any _ L _ (hLv.later hB6)).mono ?_
  rintro e w7 ⟨mb7, rfl, hm7, hb7⟩
  have hB7 := below_step hB6 hb7
  have hH7 := hH6.later hb7
  have he7 := he6.later hb7
  have hbl7 := hH7.lt
  clear hB6 hH6 he6 hb7
  by_cases hp : p < 32
  · have hpu := push_some hb mb7 Ls p hp (mkE L) (mkE_len L) w7 hH7 hm7
    obtain ⟨t1, t2, t3⟩ := pushed (M := mkE L) hp1 hLp.out
    obtain ⟨M, hM⟩ : ∃ M, Hid (mkE L = M) := ⟨mkE L, show mkE L = _ from rfl⟩
    have hMl : M.length ≤ 200 := by rw [← hM.out]; exact mkE_len L
    have hbu := fun X h => build_any _ L X (hLv.later h)
    rw [hM.out] at hpu t1 t2 t3 hbu hm7
    obtain ⟨T, hT⟩ : ∃ T, T = Ls.take (p + 1) ++ [M] := ⟨_, rfl⟩
    obtain ⟨x, hx⟩ : ∃ x, x = p + 1 := ⟨_, rfl⟩
    rw [← hT] at hpu t1 t2 t3
    rw [← hx] at hpu t2
    have fu1 : Hid (T.length = p + 2 ∧ x = p + 1 ∧ p < 32) := ⟨t1, hx, hp⟩
    have fu2 : Hid (T.getD x [] = M) := t2
    have fu3 : Hid (T.getD p [] = Lp) := t3
    have fu4 : Hid (w.heap.size ≤ hb) := hlo
    have fu5 : Hid (p < T.length) := by show p < T.length; omega
    have fu6 : Hid (x < T.length) := by show x < T.length; omega
    have fu7 : Hid (T.length ≤ 33) := by show T.length ≤ 33; omega
    have fu8 : Hid (x + 1 + 0 = T.length) := by show x + 1 + 0 = T.length; omega
    have fu9 : Hid (M.length ≤ 200 ∧ M.length ≤ 1000000000) := by show M.length ≤ 200 ∧ M.length ≤ 1000000000; omega
    have fu10 : Hid (Lp.length ≤ 1000000000) := by show Lp.length ≤ 1000000000; omega
    obtain ⟨n1, n2, n3, ⟨n4, n4'⟩, ⟨n5, n5'⟩, ⟨n6, n6'⟩, ⟨n7, n7'⟩, n8, n9, n10, n11⟩ := backnums p x T.length hx t1 hp
    clear hT hx t1 t2 t3 hde hp1 hp2 hr hp hlo hLv hMl hl4
    go_wp2_with (go_at_call 13; fail)
    refine hpu.mono ?_
    rintro e w8 ⟨rfl, hH8, hg8⟩
    have hB8 := grown_below hB7 hg8 fu4.out
    have he8 := he7.kept hH7 hg8
    have hde8 := depth_any hb T x 0 fu8.out w8 hH8
    rw [show (((0 : Nat)) : Int) = 0 from rfl] at hde8
    have hbl8 : Hid (hb < w8.heap.size) := hH8.lt
    clear hpu hB7 hH7 he7 hg8 hm7 hbl7
    go_wp2_with (first
      | (go_at_call 12; refine hde8.mono ?_; rintro e w9 ⟨rfl, hb9⟩; have hno9 := now_any hb T x _ (hH8.later hb9); rw [fu2.out] at hno9)
      | (go_at_call 11; refine hno9.mono ?_; rintro e w10 ⟨mb10, rfl, hm10, -, hb10⟩; have hen10 := ents_map mb10 M M.length rfl fu9.out.1 _ hm10)
      | (go_at_call 10; refine hen10.mono ?_; rintro e w11 ⟨a11, c11, rfl, he11, hb11⟩)
      | (go_at_call 14; fail))
    have hB11 := below_step (below_step (below_step hB8 hb9) hb10) hb11
    have hH11 := ((hH8.later hb9).later hb10).later hb11
    have hw11 := ((he8.later hb9).later hb10).later hb11
    clear hde8 hno9 hen10 hm10 hB8 hH8 he8
    refine (hbu _ hB11).mono ?_
    rintro e w12 ⟨mb12, rfl, hm12, hb12⟩
    have hen12 := ents_map mb12 M M.length rfl fu9.out.1 _ hm12
    go_wp2_with (go_at_call 10; fail)
    refine hen12.mono ?_
    rintro e w13 ⟨a13, c13, rfl, he13, hb13⟩
    have hse := same_ents _ _ M fu9.out.2 _ ((he11.later hb12).later hb13) he13
    go_wp2_with (go_at_call 15; fail)
    refine hse.mono ?_
    rintro e w14 ⟨rfl, hb14⟩
    have hB14 := below_step (below_step (below_step hB11 hb12) hb13) hb14
    have hH14 := ((hH11.later hb12).later hb13).later hb14
    have hw14 := ((hw11.later hb12).later hb13).later hb14
    have hn14 := ((he11.later hb12).later hb13).later hb14
    have hbl14 : Hid (hb < w14.heap.size) := hH14.lt
    have hal := all_at hb T x _ rfl _ hH14
    clear hen12 hse hm12 he13 hb13 hb12 hb14 hB11 hH11 hw11 he11 hbu
    go_wp2_with (go_at_call 16; fail)
    refine hal.mono ?_
    rintro e w15 ⟨g, off, cap, rfl, hc15, hA15, hb15⟩
    have hS15 : BackS w hb T w14.heap.size g off cap x w15 := ⟨hH14.later hb15, hA15, below_step hB14 hb15⟩
    have hw15 := hw14.later hb15
    have hn15 := hn14.later hb15
    obtain ⟨b1, d1, cell1, ee1, -⟩ := hA15.item fu6.out fu2.out
    obtain ⟨b2, d2, cell2, ee2, lp2⟩ := hA15.item fu5.out fu3.out
    have hse1 := same_ents _ _ M fu9.out.2 _ ee1 hn15
    clear hal hH14 hw14 hn14 hA15 hB14 hc15
    go_wp2_with (go_at_call 15; fail)
    refine hse1.mono ?_
    rintro e w16 ⟨rfl, hb16⟩
    have cell2' := (hb16.cell (p := ⟨g, off + p, none⟩) (World.block_lt_of_cell? _ _ cell2)).trans cell2
    have hse2 := same_ents _ _ Lp fu10.out _ (ee2.later hb16) (hw15.later hb16)
    have hS16 := hS15.later hb16
    clear hse1 cell1 cell2 ee1 ee2 hw15 hn15 hS15 lp2
    go_wp2_with (go_at_call 15; fail)
    refine hse2.mono ?_
    rintro e w17 ⟨rfl, hb17⟩
    have hS17 := hS16.later hb17
    clear hse2 cell2' hS16
    go_wp2
    go_loopw [17] (fun iv X => ∃ k : Nat, Hid (k ≤ x) ∧ iv = .int .i64 (k : Int) ∧ BackS w hb T w14.heap.size g off cap k X) (fun iv _ => (intOf iv).toNat)
    case atStart => exact ⟨x, Nat.le_refl x, rfl, hS17⟩
    case round =>
      obtain ⟨k, hkx, rfl, hSk⟩ := hrel
      clear hS17
      rcases Nat.eq_zero_or_pos k with hk0 | hk0
      · subst hk0
        have hun := undo_none hb T wr hSk.1
        clear hkx
        go_wp2_with (go_at_call 17; fail)
        refine hun.mono ?_
        rintro e w20 ⟨rfl, hb20⟩
        have hS20 := hSk.later hb20
        clear hun hSk
        go_wp2
        go_loopw [24] (fun iv X => ∃ k : Nat, Hid (k ≤ x) ∧ iv = .int .i64 (k : Int) ∧ BackS w hb T w14.heap.size g off cap k X) (fun iv _ => x - (intOf iv).toNat)
        case atStart => exact ⟨0, Nat.zero_le x, rfl, hS20⟩
        case round =>
          obtain ⟨k, hkx, rfl, hSk⟩ := hrel
          clear hS20
          have hkl : k = x ∨ k < x := by have := hkx.out; clear n1 n2 n3 n4 n4' n5 n5' n6 n6' n7 n7' n8 n9 n10 n11; omega
          rcases hkl with hkl | hkl
          · subst hkl
            have hal := all_at hb T k _ rfl _ hSk.1
            clear hkx
            have hlt : ¬ (k : Int) < (k : Int) := Int.lt_irrefl _
            go_wp2_with (go_at_call 16; fail)
            refine hal.mono ?_
            rintro e w22 ⟨g2, o2, c2, rfl, hc2, hA2, hb22⟩
            have hS22 := hSk.later hb22
            have hre := redo_none hb T k fu8.out _ hS22.1
            clear hal hSk hc2
            go_wp2_with (go_at_call 18; fail)
            refine hre.mono ?_
            rintro e w23 ⟨rfl, hb23⟩
            have hS23 := hS22.later hb23
            have hsa := same_lists _ _ _ _ T fu7.out _ hS23.2.1 (hA2.later hb23)
            clear hre hS22 hA2
            go_wp2_with (go_at_call 19; fail)
            refine hsa.mono ?_
            rintro e w24 ⟨rfl, hb24⟩
            clear hsa
            go_wp2
            go_ret
            exact ⟨rfl, below_step hS23.2.2 hb24⟩
          · obtain ⟨j, q1, ⟨q2, q3⟩, q8, q9, hjk, hjT, hjx⟩ := upnums k x T.length hkl fu8.out fu7.out
            have hre := redo_some hb T k hjT.out wr hSk.1
            obtain ⟨Lj, hLj⟩ : ∃ Lj, Hid (T.getD j [] = Lj) := ⟨T.getD j [], show T.getD j [] = _ from rfl⟩
            rw [← hjk.out, hLj.out] at hre
            have hkl' : Hid (k < x) := hkl
            have hjT' : Hid (j < T.length) := by show j < T.length; rw [hjk.out]; exact hjT.out
            clear hkx hkl
            go_wp2_with (go_at_call 18; fail)
            refine hre.mono ?_
            rintro e w21 ⟨mb20, rfl, hm20, hl20, hH20, hg20⟩
            have hS21 := hSk.kept hbl14.out fu4.out hH20 hg20
            have hl20' : Hid (Lj.length ≤ 200 ∧ Lj.length ≤ 1000000000) := ⟨hl20, Nat.le_trans hl20 (by decide)⟩
            have hD := (Below.refl w21.heap.size w21).drew
            have hen := ents_map mb20 Lj Lj.length rfl hl20'.out.1 _ (hm20.later hD)
            obtain ⟨b1, d1, cell1, ee1, -⟩ := hS21.2.1.item hjT'.out hLj.out
            have hgl := World.block_lt_of_cell? _ _ cell1
            have hc0 : ∀ X, Below w21.heap.size w21 X → X.cell? ⟨g, off + j, none⟩ = some (.slice b1 Lj.length d1) := fun X hX => (hX.cell (p := ⟨g, off + j, none⟩) hgl).trans cell1
            have hc1 := hc0 _ hD
            clear hre hSk hH20 hg20 hl20 hm20
            go_wp2
            go_region_held3 (fun X => X.cell? ⟨g, off + j, none⟩ = some (.slice b1 Lj.length d1)) (with_reducible assumption)
              (first
                | (go_at_call 10; refine hen.mono ?_; rintro e w22 ⟨a22, c22, rfl, he22, hb22⟩; have hB22 := below_step hD hb22; have hc22 := hc0 _ hB22; have hse := same_ents _ _ Lj hl20'.out.2 _ he22 (ee1.later hB22))
                | (go_at_call 15; refine hse.mono ?_; rintro e w23 ⟨rfl, hb23⟩; have hB23 := below_step hB22 hb23; have hc23 := hc0 _ hB23))
            go_wp2
            go_roundw
            case rel => exact ⟨j, (show j ≤ x from hjx.out), rfl, hS21.later hB23⟩
            case measure =>
              have h1 := hjk.out
              have h2 := hkl'.out
              clear q1 q2 q3 q8 q9 n1 n2 n3 n4 n4' n5 n5' n6 n6' n7 n7' n8 n9 n10 n11
              simp [intOf]
              omega
      · obtain ⟨j, z, q1, ⟨q2, q3⟩, ⟨q4, q5⟩, ⟨q6, q7⟩, q8, q9, hjk, hjT, hjr⟩ := downnums k x T.length hk0 hkx.out fu8.out fu7.out
        have hSk1 := hSk.1
        rw [hjk.out] at hSk1
        have hun := undo_some hb T j wr hSk1
        obtain ⟨Lj, hLj⟩ : ∃ Lj, Hid (T.getD j [] = Lj) := ⟨T.getD j [], show T.getD j [] = _ from rfl⟩
        rw [hLj.out] at hun
        have hkx' := hkx
        clear hkx hk0 hSk1
        go_wp2_with (go_at_call 17; fail)
        refine hun.mono ?_
        rintro e w20 ⟨mb20, rfl, hm20, hl20, hH20, hg20⟩
        have hS20 := hSk.kept hbl14.out fu4.out hH20 hg20
        have hde20 := depth_any hb T j (z + 1) hjr.out _ hH20
        rw [show (((z + 1 : Nat)) : Int) = (z : Int) + 1 from by rfl] at hde20
        have hl20' : Hid (Lj.length ≤ 200 ∧ Lj.length ≤ 1000000000) := ⟨hl20, Nat.le_trans hl20 (by decide)⟩
        clear hun hSk hH20 hg20 hl20
        go_wp2_with (go_at_call 12; fail)
        refine hde20.mono ?_
        rintro e w21 ⟨rfl, hb21⟩
        have hS21 := hS20.later hb21
        have hD := (Below.refl w21.heap.size w21).drew
        have hen := ents_map mb20 Lj Lj.length rfl hl20'.out.1 _ ((hm20.later hb21).later hD)
        obtain ⟨b1, d1, cell1, ee1, -⟩ := hS21.2.1.item hjT.out hLj.out
        have hgl := World.block_lt_of_cell? _ _ cell1
        have hc0 : ∀ X, Below w21.heap.size w21 X → X.cell? ⟨g, off + j, none⟩ = some (.slice b1 Lj.length d1) := fun X hX => (hX.cell (p := ⟨g, off + j, none⟩) hgl).trans cell1
        have hc1 := hc0 _ hD
        clear hde20 hm20 hS20
        go_wp2
        go_region_held3 (fun X => X.cell? ⟨g, off + j, none⟩ = some (.slice b1 Lj.length d1)) (with_reducible assumption)
          (first
            | (go_at_call 10; refine hen.mono ?_; rintro e w22 ⟨a22, c22, rfl, he22, hb22⟩; have hB22 := below_step hD hb22; have hc22 := hc0 _ hB22; have hse := same_ents _ _ Lj hl20'.out.2 _ he22 (ee1.later hB22))
            | (go_at_call 15; refine hse.mono ?_; rintro e w23 ⟨rfl, hb23⟩; have hB23 := below_step hB22 hb23; have hc23 := hc0 _ hB23))
        go_wp2
        go_roundw
        case rel => exact ⟨j, (show j ≤ x from by have h1 := hjk.out; have h2 := hkx'.out; clear q1 q2 q3 q4 q5 q6 q7 q8 q9 n1 n2 n3 n4 n4' n5 n5' n6 n6' n7 n7' n8 n9 n10 n11; omega), rfl, hS21.later hB23⟩
        case measure =>
          have h1 := hjk.out
          clear q1 q2 q3 q4 q5 q6 q7 q8 q9 n1 n2 n3 n4 n4' n5 n5' n6 n6' n7 n7' n8 n9 n10 n11
          simp [intOf]
          omega
  · obtain rfl : p = 32 := by omega
    have hpu := push_full hb mb7 Ls w7 hH7
    have fu4 : Hid (w.heap.size ≤ hb) := hlo
    have fu10 : Hid (Lp.length ≤ 200 ∧ Lp.length ≤ 1000000000) := ⟨hl4, by omega⟩
    rw [show (((32 : Nat)) : Int) = 32 from rfl] at hde
    clear hp hp1 hp2 hlo hm7 hl4
    go_wp2_with (go_at_call 13; fail)
    refine hpu.mono ?_
    rintro e w8 ⟨rfl, hb8⟩
    have hde8 := hde _ (hH7.later hb8)
    have hno8 := fun X h => now_any hb Ls 32 X h
    rw [hLp.out] at hno8
    clear hpu hde
    go_wp2_with (go_at_call 12; fail)
    refine hde8.mono ?_
    rintro e w9 ⟨rfl, hb9⟩
    have hno9 := hno8 _ ((hH7.later hb8).later hb9)
    clear hde8 hno8
    go_wp2_with (go_at_call 11; fail)
    refine hno9.mono ?_
    rintro e w10 ⟨mb10, rfl, hm10, -, hb10⟩
    have hen := ents_map mb10 Lp Lp.length rfl fu10.out.1 _ hm10
    go_wp2_with (go_at_call 10; fail)
    refine hen.mono ?_
    rintro e w11 ⟨a11, c11, rfl, he11, hb11⟩
    have hse := same_ents _ _ Lp fu10.out.2 _ he11 ((((he7.later hb8).later hb9).later hb10).later hb11)
    go_wp2_with (go_at_call 15; fail)
    refine hse.mono ?_
    rintro e w12 ⟨rfl, hb12⟩
    clear hse hen hno9
    go_wp2
    go_ret
    exact ⟨rfl, below_step (below_step (below_step (below_step (below_step hB7 hb8) hb9) hb10) hb11) hb12⟩

end Go.Proofs.Ytilpommjeifdfaa
