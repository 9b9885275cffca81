import Derived.Test.YtmppgcijbeipfaaDoorRsPut
import Derived.Test.YtmppgcijbeipfaaDoorJoin48
import Derived.Test.YtmppgcijbeipfaaDoorTRun
import Derived.RangeFuncNested
import Derived.RangeFuncBound
import Derived.RangeFuncCalls
import Derived.RangeFuncLeaves
import Derived.Shelf.Abstract
import Derived.OwnWalkIn
import Derived.TacticsInMore
import Derived.LoopNIn
import Derived.LoopIn
import Derived.Stop.RegionWithIn
import Derived.Deep.QuietTactic
import Derived.BigQuiet
namespace Go.Proofs.YtmppgcijbeipfaaDoor
open Go.RowKit

set_option maxRecDepth 4000 in
set_option maxHeartbeats 80000000 in
theorem dropAs_rs (σ : Nat → Nat → Int) (b id : Nat) (hid : id < 4294967296) (stamp : Int) (L : Es) (hk : ∀ e ∈ L, e.1 < 4294967296) (hl : L.length ≤ 5000000000) (w : World) (h : RsAt w b L σ) : Calls Tryd.prog 17 #[.pointer (some ⟨b, 0, none⟩), .int .u32 (id : Int), .int .i64 stamp] w fun e w' => ∃ nb, e = .returned (.pointer (some ⟨nb, 0, none⟩)) ∧ ((nb = b ∧ rfHas L id = false ∧ del L id = L ∧ RsAt w' b L σ) ∨ (rfHas L id = true ∧ w.heap.size ≤ nb ∧ RsAt w' nb (del L id) (updS σ id stamp))) ∧ Below w.heap.size w w' := by
  have hpl := place_rf b id L hl w h.rf
  go_enter Tryd.func17, Tryd.ntmps17
  go_wp2_with (go_at_call 35; fail)
  refine hpl.mono ?_
  rintro e w1 ⟨rfl, m1, rfl⟩
  clear hpl
  have hrs : Hid (Rises L) := by obtain ⟨_, _, _, _, _, _, _, _, _, hr⟩ := h.rf; exact hr
  have hb3 := below_drewN (Below.refl w.heap.size w) m1
  have h3 := h.later hb3
  clear h
  generalize w.drewN m1 = V at *
  cases hhas : rfHas L id with
  | false =>
    have hd := del_none_rf hrs.out hhas
    have hH : Hid (rfHas L id = false) := hhas
    clear hhas hk
    go_wp2
    go_ret
    exact ⟨b, rfl, .inl ⟨rfl, hH.out, hd, h3⟩, hb3⟩
  | true =>
    obtain ⟨hp', he'⟩ := rfHas_iff.1 hhas
    obtain ⟨at', hat⟩ : ∃ at', at' = rfPl L id := ⟨_, rfl⟩
    have hp : Hid (rfPl L id < L.length) := hp'
    have he : Hid (L[rfPl L id].1 = id) := he'
    rw [← hat]
    have hatH : Hid (at' = rfPl L id) := hat
    have hH : Hid (rfHas L id = true) := hhas
    clear hp' he' hat hhas
    go_wp2_with fail
    obtain ⟨nb, hnb⟩ : ∃ nb, nb = V.heap.size := ⟨_, rfl⟩
    rw [← hnb]
    have hrow := heap_alloc_last V (.cells #[.slice none 0 0, .slice none 0 0, .slice none 0 0] 77)
    rw [← hnb] at hrow
    have hRn : RfR (V.alloc (.cells #[.slice none 0 0, .slice none 0 0, .slice none 0 0] 77)) nb (.slice none 0 0) (.slice none 0 0) (.slice none 0 0) [] [] 0 [] := ⟨hrow, World.ownsRow_nil _ _ _ _, World.ownsRow_nil _ _ _ _, World.ownsRow_nil _ _ _ _, rfl⟩
    have hbV1 := (Below.refl V.heap.size V).alloc (Nat.le_refl _) (.cells #[.slice none 0 0, .slice none 0 0, .slice none 0 0] 77)
    have hnbV : Hid (V.heap.size ≤ nb ∧ nb = V.heap.size) := ⟨by rw [hnb]; exact Nat.le_refl _, hnb⟩
    clear hnb
    generalize V.alloc (.cells #[.slice none 0 0, .slice none 0 0, .slice none 0 0] 77) = V1 at *
    obtain ⟨ik0, hik0, hz00, hz01, hz02⟩ := info_parts infoU4
    obtain ⟨ik1, hik1, hz10, hz11, hz12⟩ := info_parts infoV2
    obtain ⟨ik2, hik2, hz20, hz21, hz22⟩ := info_parts infoA8
    have hbV : Hid (b < V.heap.size) := h3.lt
    obtain ⟨ai, av, az, ci, cv, cs, c0, c1, c2, hc⟩ := h3.rf.cells
    go_loopw [10] (fun iv X => ∃ i : Nat, Hid (i ≤ L.length) ∧ iv = .int .i64 (i : Int) ∧ (∃ vi vv vs st, RfR X nb vi vv vs (del (L.take i) id) (del (L.take i) id) (del (L.take i) id).length st ∧ Hid (SZ σ id (del (L.take i) id) st)) ∧ Below V.heap.size V X) (fun iv _ => L.length - (intOf iv).toNat)
    case atStart => exact ⟨0, Nat.zero_le _, rfl, ⟨_, _, _, _, hRn, SZ_nil σ id⟩, hbV1⟩
    case round =>
      clear hRn hrow hbV1
      obtain ⟨i, hi, rfl, ⟨wi, wv, ws, sm, hR, hZ⟩, hB⟩ := hrel
      have d0 := (hB.cell (p := ⟨b, 0, none⟩) hbV.out).trans c0
      have hnN : Hid ((del (L.take i) id).length ≤ 5000000003) := by have h1 := del_len L id i; have h2 := hi.out; show _ ≤ 5000000003; omega
      by_cases hil : i < L.length
      · by_cases hia : i = rfPl L id
        · have hil' : (i : Int) < (L.length : Int) := Int.ofNat_lt.2 hil
          have hia2 : i = at' := by rw [hatH.out]; exact hia
          subst hia2
          have hde := del_at hrs.out hp.out he.out hil
          rw [if_pos hia] at hde
          have hdeH : Hid (_) := hde
          clear hde hc c0 c1 c2 hnN
          go_wp2
          exact ⟨⟨i + 1, hil, by go_num, ⟨_, _, _, _, by rw [hdeH.out]; exact hR, by rw [hdeH.out]; exact hZ⟩, hB⟩, by simp [intOf]; omega⟩
        · have hia' : ¬ (i : Int) = (at' : Int) := fun h => hia (by rw [← hatH.out]; exact Int.ofNat_inj.1 h)
          obtain ⟨N, hN⟩ : ∃ N, Hid (del (L.take i) id = N) := ⟨_, show _ = _ from rfl⟩
          rw [hN.out] at hR hnN hZ
          obtain ⟨gi, gv, gs, rfl, rfl, rfl, hgi, hgv, hgs, hcc, hss⟩ := hc (Nat.lt_of_le_of_lt (Nat.zero_le _) hil)
          obtain ⟨a0, a1, a2⟩ := hcc i hil
          obtain ⟨t0, t1, t2, t3, t4, t5, t6, t7, s0, s1, s2, s3, s4, s5, s6, s7, ht⟩ := st_eight_rs (fun l hl => h3.stamps c2 i hil l hl)
          have hil' : (i : Int) < (L.length : Int) := Int.ofNat_lt.2 hil
          have hi0 : (0 : Int) ≤ (i : Int) := Int.natCast_nonneg _
          have hLi : Hid (L[i] = (L[i].1, (L[i].2.1, L[i].2.2))) := (rfl : L[i] = (L[i].1, (L[i].2.1, L[i].2.2)))
          obtain ⟨key, hkey⟩ : ∃ key, key = L[i].1 := ⟨_, rfl⟩
          obtain ⟨kx, hkx⟩ : ∃ kx, kx = L[i].2.1 := ⟨_, rfl⟩
          obtain ⟨ky, hky⟩ : ∃ ky, ky = L[i].2.2 := ⟨_, rfl⟩
          rw [← hkey] at a0 hLi
          rw [← hkx] at a1 hLi
          rw [← hky] at a2 hLi
          have hmc : Hid (∀ Y, Below V.heap.size V Y → Y.cell? ⟨b, 0, none⟩ = some (.slice (some ⟨gi, 0, none⟩) L.length ci) ∧ Y.cell? ⟨b, 1, none⟩ = some (.slice (some ⟨gv, 0, none⟩) L.length cv) ∧ Y.cell? ⟨b, 2, none⟩ = some (.slice (some ⟨gs, 0, none⟩) L.length cs) ∧ Y.cell? ⟨gi, i, none⟩ = some (.int .u32 (key : Int)) ∧ Y.cell? ⟨gv, i * 2, none⟩ = some (.int .i64 kx) ∧ Y.cell? ⟨gv, i * 2 + 1, none⟩ = some (.int .i64 ky) ∧ Y.cell? ⟨gs, i * 8, none⟩ = some (.int .i64 t0) ∧ Y.cell? ⟨gs, i * 8 + 1, none⟩ = some (.int .i64 t1) ∧ Y.cell? ⟨gs, i * 8 + 2, none⟩ = some (.int .i64 t2) ∧ Y.cell? ⟨gs, i * 8 + 3, none⟩ = some (.int .i64 t3) ∧ Y.cell? ⟨gs, i * 8 + 4, none⟩ = some (.int .i64 t4) ∧ Y.cell? ⟨gs, i * 8 + 5, none⟩ = some (.int .i64 t5) ∧ Y.cell? ⟨gs, i * 8 + 6, none⟩ = some (.int .i64 t6) ∧ Y.cell? ⟨gs, i * 8 + 7, none⟩ = some (.int .i64 t7)) := fun Y hY => by
            have kc : ∀ (g o : Nat), g < V.heap.size → Y.cell? ⟨g, o, none⟩ = V.cell? ⟨g, o, none⟩ := fun g o hg => hY.cell (p := ⟨g, o, none⟩) hg
            exact ⟨(kc _ _ hbV.out).trans c0, (kc _ _ hbV.out).trans c1, (kc _ _ hbV.out).trans c2, (kc _ _ hgi).trans a0, (kc _ _ hgv).trans a1, (kc _ _ hgv).trans a2, (kc _ _ hgs).trans s0, (kc _ _ hgs).trans s1, (kc _ _ hgs).trans s2, (kc _ _ hgs).trans s3, (kc _ _ hgs).trans s4, (kc _ _ hgs).trans s5, (kc _ _ hgs).trans s6, (kc _ _ hgs).trans s7⟩
          have hZ9 : Hid (SZ σ id (N ++ [(key, (kx, ky))]) (sm ++ [t0, t1, t2, t3, t4, t5, t6, t7])) := SZ_old hZ.out hR.len key (kx, ky) (by rw [hkey]; exact ht.out)
          clear hkey hkx hky a0 a1 a2 s0 s1 s2 s3 s4 s5 s6 s7 hcc hss hc
          go_upto_region 9 with fail
          go_cut [34] (fun _ wx => ∃ v', RfR wx nb v' wv ws (N ++ [(key, (kx, ky))]) N N.length sm ∧ Below nb wr wx)
          case first =>
            obtain ⟨ea, ec, hea, -⟩ := own_sl hR.ids
            subst hea
            have cN : wr.cell? ⟨nb, 0, none⟩ = some (.slice ea N.length ec) := cell_of_row _ _ 0 _ _ _ hR.row
            have hbA : Below wr.heap.size wr (wr.alloc (.cells #[.int .u32 (key : Int)] 27)).drew := ((Below.refl wr.heap.size wr).alloc (Nat.le_refl _) (.cells #[.int .u32 (key : Int)] 27)).drew
            have hA := hR.later hbA
            have hzA : nb + 1 ≤ (wr.alloc (.cells #[.int .u32 (key : Int)] 27)).drew.heap.size := by have h1 := hbA.size; have h2 := (Array.getElem?_eq_some_iff.1 hR.row).1; omega
            have hnl : N.length + 1 ≤ maxLen ∧ (N.length + 1) * 4 ≤ 140737488355328 := by have := hnN.out; unfold maxLen; omega
            have hba : ∀ o, Below wr.heap.size wr (wr.alloc o) := fun o => (Below.refl _ _).alloc (Nat.le_refl _) o
            have cN' : ∀ o, (wr.alloc o).cell? ⟨nb, 0, none⟩ = some (.slice ea N.length ec) := fun o => ((hba o).cell (p := ⟨nb, 0, none⟩) (Array.getElem?_eq_some_iff.1 hR.row).1).trans cN
            obtain ⟨m0, m1, m2, m3, m4, m5, -⟩ := hmc.out _ hB
            go_region_law (refine step_append_own _ rfl _ _ 73 rfl (nb + 1) 27 ik0 _ 1 4 Tryd.underlying73 hik0 hz00 hz01 hz02 rfl (by decide) _ N.length (idV N) rfl hA.ids ⟨wr.heap.size, 0, none⟩ 1 1 [.int .u32 (key : Int)] rfl rfl (rf_alloc wr [.int .u32 (key : Int)] 27 _ rfl) (by intro u hu; simp only [List.mem_cons, List.not_mem_nil, or_false] at hu; (repeat (first | (rcases hu with rfl | hu; rfl) | (subst hu; rfl)))) hnl.1 hnl.2 hzA ?_; intro v2 w2 hown2 hgrow2; obtain ⟨g2, cap2, rfl⟩ := own_some hown2 (by omega); obtain ⟨hM1, hBn, cS, fS⟩ := hA.app0 (key, (kx, ky)) hown2 hgrow2)
            all_goals
              have hBY : Below nb wr (w2.setCell ⟨nb, 0, none⟩ (.slice (some ⟨g2, 0, none⟩) (N.length + 1) cap2)) := (hbA.mono (Nat.le_of_lt (Array.getElem?_eq_some_iff.1 hR.row).1)).trans hBn
              clear cS fS hown2 hgrow2 hA hbA hzA hnl cN cN' hba
              go_wp2_with fail
              go_meet
              exact ⟨_, hM1, hBY⟩
          case rest =>
            obtain ⟨vZ1, hM1, hBZ1⟩ := hcut
            obtain ⟨Z1, hZ1⟩ : ∃ Y, Y = wc := ⟨_, rfl⟩
            subst hZ1
            have hBq1 : Below V.heap.size V Z1 := hB.trans (hBZ1.mono hnbV.out.1)
            go_upto_region 10 with fail
            go_cut [50] (fun _ wx => ∃ v', RfR wx nb vZ1 v' ws (N ++ [(key, (kx, ky))]) (N ++ [(key, (kx, ky))]) N.length sm ∧ Below nb Z1 wx)
            case first =>
              obtain ⟨ea, ec, hea, -⟩ := own_sl hM1.vals
              subst hea
              have cN : Z1.cell? ⟨nb, 1, none⟩ = some (.slice ea N.length ec) := cell_of_row _ _ 1 _ _ _ hM1.row
              have hbA : Below Z1.heap.size Z1 (Z1.alloc (.cells #[.int .i64 kx, .int .i64 ky] 29)).drew := ((Below.refl Z1.heap.size Z1).alloc (Nat.le_refl _) (.cells #[.int .i64 kx, .int .i64 ky] 29)).drew
              have hA := hM1.later hbA
              have hzA : nb + 1 ≤ (Z1.alloc (.cells #[.int .i64 kx, .int .i64 ky] 29)).drew.heap.size := by have h1 := hbA.size; have h2 := (Array.getElem?_eq_some_iff.1 hM1.row).1; omega
              have hnl : N.length + 1 ≤ maxLen ∧ (N.length + 1) * 16 ≤ 140737488355328 := by have := hnN.out; unfold maxLen; omega
              have hba : ∀ o, Below Z1.heap.size Z1 (Z1.alloc o) := fun o => (Below.refl _ _).alloc (Nat.le_refl _) o
              have cN' : ∀ o, (Z1.alloc o).cell? ⟨nb, 1, none⟩ = some (.slice ea N.length ec) := fun o => ((hba o).cell (p := ⟨nb, 1, none⟩) (Array.getElem?_eq_some_iff.1 hM1.row).1).trans cN
              obtain ⟨m0, m1, m2, m3, m4, m5, -⟩ := hmc.out _ hBq1
              go_region_law (refine step_append_own _ rfl _ _ 74 rfl (nb + 1) 29 ik1 _ 2 16 Tryd.underlying74 hik1 hz10 hz11 hz12 rfl (by decide) _ N.length (vaV N) rfl hA.vals ⟨Z1.heap.size, 0, none⟩ 1 1 [.int .i64 kx, .int .i64 ky] rfl rfl (rf_alloc Z1 [.int .i64 kx, .int .i64 ky] 29 _ rfl) (by intro u hu; simp only [List.mem_cons, List.not_mem_nil, or_false] at hu; (repeat (first | (rcases hu with rfl | hu; rfl) | (subst hu; rfl)))) hnl.1 hnl.2 hzA ?_; intro v2 w2 hown2 hgrow2; obtain ⟨g2, cap2, rfl⟩ := own_some hown2 (by omega); obtain ⟨hM2, hBn, cS, fS⟩ := hA.app1 (key, (kx, ky)) hown2 hgrow2)
              all_goals
                have hBY : Below nb Z1 (w2.setCell ⟨nb, 1, none⟩ (.slice (some ⟨g2, 0, none⟩) (N.length + 1) cap2)) := (hbA.mono (Nat.le_of_lt (Array.getElem?_eq_some_iff.1 hM1.row).1)).trans hBn
                clear cS fS hown2 hgrow2 hA hbA hzA hnl cN cN' hba
                go_wp2_with fail
                go_meet
                exact ⟨_, hM2, hBY⟩
            case rest =>
              obtain ⟨vZ2, hM2, hBZ2⟩ := hcut
              obtain ⟨Z2, hZ2⟩ : ∃ Y, Y = wc := ⟨_, rfl⟩
              subst hZ2
              have hBq2 : Below V.heap.size V Z2 := hBq1.trans (hBZ2.mono hnbV.out.1)
              go_upto_region 11 with fail
              obtain ⟨ea, ec, hea, -⟩ := own_sl hM2.sts
              subst hea
              have cN : Z2.cell? ⟨nb, 2, none⟩ = some (.slice ea N.length ec) := cell_of_row _ _ 2 _ _ _ hM2.row
              have hbA : Below Z2.heap.size Z2 (Z2.alloc (.cells #[.int .i64 t0, .int .i64 t1, .int .i64 t2, .int .i64 t3, .int .i64 t4, .int .i64 t5, .int .i64 t6, .int .i64 t7] 87)).drew := ((Below.refl Z2.heap.size Z2).alloc (Nat.le_refl _) (.cells #[.int .i64 t0, .int .i64 t1, .int .i64 t2, .int .i64 t3, .int .i64 t4, .int .i64 t5, .int .i64 t6, .int .i64 t7] 87)).drew
              have hA := hM2.later hbA
              have hzA : nb + 1 ≤ (Z2.alloc (.cells #[.int .i64 t0, .int .i64 t1, .int .i64 t2, .int .i64 t3, .int .i64 t4, .int .i64 t5, .int .i64 t6, .int .i64 t7] 87)).drew.heap.size := by have h1 := hbA.size; have h2 := (Array.getElem?_eq_some_iff.1 hM2.row).1; omega
              have hnl : N.length + 1 ≤ maxLen ∧ (N.length + 1) * 64 ≤ 140737488355328 := by have := hnN.out; unfold maxLen; omega
              have hba : ∀ o, Below Z2.heap.size Z2 (Z2.alloc o) := fun o => (Below.refl _ _).alloc (Nat.le_refl _) o
              have cN' : ∀ o, (Z2.alloc o).cell? ⟨nb, 2, none⟩ = some (.slice ea N.length ec) := fun o => ((hba o).cell (p := ⟨nb, 2, none⟩) (Array.getElem?_eq_some_iff.1 hM2.row).1).trans cN
              obtain ⟨m0, m1, m2, m3, m4, m5, s0, s1, s2, s3, s4, s5, s6, s7⟩ := hmc.out _ hBq2
              go_region_law (refine step_append_own _ rfl _ _ 75 rfl (nb + 1) 87 ik2 _ 8 64 Tryd.underlying75 hik2 hz20 hz21 hz22 rfl (by decide) _ N.length (stV sm) rfl hA.sts ⟨Z2.heap.size, 0, none⟩ 1 1 [.int .i64 t0, .int .i64 t1, .int .i64 t2, .int .i64 t3, .int .i64 t4, .int .i64 t5, .int .i64 t6, .int .i64 t7] rfl rfl (rf_alloc Z2 [.int .i64 t0, .int .i64 t1, .int .i64 t2, .int .i64 t3, .int .i64 t4, .int .i64 t5, .int .i64 t6, .int .i64 t7] 87 _ rfl) (by intro u hu; simp only [List.mem_cons, List.not_mem_nil, or_false] at hu; (repeat (first | (rcases hu with rfl | hu; rfl) | (subst hu; rfl)))) hnl.1 hnl.2 hzA ?_; intro v2 w2 hown2 hgrow2; obtain ⟨g2, cap2, rfl⟩ := own_some hown2 (by omega); obtain ⟨hM3, hBn, cS, fS⟩ := hA.app2 [t0, t1, t2, t3, t4, t5, t6, t7] rfl hown2 hgrow2)
              all_goals
                have hBY : Below nb Z2 (w2.setCell ⟨nb, 2, none⟩ (.slice (some ⟨g2, 0, none⟩) (N.length + 1) cap2)) := (hbA.mono (Nat.le_of_lt (Array.getElem?_eq_some_iff.1 hM2.row).1)).trans hBn
                clear cS fS hown2 hgrow2 hA hbA hzA hnl cN cN' hba hBn
                obtain ⟨vZ3, hvZ3⟩ : ∃ v, v = Value.slice (some ⟨g2, 0, none⟩) (N.length + 1) cap2 := ⟨_, rfl⟩
                rw [← hvZ3] at hM3 hBY ⊢
                clear hvZ3
                generalize w2.setCell ⟨nb, 2, none⟩ vZ3 = Z3 at *
                have hBZ3 := hBY
                clear hBY
                have hBq3 : Below V.heap.size V Z3 := hBq2.trans (hBZ3.mono hnbV.out.1)
                rw [show N.length + 1 = (N ++ [(key, (kx, ky))]).length from by simp] at hM3
                go_wp2
                exact ⟨⟨i + 1, hil, by go_num, ⟨_, _, _, _, by rw [del_at hrs.out hp.out he.out hil, if_neg hia, hN.out, hLi.out]; exact hM3, by rw [del_at hrs.out hp.out he.out hil, if_neg hia, hN.out, hLi.out]; exact hZ9⟩, hBq3⟩, by simp [intOf]; omega⟩
      · have hil' : ¬ (i : Int) < (L.length : Int) := fun h => hil (Int.ofNat_lt.1 h)
        obtain rfl : i = L.length := by have := hi.out; omega
        rw [List.take_length] at hR
        have hZ8 := hZ.out
        rw [List.take_length] at hZ8
        have hkI : ∀ e ∈ del L id, e.1 < 4294967296 := fun e he => hk e (mem_del.1 he).2
        have hlI : (del L id).length ≤ 6000000000 := Nat.le_trans (List.length_filter_le _ _) (by omega)
        have hst := stamped_rs σ nb id hid stamp _ _ _ _ hkI hlI _ wr hR hZ8
        have hrI := rises_del hrs.out id
        have hBw := below_step hb3 hB
        have hwn : Hid (w.heap.size ≤ nb) := Nat.le_trans hb3.size hnbV.out.1
        clear hkI hlI hk hid hi hnN hc c0 c1 c2
        go_wp2_with (go_at_call 36; fail)
        refine hst.mono ?_
        rintro e w9 ⟨rfl, ⟨st', hR9, hG9⟩, hB9⟩
        clear hst d0
        go_wp2
        go_ret
        exact ⟨nb, rfl, .inr ⟨hH.out, hwn.out, hR9.doneS hrI hG9⟩, hBw.trans (hB9.mono hwn.out)⟩

end Go.Proofs.YtmppgcijbeipfaaDoor


namespace Go.Proofs.YtmppgcijbeipfaaDoor
open Go.RowKit Go.Shelf
attribute [local go_sem] Oper.semAt_some

abbrev encE (k : Nat) (x y : Int) : Array Value := #[.int .u32 (k : Int), .agg #[.int .i64 x, .int .i64 y]]

/-- What is asked of the body of a range over an iterator of entries: the loop's record is block l. -/
structure TakesY (l : Nat) (t : Tr) (J Jx : List (Nat × (Int × Int)) → World → Prop) : Prop where
  lies : ∀ done X, J done X → Lies X t
  liesx : ∀ done X, Jx done X → Lies X t
  draw : ∀ done X n, J done X → J done (X.drewN n)
  call : ∀ done X (k : Nat) (x y : Int) (m : Nat), k < 4294967296 → J done X → YieldAt Fence.wide m Tryd.prog l (encE k x y) X fun e X' => ∃ o : Bool, e = .returned (.bool o) ∧ (o = true → J (done ++ [(k, (x, y))]) X') ∧ (o = false → Jx (done ++ [(k, (x, y))]) X')

theorem takesY_lies {l : Nat} {t : Tr} {J Jx : List (Nat × (Int × Int)) → World → Prop} (hT : TakesY l t J Jx) {d : List (Nat × (Int × Int))} {X : World} (o : Bool) (h1 : o = true → J d X) (h2 : o = false → Jx d X) : Lies X t := by
  cases o with
  | true => exact hT.lies _ _ (h1 rfl)
  | false => exact hT.liesx _ _ (h2 rfl)

/-- An operation that yields in whatever world is taken first; its slot is given. -/
theorem take_at {F : Fence} {n : Nat} {P : Program} {md : Region.Mode} {ops : Array Oper} {Q : Exit → Act → World → Prop} {i : Nat} {oi : Oper} {d : Option Tmp} {v : Value} {fuel : Nat} {listed : Array Bool} {a : Act} {w : World} (hro : F.round = none) (hi : ops[i]? = some oi) (hd : oi.dst = d)
    (hs : Region.noSelect ops = true) (hf : Region.free md ops listed i = true) (hr : (Region.ready md ops listed).contains i = true)
    (hQ : ∀ c a w, Q (.panic c) (a.put d v) w → Q (.panic c) a w) (hy : YieldsFenced P ops oi v a)
    (h : wpAnyIn F n P md ops Q fuel (listed.setIfInBounds i true) (a.put d v) w) : wpAnyIn F n P md ops Q (fuel + 1) listed a w := by
  subst hd
  exact wpAnyIn_take hro hi hs hf hr hQ hy h

set_option maxRecDepth 8000 in
set_option maxHeartbeats 1000000 in
theorem shelf_searchY (l b s : Nat) (th : Nat → Bool) (vk vn : Nat → Int) (J Jx : List (Nat × (Int × Int)) → World → Prop) (hT : TakesY l (.leaf b s th vk vn) J Jx) (p first : Nat) (hf : first ≤ 16) (hp : p + 16 ≤ 4294967296) (hm : p % 16 = 0) (done : List (Nat × (Int × Int))) (w : World) (h : J done w) :
    Calls Tryd.prog 55 #[.pointer (some ⟨s, 0, none⟩), .int .u32 (p : Int), .int .i64 (first : Int), .func (.yield l) #[] #[]] w (Ends J Jx done (seg th vk vn p first 16)) := by
  refine (callsIn_wide (n := 3)).1 ?_
  refine callsIn_of_wp Tryd.func55 rfl trivial ?_ rfl
  simp only [Tryd.ntmps55, List.size_toArray, List.length_cons, List.length_nil, Nat.reduceAdd, Nat.reduceSub, Array.replicate_succ, Array.replicate_zero, List.push_toArray, List.append_toArray, List.nil_append, List.cons_append]
  gi_wp2
  gi_loopw [9] (fun x wr => ∃ j : Nat, first ≤ j ∧ j ≤ 16 ∧ x = .int .i64 j ∧ J (done ++ seg th vk vn p first j) wr) (fun x _ => 16 - (intOf x).toNat)
  case atStart => exact ⟨first, Nat.le_refl _, hf, rfl, by rw [seg_first, List.append_nil]; exact h⟩
  case round =>
    obtain ⟨j, hj1, hj2, rfl, hJ⟩ := hrel
    clear h
    by_cases hlt : j < 16
    · have hlt' : (j : Int) < 16 := by omega
      have hj0 : (0 : Int) ≤ (j : Int) := by omega
      have hS := (hT.lies _ _ hJ).2
      have c0 := hS.th hlt
      have c1 := (hS.val hlt).1
      have c2 := (hS.val hlt).2
      cases ht : th j with
      | false =>
        rw [ht] at c0
        gi_wp2
        refine wpIn_wide.2 ?_
        go_quiet (fail)
        gi_wp2
        exact ⟨⟨j + 1, by omega, by omega, by go_num, by rw [seg_no hj1 ht]; exact hT.draw _ _ _ hJ⟩, by simp [intOf]; omega⟩
      | true =>
        rw [ht] at c0
        have hJ1 : J (done ++ seg th vk vn p first j) wr.drew := hT.draw _ _ 1 hJ
        obtain ⟨k, hk⟩ : ∃ k, p + j = k := ⟨_, rfl⟩
        have hyes := seg_yes (vk := vk) (vn := vn) (p := p) hj1 ht
        rw [hk] at hyes
        have hk32 : k < 4294967296 := by omega
        obtain ⟨fn, tmps, assign, body, hy, hR⟩ := hT.call _ _ k (vk j) (vn j) 2 hk32 hJ1
        have hhd := fun X => (callsIn_wide (n := 2)).2 (head_bottom p j k hk (by omega) hm hlt X)
        have hYes : Hid (seg th vk vn p first (j + 1) = seg th vk vn p first j ++ [(k, (vk j, vn j))]) := hyes
        clear hyes hk
        dsimp only [encE] at hy
        gi_wp2
        refine wpIn_region_any (by kernel_rfl) ?_
        try (change wpAnyIn _ _ _ _ _ _ _ _ _ (World.drew _))
        refine take_at (i := 0) (d := some 15) (v := ?_) rfl rfl rfl (by kernel_rfl) (by kernel_rfl) (by kernel_rfl) (fun _ _ _ h => h) ⟨Or.inl ⟨by rfl, ?_⟩, fun _ => rfl⟩ ?_
        rotate_left
        · (intro w; go_simp; (try with_reducible rfl))
        simp only [Act.put, List.setIfInBounds_toArray, List.set_cons_zero, List.set_cons_succ]
        refine take_at (i := 1) (d := some 16) (v := ?_) rfl rfl rfl (by kernel_rfl) (by kernel_rfl) (by kernel_rfl) (fun _ _ _ h => h) ⟨Or.inl ⟨by rfl, ?_⟩, fun _ => rfl⟩ ?_
        rotate_left
        · (intro w; go_simp; (try with_reducible rfl))
        simp only [Act.put, List.setIfInBounds_toArray, List.set_cons_zero, List.set_cons_succ]
        refine take_at (i := 2) (d := some 17) (v := ?_) rfl rfl rfl (by kernel_rfl) (by kernel_rfl) (by kernel_rfl) (fun _ _ _ h => h) ⟨Or.inl ⟨by rfl, ?_⟩, fun _ => rfl⟩ ?_
        rotate_left
        · (intro w; go_simp; (try with_reducible rfl))
        simp only [Act.put, List.setIfInBounds_toArray, List.set_cons_zero, List.set_cons_succ]
        refine take_at (i := 3) (d := some 18) (v := ?_) rfl rfl rfl (by kernel_rfl) (by kernel_rfl) (by kernel_rfl) (fun _ _ _ h => h) ⟨Or.inl ⟨by rfl, ?_⟩, fun _ => rfl⟩ ?_
        rotate_left
        · (intro w; go_simp; (try with_reducible rfl))
        simp only [Act.put, List.setIfInBounds_toArray, List.set_cons_zero, List.set_cons_succ]
        refine take_at (i := 4) (d := some 19) (v := ?_) rfl rfl rfl (by kernel_rfl) (by kernel_rfl) (by kernel_rfl) (fun _ _ _ h => h) ⟨Or.inl ⟨by rfl, ?_⟩, fun _ => rfl⟩ ?_
        rotate_left
        · (intro w; go_simp; (try with_reducible rfl))
        simp only [Act.put, List.setIfInBounds_toArray, List.set_cons_zero, List.set_cons_succ]
        refine wpAnyIn_ready (rs := [5]) (by kernel_rfl) (by simp) ?_
        refine AllReadyIn.cons rfl (fun K hK => ?_) AllReadyIn.nil
        go_simp
        refine hK _ _ ?_
        clear hK K
        refine take_at (i := 6) (d := some 21) (v := ?_) rfl rfl rfl (by kernel_rfl) (by kernel_rfl) (by kernel_rfl) (fun _ _ _ h => h) ⟨Or.inl ⟨by rfl, ?_⟩, fun _ => rfl⟩ ?_
        rotate_left
        · (intro w; go_simp; (try with_reducible rfl))
        simp only [Act.put, List.setIfInBounds_toArray, List.set_cons_zero, List.set_cons_succ]
        refine take_at (i := 7) (d := some 22) (v := ?_) rfl rfl rfl (by kernel_rfl) (by kernel_rfl) (by kernel_rfl) (fun _ _ _ h => h) ⟨Or.inl ⟨by rfl, ?_⟩, fun _ => rfl⟩ ?_
        rotate_left
        · (intro w; go_simp; (try with_reducible rfl))
        simp only [Act.put, List.setIfInBounds_toArray, List.set_cons_zero, List.set_cons_succ]
        refine take_at (i := 8) (d := some 23) (v := ?_) rfl rfl rfl (by kernel_rfl) (by kernel_rfl) (by kernel_rfl) (fun _ _ _ h => h) ⟨Or.inl ⟨by rfl, ?_⟩, fun _ => rfl⟩ ?_
        rotate_left
        · (intro w; go_simp; (try with_reducible rfl))
        simp only [Act.put, List.setIfInBounds_toArray, List.set_cons_zero, List.set_cons_succ]
        refine take_at (i := 9) (d := some 24) (v := ?_) rfl rfl rfl (by kernel_rfl) (by kernel_rfl) (by kernel_rfl) (fun _ _ _ h => h) ⟨Or.inl ⟨by rfl, ?_⟩, fun _ => rfl⟩ ?_
        rotate_left
        · (intro w; go_simp; (try with_reducible rfl))
        simp only [Act.put, List.setIfInBounds_toArray, List.set_cons_zero, List.set_cons_succ]
        refine take_at (i := 11) (d := some 26) (v := ?_) rfl rfl rfl (by kernel_rfl) (by kernel_rfl) (by kernel_rfl) (fun _ _ _ h => h) ⟨Or.inl ⟨by rfl, ?_⟩, fun _ => rfl⟩ ?_
        rotate_left
        · (intro w; go_simp; (try with_reducible rfl))
        simp only [Act.put, List.setIfInBounds_toArray, List.set_cons_zero, List.set_cons_succ]
        refine take_at (i := 12) (d := some 27) (v := ?_) rfl rfl rfl (by kernel_rfl) (by kernel_rfl) (by kernel_rfl) (fun _ _ _ h => h) ⟨Or.inl ⟨by rfl, ?_⟩, fun _ => rfl⟩ ?_
        rotate_left
        · (intro w; go_simp; (try with_reducible rfl))
        simp only [Act.put, List.setIfInBounds_toArray, List.set_cons_zero, List.set_cons_succ]
        refine take_at (i := 13) (d := some 28) (v := ?_) rfl rfl rfl (by kernel_rfl) (by kernel_rfl) (by kernel_rfl) (fun _ _ _ h => h) ⟨Or.inl ⟨by rfl, ?_⟩, fun _ => rfl⟩ ?_
        rotate_left
        · (intro w; go_simp; (try with_reducible rfl))
        simp only [Act.put, List.setIfInBounds_toArray, List.set_cons_zero, List.set_cons_succ]
        refine take_at (i := 14) (d := some 29) (v := ?_) rfl rfl rfl (by kernel_rfl) (by kernel_rfl) (by kernel_rfl) (fun _ _ _ h => h) ⟨Or.inl ⟨by rfl, ?_⟩, fun _ => rfl⟩ ?_
        rotate_left
        · (intro w; go_simp; (try with_reducible rfl))
        simp only [Act.put, List.setIfInBounds_toArray, List.set_cons_zero, List.set_cons_succ]
        refine take_at (i := 15) (d := some 30) (v := ?_) rfl rfl rfl (by kernel_rfl) (by kernel_rfl) (by kernel_rfl) (fun _ _ _ h => h) ⟨Or.inl ⟨by rfl, ?_⟩, fun _ => rfl⟩ ?_
        rotate_left
        · (intro w; go_simp; (try with_reducible rfl))
        simp only [Act.put, List.setIfInBounds_toArray, List.set_cons_zero, List.set_cons_succ]
        refine wpAnyIn_ready (rs := [10, 16]) (by kernel_rfl) (by simp) ?_
        refine AllReadyIn.cons rfl (fun K hK => ?_) (AllReadyIn.cons rfl (fun K hK => ?_) AllReadyIn.nil)
        · go_simp
          refine ⟨trivial, (hhd _).mono ?_⟩
          rintro e w4 ⟨rfl, rfl⟩
          dsimp only
          refine hK _ _ ?_
          clear hK K
          refine wpAnyIn_ready (rs := [16]) (by kernel_rfl) (by simp) ?_
          refine AllReadyIn.cons rfl (fun K hK => ?_) AllReadyIn.nil
          go_simp
          refine hK _ _ ?_
          clear hK K
          refine wpAnyIn_ready (rs := [17]) (by kernel_rfl) (by simp) ?_
          refine AllReadyIn.cons rfl (fun K hK => ?_) AllReadyIn.nil
          go_simp
          refine hR.mono ?_
          rintro e w5 ⟨o, rfl, hJ5, hX5⟩
          dsimp only
          refine hK _ _ ?_
          clear hK K
          refine take_at (i := 18) (d := some 33) (v := ?_) rfl rfl rfl (by kernel_rfl) (by kernel_rfl) (by kernel_rfl) (fun _ _ _ h => h) ⟨Or.inl ⟨by rfl, ?_⟩, fun _ => rfl⟩ ?_
          rotate_left
          · (intro w; go_simp; (try with_reducible rfl))
          simp only [Act.put, List.setIfInBounds_toArray, List.set_cons_zero, List.set_cons_succ]
          refine take_at (i := 19) (d := some 34) (v := ?_) rfl rfl rfl (by kernel_rfl) (by kernel_rfl) (by kernel_rfl) (fun _ _ _ h => h) ⟨Or.inl ⟨by rfl, ?_⟩, fun _ => rfl⟩ ?_
          rotate_left
          · (intro w; go_simp; (try with_reducible rfl))
          simp only [Act.put, List.setIfInBounds_toArray, List.set_cons_zero, List.set_cons_succ]
          refine wpAnyIn_done (by kernel_rfl) ?_ _
          rw [List.append_assoc, ← hYes.out] at hJ5 hX5
          cases o with
          | true =>
            have hJ6 := hJ5 rfl
            clear hJ5 hX5 hR hy
            gi_wp2
            exact ⟨⟨j + 1, by omega, by omega, by go_num, hJ6⟩, by simp [intOf]; omega⟩
          | false =>
            have hX6 := hX5 rfl
            clear hJ5 hX5 hR hy
            gi_wp2
            go_ret
            exact ⟨false, rfl, fun e => (by cases e), fun _ => ⟨_, seg_prefix (by omega) (by omega), hX6⟩⟩
        · go_simp
          refine hK _ _ ?_
          clear hK K
          refine wpAnyIn_ready (rs := [10]) (by kernel_rfl) (by simp) ?_
          refine AllReadyIn.cons rfl (fun K hK => ?_) AllReadyIn.nil
          go_simp
          refine ⟨trivial, (hhd _).mono ?_⟩
          rintro e w4 ⟨rfl, rfl⟩
          dsimp only
          refine hK _ _ ?_
          clear hK K
          refine wpAnyIn_ready (rs := [17]) (by kernel_rfl) (by simp) ?_
          refine AllReadyIn.cons rfl (fun K hK => ?_) AllReadyIn.nil
          go_simp
          refine hR.mono ?_
          rintro e w5 ⟨o, rfl, hJ5, hX5⟩
          dsimp only
          refine hK _ _ ?_
          clear hK K
          refine take_at (i := 18) (d := some 33) (v := ?_) rfl rfl rfl (by kernel_rfl) (by kernel_rfl) (by kernel_rfl) (fun _ _ _ h => h) ⟨Or.inl ⟨by rfl, ?_⟩, fun _ => rfl⟩ ?_
          rotate_left
          · (intro w; go_simp; (try with_reducible rfl))
          simp only [Act.put, List.setIfInBounds_toArray, List.set_cons_zero, List.set_cons_succ]
          refine take_at (i := 19) (d := some 34) (v := ?_) rfl rfl rfl (by kernel_rfl) (by kernel_rfl) (by kernel_rfl) (fun _ _ _ h => h) ⟨Or.inl ⟨by rfl, ?_⟩, fun _ => rfl⟩ ?_
          rotate_left
          · (intro w; go_simp; (try with_reducible rfl))
          simp only [Act.put, List.setIfInBounds_toArray, List.set_cons_zero, List.set_cons_succ]
          refine wpAnyIn_done (by kernel_rfl) ?_ _
          rw [List.append_assoc, ← hYes.out] at hJ5 hX5
          cases o with
          | true =>
            have hJ6 := hJ5 rfl
            clear hJ5 hX5 hR hy
            gi_wp2
            exact ⟨⟨j + 1, by omega, by omega, by go_num, hJ6⟩, by simp [intOf]; omega⟩
          | false =>
            have hX6 := hX5 rfl
            clear hJ5 hX5 hR hy
            gi_wp2
            go_ret
            exact ⟨false, rfl, fun e => (by cases e), fun _ => ⟨_, seg_prefix (by omega) (by omega), hX6⟩⟩
    · obtain rfl : j = 16 := by omega
      gi_wp2
      go_ret
      exact ⟨true, rfl, fun _ => hJ, fun e => (by cases e)⟩

end Go.Proofs.YtmppgcijbeipfaaDoor
