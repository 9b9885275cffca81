import Derived.Test.YtmlkceganilboaaDoorTKeeps0
import Derived.Deep.RegionHeld3
import Derived.Deep.DeepCutAuto
import Derived.Deep.CutBlock
import Derived.Deep.QuietTactic
import Derived.BigQuiet
namespace Go.Proofs.YtmlkceganilboaaDoor
open Go.RowKit

set_option maxRecDepth 8000 in
set_option maxHeartbeats 2000000 in
theorem keeps_walk (vl vo : Value) (L : List (Nat × (Int × (Int × Bool)))) (O : List Int) (w : World) (hL : PutsAt w vl L) (hO : NumsAt w vo O) :
    Calls Tryd.prog 3 #[vl, vo] w fun e w' => e = .returned (.bool true) ∧ Below w.heap.size w w' := by
  obtain ⟨aa, ca, rfl, hda⟩ := hL
  obtain ⟨ab, cb, rfl, hdb⟩ := hO
  go_enter Tryd.func3, Tryd.ntmps3
  go_upto_block 0 with (first | (go_at_call 5; refine (empty_any _).mono ?_; rintro e w1 ⟨rfl, hM1, hB1⟩) | (go_at_call 6; refine (known_true _).mono ?_; rintro e w2 ⟨rfl, hB2⟩))
  have hV0 := vers_start hM1 hB1 hB2
  generalize ((w2.alloc (.cells #[.pointer (some ⟨w.heap.size, 0, none⟩)] 24)).alloc (.cells #[.slice none 0 0] 35)) = V at *
  generalize Value.slice (some ⟨w2.heap.size, 0, none⟩) 1 1 = mv0 at *
  generalize Value.slice (some ⟨w2.heap.size + 1, 0, none⟩) 1 1 = hv0 at *
  clear hM1 hB1 hB2
  obtain ⟨im, him, hzm0, hzm1, hzm2⟩ := info_parts infoMp
  obtain ⟨ie, hie, hze0, hze1, hze2⟩ := info_parts infoEs
  go_cut [6, 7] (fun mv hv wx => ∃ (j : Nat) (vs : List Ver), j ≤ 60 ∧ vs.length = j + 1 ∧ (∀ x ∈ vs, (x.2.1.ents 7 0).length ≤ j) ∧ Vers w.heap.size w wx mv hv vs)
  case first =>
    go_wp2_with fail
    go_loopw [6, 7, 8] (fun mv hv i wr => ∃ (j : Nat) (vs : List Ver), j ≤ 60 ∧ j ≤ L.length ∧ i = .int .i64 j ∧ vs.length = j + 1 ∧ (∀ x ∈ vs, (x.2.1.ents 7 0).length ≤ j) ∧ Vers w.heap.size w wr mv hv vs) (fun _ _ i _ => L.length - (intOf i).toNat)
    case atStart => exact ⟨0, _, by omega, by omega, rfl, rfl, by intro x hx; rw [List.mem_singleton.1 hx]; exact Nat.le_refl _, hV0⟩
    case round =>
      obtain ⟨j, vs, hj60, hj, rfl, hvl, hsm, hV⟩ := hrel
      by_cases hlt : j < L.length ∧ j < 60
      · obtain ⟨hlt, h60⟩ := hlt
        have hlt' : (j : Int) < L.length := by omega
        have h60' : (j : Int) < 60 := by omega
        rcases hda with h0 | ⟨ga, oa, rfl, hga, hca⟩
        · rw [h0] at hlt; simp at hlt
        obtain ⟨hid, q0, q1, q2, q3⟩ := hca j hlt
        clear hca
        obtain ⟨e, he⟩ : ∃ e, L[j] = e := ⟨_, rfl⟩
        rw [he] at hid q0 q1 q2 q3
        obtain ⟨id, x, y, gone⟩ := e
        simp only at hid q0 q1 q2 q3
        have hj0 : (0 : Int) ≤ (j : Int) := by omega
        obtain ⟨mg, mcap, rfl⟩ := own_some hV.maps (by omega)
        obtain ⟨hg, hcap, rfl⟩ := own_some hV.held (by omega)
        rw [hvl] at hV ⊢
        rcases keeps_pick O j with ⟨ho, ho1, ho2⟩ | ho | ⟨ho, ho1⟩ | ⟨ho, ho1, ho2⟩
        · have hk9 : ∃ kk : Nat, O[j] = (kk : Int) := ⟨O[j].toNat, by omega⟩
          obtain ⟨kk, hkk⟩ := hk9
          rw [hkk] at ho1 ho2
          have hk : kk < vs.length := by omega
          rcases hdb with h0 | ⟨gb, ob, rfl, hgb, hcb⟩
          · rw [h0] at ho; simp at ho
          have ho' : (j : Int) < O.length := by omega
          have cz := (hV.below.cell (p := ⟨gb, ob + j, none⟩) hgb).trans (hcb j ho)
          rw [hkk] at cz
          go_wp2
          have hkk0 : (0 : Int) ≤ (kk : Int) := by omega
          have c0 := (hV.below.cell (p := ⟨ga, oa + j * 4, none⟩) hga).trans q0
          have c1 := (hV.below.cell (p := ⟨ga, oa + j * 4 + 1, none⟩) hga).trans q1
          have c2 := (hV.below.cell (p := ⟨ga, oa + j * 4 + 2, none⟩) hga).trans q2
          have c3 := (hV.below.cell (p := ⟨ga, oa + j * 4 + 3, none⟩) hga).trans q3
          have cm : wr.cell? ⟨mg, kk, none⟩ = some (.pointer (some ⟨vs[kk].1, 0, none⟩)) := ((show wr.ownsRow w.heap.size 24 1 (.slice (some ⟨mg, 0, none⟩) (j + 1) mcap) (j + 1) (mapsC vs) from hvl ▸ hV.maps).cellAt kk (by omega)).trans (mapsC_at vs hk)
          have hjj : (kk : Int) < (j : Int) + 1 := by omega
          have hPd := round_later (Nat.le_refl _) ⟨cm, c0, c1, c2, c3, hV⟩ ((Below.refl wr.heap.size wr).drew)
          clear cm c0 c1 c2 c3
          go_region_held3 (fun X => X.cell? ⟨mg, kk, none⟩ = some (.pointer (some ⟨vs[kk].1, 0, none⟩)) ∧ X.cell? ⟨ga, oa + j * 4, none⟩ = some (.int .u32 (id : Int)) ∧ X.cell? ⟨ga, oa + j * 4 + 1, none⟩ = some (.int .i64 x) ∧ X.cell? ⟨ga, oa + j * 4 + 2, none⟩ = some (.int .i64 y) ∧ X.cell? ⟨ga, oa + j * 4 + 3, none⟩ = some (.bool gone) ∧ Vers w.heap.size w X (.slice (some ⟨mg, 0, none⟩) (j + 1) mcap) (.slice (some ⟨hg, 0, none⟩) (j + 1) hcap) vs) (with_reducible assumption)
            (first | (go_at_call 7; refine (held_one (mg := mg) (k := kk) (ga := ga) (o := oa + j * 4) (u := .pointer (some ⟨vs[kk].1, 0, none⟩)) (u0 := .int .u32 (id : Int)) (u1 := .int .i64 x) (u2 := .int .i64 y) (u3 := .bool gone) (w := w) (mv := .slice (some ⟨mg, 0, none⟩) (j + 1) mcap) (hv := .slice (some ⟨hg, 0, none⟩) (j + 1) hcap) (vs := vs) ?_ (Nat.le_refl _) kk hk hid).mono ?_; with_reducible assumption; rintro e w5 ⟨mb', t', rfl, he5, hP5, hM5⟩))
          clear hPd hP5
          have hm5 : w5.ownsRow w.heap.size 24 1 (.slice (some ⟨mg, 0, none⟩) (j + 1) mcap) (j + 1) (mapsC vs) := by have h := (hM5.vers (Nat.le_refl _)).maps; rwa [hvl] at h
          have hs5 := (hM5.vers (Nat.le_refl _)).size (Nat.le_refl _)
          go_wp2_with (at_builtin; go_loud (refine wpList_append_own_at _ rfl _ _ 27 rfl w.heap.size 24 im _ 1 8 Tryd.underlying27 him hzm0 hzm1 hzm2 rfl (by decide) _ (j + 1) (mapsC vs) rfl (hm5.alloc _) ⟨w5.heap.size, 0, none⟩ 1 1 [.pointer (some ⟨mb', 0, none⟩)] rfl rfl (cell_one_new w5 _ _) (by simp [Value.oneCell']) (by unfold maxLen; omega) (by omega) (Nat.le_trans hs5 (by simp)) ?_; intro v8 w8 hown8 hgrow8 _ hnew8))
          have hm8 : Mid w.heap.size w w8 v8 (.slice (some ⟨hg, 0, none⟩) (j + 1) hcap) vs mb' t' := mid_made (hM5.later ((Below.refl w5.heap.size w5).alloc (Nat.le_refl _) _)) (Nat.le_refl _) (by rw [hvl]; exact hown8) hgrow8 hnew8
          clear hown8 hgrow8 hnew8 hm5 hs5 hM5
          have hbd : Below w8.heap.size w8 w8.drew := (Below.refl w8.heap.size w8).drew
          have hmd := hm8.later (Nat.le_refl _) hbd
          have c0 := (hmd.below.cell (p := ⟨ga, oa + j * 4, none⟩) hga).trans q0
          have c1 := (hmd.below.cell (p := ⟨ga, oa + j * 4 + 1, none⟩) hga).trans q1
          have c2 := (hmd.below.cell (p := ⟨ga, oa + j * 4 + 2, none⟩) hga).trans q2
          have c3 := (hmd.below.cell (p := ⟨ga, oa + j * 4 + 3, none⟩) hga).trans q3
          have cm : w8.drew.cell? ⟨hg, kk, none⟩ = some vs[kk].2.2 := ((show w8.drew.ownsRow w.heap.size 35 1 (.slice (some ⟨hg, 0, none⟩) (j + 1) hcap) (j + 1) (heldC vs) from hvl ▸ hmd.held).cellAt kk (by omega)).trans (heldC_at vs hk)
          clear hm8 hbd
          have hjs := Nat.le_trans (hsm _ (List.getElem_mem hk)) (show j ≤ 1000000 by omega)
          go_region_law (first | (refine step_append_at _ rfl _ _ 28 rfl w.heap.size 35 ie _ 1 24 Tryd.underlying28 hie hze0 hze1 hze2 rfl (by decide) _ (j + 1) (heldC vs) rfl (hh9.alloc _) ⟨w9.heap.size, 0, none⟩ 1 1 [.slice ea en ec] rfl rfl (cell_one_new w9 _ _) (fun u hu => by rw [List.mem_singleton.1 hu]; rfl) (by unfold maxLen; omega) (by omega) (Nat.le_trans hs9 (by simp)) ?_; intro v10 w10 hown10 hgrow10 hnew10) | (go_simp; go_at_call 8; refine (mid_laid hmd (Nat.le_refl _) kk hk id x y gone hjs he5).mono ?_; rintro e w9 ⟨ea, en, ec, rfl, he9, hb9, hh9, hs9⟩; rw [hvl] at hh9))
          all_goals
            have hV10 := vers_of hmd (Nat.le_refl _) hb9 (Nat.le_refl _) he9 ((Below.refl w9.heap.size w9).alloc (Nat.le_refl _) _) hgrow10 (by rw [hvl]; exact hown10) hnew10
            go_wp2
            go_roundw
            case rel => exact ⟨j + 1, _, by omega, by omega, by go_num, by simp [hvl], small_step hsm (by rw [he5]; exact Nat.le_trans (stepL_length _ _ _ _) (Nat.succ_le_succ (hsm _ (List.getElem_mem hk)))), hV10⟩
            case measure => simp [intOf]; omega
        · have ho' : ¬ (j : Int) < O.length := by omega
          have hk : j < vs.length := by omega
          have hvl' : vs.length = j + 1 := hvl
          go_wp2
          have c0 := (hV.below.cell (p := ⟨ga, oa + j * 4, none⟩) hga).trans q0
          have c1 := (hV.below.cell (p := ⟨ga, oa + j * 4 + 1, none⟩) hga).trans q1
          have c2 := (hV.below.cell (p := ⟨ga, oa + j * 4 + 2, none⟩) hga).trans q2
          have c3 := (hV.below.cell (p := ⟨ga, oa + j * 4 + 3, none⟩) hga).trans q3
          have cm : wr.cell? ⟨mg, j, none⟩ = some (.pointer (some ⟨vs[j].1, 0, none⟩)) := ((show wr.ownsRow w.heap.size 24 1 (.slice (some ⟨mg, 0, none⟩) (j + 1) mcap) (j + 1) (mapsC vs) from hvl ▸ hV.maps).cellAt j (by omega)).trans (mapsC_at vs hk)
          have hjj : (j : Int) < (j : Int) + 1 := by omega
          have hPd := round_later (Nat.le_refl _) ⟨cm, c0, c1, c2, c3, hV⟩ ((Below.refl wr.heap.size wr).drew)
          clear cm c0 c1 c2 c3
          go_region_held3 (fun X => X.cell? ⟨mg, j, none⟩ = some (.pointer (some ⟨vs[j].1, 0, none⟩)) ∧ X.cell? ⟨ga, oa + j * 4, none⟩ = some (.int .u32 (id : Int)) ∧ X.cell? ⟨ga, oa + j * 4 + 1, none⟩ = some (.int .i64 x) ∧ X.cell? ⟨ga, oa + j * 4 + 2, none⟩ = some (.int .i64 y) ∧ X.cell? ⟨ga, oa + j * 4 + 3, none⟩ = some (.bool gone) ∧ Vers w.heap.size w X (.slice (some ⟨mg, 0, none⟩) (j + 1) mcap) (.slice (some ⟨hg, 0, none⟩) (j + 1) hcap) vs) (with_reducible assumption)
            (first | (go_at_call 7; refine (held_one (mg := mg) (k := j) (ga := ga) (o := oa + j * 4) (u := .pointer (some ⟨vs[j].1, 0, none⟩)) (u0 := .int .u32 (id : Int)) (u1 := .int .i64 x) (u2 := .int .i64 y) (u3 := .bool gone) (w := w) (mv := .slice (some ⟨mg, 0, none⟩) (j + 1) mcap) (hv := .slice (some ⟨hg, 0, none⟩) (j + 1) hcap) (vs := vs) ?_ (Nat.le_refl _) j hk hid).mono ?_; with_reducible assumption; rintro e w5 ⟨mb', t', rfl, he5, hP5, hM5⟩))
          clear hPd hP5
          have hm5 : w5.ownsRow w.heap.size 24 1 (.slice (some ⟨mg, 0, none⟩) (j + 1) mcap) (j + 1) (mapsC vs) := by have h := (hM5.vers (Nat.le_refl _)).maps; rwa [hvl] at h
          have hs5 := (hM5.vers (Nat.le_refl _)).size (Nat.le_refl _)
          go_wp2_with (at_builtin; go_loud (refine wpList_append_own_at _ rfl _ _ 27 rfl w.heap.size 24 im _ 1 8 Tryd.underlying27 him hzm0 hzm1 hzm2 rfl (by decide) _ (j + 1) (mapsC vs) rfl (hm5.alloc _) ⟨w5.heap.size, 0, none⟩ 1 1 [.pointer (some ⟨mb', 0, none⟩)] rfl rfl (cell_one_new w5 _ _) (by simp [Value.oneCell']) (by unfold maxLen; omega) (by omega) (Nat.le_trans hs5 (by simp)) ?_; intro v8 w8 hown8 hgrow8 _ hnew8))
          have hm8 : Mid w.heap.size w w8 v8 (.slice (some ⟨hg, 0, none⟩) (j + 1) hcap) vs mb' t' := mid_made (hM5.later ((Below.refl w5.heap.size w5).alloc (Nat.le_refl _) _)) (Nat.le_refl _) (by rw [hvl]; exact hown8) hgrow8 hnew8
          clear hown8 hgrow8 hnew8 hm5 hs5 hM5
          have hbd : Below w8.heap.size w8 w8.drew := (Below.refl w8.heap.size w8).drew
          have hmd := hm8.later (Nat.le_refl _) hbd
          have c0 := (hmd.below.cell (p := ⟨ga, oa + j * 4, none⟩) hga).trans q0
          have c1 := (hmd.below.cell (p := ⟨ga, oa + j * 4 + 1, none⟩) hga).trans q1
          have c2 := (hmd.below.cell (p := ⟨ga, oa + j * 4 + 2, none⟩) hga).trans q2
          have c3 := (hmd.below.cell (p := ⟨ga, oa + j * 4 + 3, none⟩) hga).trans q3
          have cm : w8.drew.cell? ⟨hg, j, none⟩ = some vs[j].2.2 := ((show w8.drew.ownsRow w.heap.size 35 1 (.slice (some ⟨hg, 0, none⟩) (j + 1) hcap) (j + 1) (heldC vs) from hvl ▸ hmd.held).cellAt j (by omega)).trans (heldC_at vs hk)
          clear hm8 hbd
          have hjs := Nat.le_trans (hsm _ (List.getElem_mem hk)) (show j ≤ 1000000 by omega)
          go_region_law (first | (refine step_append_at _ rfl _ _ 28 rfl w.heap.size 35 ie _ 1 24 Tryd.underlying28 hie hze0 hze1 hze2 rfl (by decide) _ (j + 1) (heldC vs) rfl (hh9.alloc _) ⟨w9.heap.size, 0, none⟩ 1 1 [.slice ea en ec] rfl rfl (cell_one_new w9 _ _) (fun u hu => by rw [List.mem_singleton.1 hu]; rfl) (by unfold maxLen; omega) (by omega) (Nat.le_trans hs9 (by simp)) ?_; intro v10 w10 hown10 hgrow10 hnew10) | (go_simp; go_at_call 8; refine (mid_laid hmd (Nat.le_refl _) j hk id x y gone hjs he5).mono ?_; rintro e w9 ⟨ea, en, ec, rfl, he9, hb9, hh9, hs9⟩; rw [hvl] at hh9))
          all_goals
            have hV10 := vers_of hmd (Nat.le_refl _) hb9 (Nat.le_refl _) he9 ((Below.refl w9.heap.size w9).alloc (Nat.le_refl _) _) hgrow10 (by rw [hvl]; exact hown10) hnew10
            go_wp2
            go_roundw
            case rel => exact ⟨j + 1, _, by omega, by omega, by go_num, by simp [hvl], small_step hsm (by rw [he5]; exact Nat.le_trans (stepL_length _ _ _ _) (Nat.succ_le_succ (hsm _ (List.getElem_mem hk)))), hV10⟩
            case measure => simp [intOf]; omega
        · have hk : j < vs.length := by omega
          obtain ⟨z, hz⟩ : ∃ z, O[j] = z := ⟨_, rfl⟩
          rcases hdb with h0 | ⟨gb, ob, rfl, hgb, hcb⟩
          · rw [h0] at ho; simp at ho
          have ho' : (j : Int) < O.length := by omega
          have cz := (hV.below.cell (p := ⟨gb, ob + j, none⟩) hgb).trans (hcb j ho)
          rw [hz] at cz
          rw [hz] at ho1
          have hzn : decide (0 ≤ z) = false := by simp; omega
          go_wp2
          have c0 := (hV.below.cell (p := ⟨ga, oa + j * 4, none⟩) hga).trans q0
          have c1 := (hV.below.cell (p := ⟨ga, oa + j * 4 + 1, none⟩) hga).trans q1
          have c2 := (hV.below.cell (p := ⟨ga, oa + j * 4 + 2, none⟩) hga).trans q2
          have c3 := (hV.below.cell (p := ⟨ga, oa + j * 4 + 3, none⟩) hga).trans q3
          have cm : wr.cell? ⟨mg, j, none⟩ = some (.pointer (some ⟨vs[j].1, 0, none⟩)) := ((show wr.ownsRow w.heap.size 24 1 (.slice (some ⟨mg, 0, none⟩) (j + 1) mcap) (j + 1) (mapsC vs) from hvl ▸ hV.maps).cellAt j (by omega)).trans (mapsC_at vs hk)
          have hjj : (j : Int) < (j : Int) + 1 := by omega
          have hPd := round_later (Nat.le_refl _) ⟨cm, c0, c1, c2, c3, hV⟩ ((Below.refl wr.heap.size wr).drew)
          clear cm c0 c1 c2 c3
          go_region_held3 (fun X => X.cell? ⟨mg, j, none⟩ = some (.pointer (some ⟨vs[j].1, 0, none⟩)) ∧ X.cell? ⟨ga, oa + j * 4, none⟩ = some (.int .u32 (id : Int)) ∧ X.cell? ⟨ga, oa + j * 4 + 1, none⟩ = some (.int .i64 x) ∧ X.cell? ⟨ga, oa + j * 4 + 2, none⟩ = some (.int .i64 y) ∧ X.cell? ⟨ga, oa + j * 4 + 3, none⟩ = some (.bool gone) ∧ Vers w.heap.size w X (.slice (some ⟨mg, 0, none⟩) (j + 1) mcap) (.slice (some ⟨hg, 0, none⟩) (j + 1) hcap) vs) (with_reducible assumption)
            (first | (go_at_call 7; refine (held_one (mg := mg) (k := j) (ga := ga) (o := oa + j * 4) (u := .pointer (some ⟨vs[j].1, 0, none⟩)) (u0 := .int .u32 (id : Int)) (u1 := .int .i64 x) (u2 := .int .i64 y) (u3 := .bool gone) (w := w) (mv := .slice (some ⟨mg, 0, none⟩) (j + 1) mcap) (hv := .slice (some ⟨hg, 0, none⟩) (j + 1) hcap) (vs := vs) ?_ (Nat.le_refl _) j hk hid).mono ?_; with_reducible assumption; rintro e w5 ⟨mb', t', rfl, he5, hP5, hM5⟩))
          clear hPd hP5
          have hm5 : w5.ownsRow w.heap.size 24 1 (.slice (some ⟨mg, 0, none⟩) (j + 1) mcap) (j + 1) (mapsC vs) := by have h := (hM5.vers (Nat.le_refl _)).maps; rwa [hvl] at h
          have hs5 := (hM5.vers (Nat.le_refl _)).size (Nat.le_refl _)
          go_wp2_with (at_builtin; go_loud (refine wpList_append_own_at _ rfl _ _ 27 rfl w.heap.size 24 im _ 1 8 Tryd.underlying27 him hzm0 hzm1 hzm2 rfl (by decide) _ (j + 1) (mapsC vs) rfl (hm5.alloc _) ⟨w5.heap.size, 0, none⟩ 1 1 [.pointer (some ⟨mb', 0, none⟩)] rfl rfl (cell_one_new w5 _ _) (by simp [Value.oneCell']) (by unfold maxLen; omega) (by omega) (Nat.le_trans hs5 (by simp)) ?_; intro v8 w8 hown8 hgrow8 _ hnew8))
          have hm8 : Mid w.heap.size w w8 v8 (.slice (some ⟨hg, 0, none⟩) (j + 1) hcap) vs mb' t' := mid_made (hM5.later ((Below.refl w5.heap.size w5).alloc (Nat.le_refl _) _)) (Nat.le_refl _) (by rw [hvl]; exact hown8) hgrow8 hnew8
          clear hown8 hgrow8 hnew8 hm5 hs5 hM5
          have hbd : Below w8.heap.size w8 w8.drew := (Below.refl w8.heap.size w8).drew
          have hmd := hm8.later (Nat.le_refl _) hbd
          have c0 := (hmd.below.cell (p := ⟨ga, oa + j * 4, none⟩) hga).trans q0
          have c1 := (hmd.below.cell (p := ⟨ga, oa + j * 4 + 1, none⟩) hga).trans q1
          have c2 := (hmd.below.cell (p := ⟨ga, oa + j * 4 + 2, none⟩) hga).trans q2
          have c3 := (hmd.below.cell (p := ⟨ga, oa + j * 4 + 3, none⟩) hga).trans q3
          have cm : w8.drew.cell? ⟨hg, j, none⟩ = some vs[j].2.2 := ((show w8.drew.ownsRow w.heap.size 35 1 (.slice (some ⟨hg, 0, none⟩) (j + 1) hcap) (j + 1) (heldC vs) from hvl ▸ hmd.held).cellAt j (by omega)).trans (heldC_at vs hk)
          clear hm8 hbd
          have hjs := Nat.le_trans (hsm _ (List.getElem_mem hk)) (show j ≤ 1000000 by omega)
          go_region_law (first | (refine step_append_at _ rfl _ _ 28 rfl w.heap.size 35 ie _ 1 24 Tryd.underlying28 hie hze0 hze1 hze2 rfl (by decide) _ (j + 1) (heldC vs) rfl (hh9.alloc _) ⟨w9.heap.size, 0, none⟩ 1 1 [.slice ea en ec] rfl rfl (cell_one_new w9 _ _) (fun u hu => by rw [List.mem_singleton.1 hu]; rfl) (by unfold maxLen; omega) (by omega) (Nat.le_trans hs9 (by simp)) ?_; intro v10 w10 hown10 hgrow10 hnew10) | (go_simp; go_at_call 8; refine (mid_laid hmd (Nat.le_refl _) j hk id x y gone hjs he5).mono ?_; rintro e w9 ⟨ea, en, ec, rfl, he9, hb9, hh9, hs9⟩; rw [hvl] at hh9))
          all_goals
            have hV10 := vers_of hmd (Nat.le_refl _) hb9 (Nat.le_refl _) he9 ((Below.refl w9.heap.size w9).alloc (Nat.le_refl _) _) hgrow10 (by rw [hvl]; exact hown10) hnew10
            go_wp2
            go_roundw
            case rel => exact ⟨j + 1, _, by omega, by omega, by go_num, by simp [hvl], small_step hsm (by rw [he5]; exact Nat.le_trans (stepL_length _ _ _ _) (Nat.succ_le_succ (hsm _ (List.getElem_mem hk)))), hV10⟩
            case measure => simp [intOf]; omega
        · have hk : j < vs.length := by omega
          obtain ⟨z, hz⟩ : ∃ z, O[j] = z := ⟨_, rfl⟩
          rcases hdb with h0 | ⟨gb, ob, rfl, hgb, hcb⟩
          · rw [h0] at ho; simp at ho
          have ho' : (j : Int) < O.length := by omega
          have cz := (hV.below.cell (p := ⟨gb, ob + j, none⟩) hgb).trans (hcb j ho)
          rw [hz] at cz
          rw [hz] at ho1 ho2
          have hzn : decide (z < (j : Int) + 1) = false := by simp; omega
          go_wp2
          have c0 := (hV.below.cell (p := ⟨ga, oa + j * 4, none⟩) hga).trans q0
          have c1 := (hV.below.cell (p := ⟨ga, oa + j * 4 + 1, none⟩) hga).trans q1
          have c2 := (hV.below.cell (p := ⟨ga, oa + j * 4 + 2, none⟩) hga).trans q2
          have c3 := (hV.below.cell (p := ⟨ga, oa + j * 4 + 3, none⟩) hga).trans q3
          have cm : wr.cell? ⟨mg, j, none⟩ = some (.pointer (some ⟨vs[j].1, 0, none⟩)) := ((show wr.ownsRow w.heap.size 24 1 (.slice (some ⟨mg, 0, none⟩) (j + 1) mcap) (j + 1) (mapsC vs) from hvl ▸ hV.maps).cellAt j (by omega)).trans (mapsC_at vs hk)
          have hjj : (j : Int) < (j : Int) + 1 := by omega
          have hPd := round_later (Nat.le_refl _) ⟨cm, c0, c1, c2, c3, hV⟩ ((Below.refl wr.heap.size wr).drew)
          clear cm c0 c1 c2 c3
          go_region_held3 (fun X => X.cell? ⟨mg, j, none⟩ = some (.pointer (some ⟨vs[j].1, 0, none⟩)) ∧ X.cell? ⟨ga, oa + j * 4, none⟩ = some (.int .u32 (id : Int)) ∧ X.cell? ⟨ga, oa + j * 4 + 1, none⟩ = some (.int .i64 x) ∧ X.cell? ⟨ga, oa + j * 4 + 2, none⟩ = some (.int .i64 y) ∧ X.cell? ⟨ga, oa + j * 4 + 3, none⟩ = some (.bool gone) ∧ Vers w.heap.size w X (.slice (some ⟨mg, 0, none⟩) (j + 1) mcap) (.slice (some ⟨hg, 0, none⟩) (j + 1) hcap) vs) (with_reducible assumption)
            (first | (go_at_call 7; refine (held_one (mg := mg) (k := j) (ga := ga) (o := oa + j * 4) (u := .pointer (some ⟨vs[j].1, 0, none⟩)) (u0 := .int .u32 (id : Int)) (u1 := .int .i64 x) (u2 := .int .i64 y) (u3 := .bool gone) (w := w) (mv := .slice (some ⟨mg, 0, none⟩) (j + 1) mcap) (hv := .slice (some ⟨hg, 0, none⟩) (j + 1) hcap) (vs := vs) ?_ (Nat.le_refl _) j hk hid).mono ?_; with_reducible assumption; rintro e w5 ⟨mb', t', rfl, he5, hP5, hM5⟩))
          clear hPd hP5
          have hm5 : w5.ownsRow w.heap.size 24 1 (.slice (some ⟨mg, 0, none⟩) (j + 1) mcap) (j + 1) (mapsC vs) := by have h := (hM5.vers (Nat.le_refl _)).maps; rwa [hvl] at h
          have hs5 := (hM5.vers (Nat.le_refl _)).size (Nat.le_refl _)
          go_wp2_with (at_builtin; go_loud (refine wpList_append_own_at _ rfl _ _ 27 rfl w.heap.size 24 im _ 1 8 Tryd.underlying27 him hzm0 hzm1 hzm2 rfl (by decide) _ (j + 1) (mapsC vs) rfl (hm5.alloc _) ⟨w5.heap.size, 0, none⟩ 1 1 [.pointer (some ⟨mb', 0, none⟩)] rfl rfl (cell_one_new w5 _ _) (by simp [Value.oneCell']) (by unfold maxLen; omega) (by omega) (Nat.le_trans hs5 (by simp)) ?_; intro v8 w8 hown8 hgrow8 _ hnew8))
          have hm8 : Mid w.heap.size w w8 v8 (.slice (some ⟨hg, 0, none⟩) (j + 1) hcap) vs mb' t' := mid_made (hM5.later ((Below.refl w5.heap.size w5).alloc (Nat.le_refl _) _)) (Nat.le_refl _) (by rw [hvl]; exact hown8) hgrow8 hnew8
          clear hown8 hgrow8 hnew8 hm5 hs5 hM5
          have hbd : Below w8.heap.size w8 w8.drew := (Below.refl w8.heap.size w8).drew
          have hmd := hm8.later (Nat.le_refl _) hbd
          have c0 := (hmd.below.cell (p := ⟨ga, oa + j * 4, none⟩) hga).trans q0
          have c1 := (hmd.below.cell (p := ⟨ga, oa + j * 4 + 1, none⟩) hga).trans q1
          have c2 := (hmd.below.cell (p := ⟨ga, oa + j * 4 + 2, none⟩) hga).trans q2
          have c3 := (hmd.below.cell (p := ⟨ga, oa + j * 4 + 3, none⟩) hga).trans q3
          have cm : w8.drew.cell? ⟨hg, j, none⟩ = some vs[j].2.2 := ((show w8.drew.ownsRow w.heap.size 35 1 (.slice (some ⟨hg, 0, none⟩) (j + 1) hcap) (j + 1) (heldC vs) from hvl ▸ hmd.held).cellAt j (by omega)).trans (heldC_at vs hk)
          clear hm8 hbd
          have hjs := Nat.le_trans (hsm _ (List.getElem_mem hk)) (show j ≤ 1000000 by omega)
          go_region_law (first | (refine step_append_at _ rfl _ _ 28 rfl w.heap.size 35 ie _ 1 24 Tryd.underlying28 hie hze0 hze1 hze2 rfl (by decide) _ (j + 1) (heldC vs) rfl (hh9.alloc _) ⟨w9.heap.size, 0, none⟩ 1 1 [.slice ea en ec] rfl rfl (cell_one_new w9 _ _) (fun u hu => by rw [List.mem_singleton.1 hu]; rfl) (by unfold maxLen; omega) (by omega) (Nat.le_trans hs9 (by simp)) ?_; intro v10 w10 hown10 hgrow10 hnew10) | (go_simp; go_at_call 8; refine (mid_laid hmd (Nat.le_refl _) j hk id x y gone hjs he5).mono ?_; rintro e w9 ⟨ea, en, ec, rfl, he9, hb9, hh9, hs9⟩; rw [hvl] at hh9))
          all_goals
            have hV10 := vers_of hmd (Nat.le_refl _) hb9 (Nat.le_refl _) he9 ((Below.refl w9.heap.size w9).alloc (Nat.le_refl _) _) hgrow10 (by rw [hvl]; exact hown10) hnew10
            go_wp2
            go_roundw
            case rel => exact ⟨j + 1, _, by omega, by omega, by go_num, by simp [hvl], small_step hsm (by rw [he5]; exact Nat.le_trans (stepL_length _ _ _ _) (Nat.succ_le_succ (hsm _ (List.getElem_mem hk)))), hV10⟩
            case measure => simp [intOf]; omega
      · have hx : ¬ (j : Int) < L.length ∨ ((j : Int) < L.length ∧ ¬ (j : Int) < 60) := by omega
        rcases hx with hx | ⟨hx, hx2⟩
        all_goals
          go_wp2_with fail
          go_meet
          exact ⟨j, vs, hj60, hvl, hsm, hV⟩
  case rest =>
    obtain ⟨j, vs, hj60, hvl, hsm, hV⟩ := hcut
    clear hV0
    have hB0 := Nat.le_refl w.heap.size
    obtain ⟨mg, mcap, rfl⟩ := own_some hV.maps (by omega)
    obtain ⟨hg, hcap, rfl⟩ := own_some hV.held (by omega)
    have hmv : vs.length ≤ 61 := by omega
    have hsm60 : ∀ x ∈ vs, (x.2.1.ents 7 0).length ≤ 60 := fun x hx => Nat.le_trans (hsm x hx) hj60
    clear hsm hvl hj60
    go_wp2
    go_loopw [11] (fun i X => ∃ m : Nat, m ≤ vs.length ∧ i = .int .i64 m ∧ Vers w.heap.size w X (.slice (some ⟨mg, 0, none⟩) vs.length mcap) (.slice (some ⟨hg, 0, none⟩) vs.length hcap) vs) (fun i _ => vs.length - (intOf i).toNat)
    case atStart => exact ⟨0, by omega, rfl, hV⟩
    case round =>
      obtain ⟨m, hm, rfl, hVm⟩ := hrel
      clear hV
      by_cases hlt : m < vs.length
      · have hlt' : (m : Int) < vs.length := by omega
        have hm0 : (0 : Int) ≤ (m : Int) := by omega
        obtain ⟨⟨mb, t, ev⟩, hxv⟩ : ∃ y, vs[m] = y := ⟨_, rfl⟩
        have hmem : (mb, (t, ev)) ∈ vs := hxv ▸ List.getElem_mem hlt
        have hlen : (t.ents 7 0).length ≤ 60 := hsm60 _ hmem
        have hAt := hVm.ats _ hmem
        have hmapV : MapT wr mb t := hAt.1
        obtain ⟨ea, ec, hev, hed⟩ := hAt.2.1
        simp only at hev hed
        have cm : wr.cell? ⟨mg, m, none⟩ = some (.pointer (some ⟨mb, 0, none⟩)) := (hVm.maps.cellAt m (by omega)).trans ((mapsC_at vs hlt).trans (by rw [hxv]))
        have ch : wr.cell? ⟨hg, m, none⟩ = some (.slice ea (t.ents 7 0).length ec) := (hVm.held.cellAt m (by omega)).trans ((heldC_at vs hlt).trans (by rw [hxv]; simp only; rw [hev]))
        have hen : EntsAt wr (.slice ea (t.ents 7 0).length ec) (t.ents 7 0) := ⟨ea, ec, rfl, hed⟩
        clear hAt hev hxv hed ev hmem
        go_wp2_with (first | (go_at_call 9; refine (list_all mb t (by omega) _ hmapV).mono ?_; rintro e w1 ⟨av, rfl, hown1, hb1⟩; have hal := ents_of_own hown1; obtain ⟨aa, ac, rfl, hald⟩ := hal))
        have hK1 : Look w.heap.size w w1 (.slice (some ⟨mg, 0, none⟩) vs.length mcap) (.slice (some ⟨hg, 0, none⟩) vs.length hcap) vs mg hg m mb t ea ec aa ac := ⟨(hb1.cell (World.block_lt_of_cell? _ _ cm)).trans cm, (hb1.cell (World.block_lt_of_cell? _ _ ch)).trans ch, hmapV.later hb1, hen.later hb1, ⟨aa, ac, rfl, hald⟩, hVm.later hB0 hb1⟩
        have hSd := (hK1.later hB0 (Below.refl w1.heap.size w1).drew).held
        clear hown1 hald hb1 hVm hmapV hen cm ch
        have hnn : (((t.ents 7 0).length : Int) != ((t.ents 7 0).length : Int)) = false := by simp
        go_region_held3 (fun X => X.cell? ⟨mg, m, none⟩ = some (.pointer (some ⟨mb, 0, none⟩)) ∧ X.cell? ⟨hg, m, none⟩ = some (.slice ea (t.ents 7 0).length ec) ∧ Look w.heap.size w X (.slice (some ⟨mg, 0, none⟩) vs.length mcap) (.slice (some ⟨hg, 0, none⟩) vs.length hcap) vs mg hg m mb t ea ec aa ac) (with_reducible assumption)
          (first | (go_at_call 10; refine (look_same (mg := mg) (hg := hg) (m := m) (mb := mb) (t := t) (w := w) (mv := .slice (some ⟨mg, 0, none⟩) vs.length mcap) (hv := .slice (some ⟨hg, 0, none⟩) vs.length hcap) (vs := vs) ?_ (Nat.le_refl _) hlen).mono ?_; with_reducible assumption; rintro e w5 ⟨rfl, hS5⟩) | (go_at_call 11; refine (look_len hS5).mono ?_; rintro e w6 ⟨rfl, hS6⟩))
        have hK6 := hS6.2.2
        clear hS5 hS6 hSd hK1 hnn
        have hw7 := hK6.map.2.2.2.2
        go_wp2
        go_loopw [13] (fun i X => ∃ k : Nat, k ≤ (t.ents 7 0).length ∧ i = .int .i64 k ∧ Look w.heap.size w X (.slice (some ⟨mg, 0, none⟩) vs.length mcap) (.slice (some ⟨hg, 0, none⟩) vs.length hcap) vs mg hg m mb t ea ec aa ac) (fun i _ => (t.ents 7 0).length - (intOf i).toNat)
        case atStart => exact ⟨0, by omega, rfl, hK6⟩
        case round =>
          obtain ⟨k, hk, rfl, hK⟩ := hrel
          clear hK6
          have cm := hK.cm
          have ch := hK.ch
          by_cases hkl : k < (t.ents 7 0).length
          · have hkl' : (k : Int) < (t.ents 7 0).length := by omega
            have hk0 : (0 : Int) ≤ (k : Int) := by omega
            obtain ⟨eg, eo, rfl, q0, q1, q2⟩ := ents_cells hK.ents k hkl
            have hmemk : (t.ents 7 0)[k] ∈ t.ents 7 0 := List.getElem_mem hkl
            obtain ⟨⟨id, x, y⟩, hent⟩ : ∃ y, (t.ents 7 0)[k] = y := ⟨_, rfl⟩
            rw [hent] at q0 q1 q2 hmemk
            simp only at q0 q1 q2
            have hid : id < 4294967296 := by have := ents_range hw7 hmemk; simp at this; omega
            have hget := (mem_of_get hw7 hid).1 hmemk
            clear hmemk
            have hg1 : (t.get 7 id).getD (0, 0) = (x, y) := by rw [hget]; rfl
            have hg2 : (t.get 7 id).isSome = true := by rw [hget]; rfl
            have hmk : ∀ X, Below wr.heap.size wr X → X.cell? ⟨mg, m, none⟩ = some (.pointer (some ⟨mb, 0, none⟩)) ∧ X.cell? ⟨hg, m, none⟩ = some (.slice (some ⟨eg, eo, none⟩) (t.ents 7 0).length ec) ∧ X.cell? ⟨eg, eo + k * 3, none⟩ = some (.int .u32 (id : Int)) ∧ Below wr.heap.size wr X := fun X hb => ⟨(hb.cell (World.block_lt_of_cell? _ _ cm)).trans cm, (hb.cell (World.block_lt_of_cell? _ _ ch)).trans ch, (hb.cell (World.block_lt_of_cell? _ _ q0)).trans q0, hb⟩
            have hOf : ∀ {X}, X.cell? ⟨mg, m, none⟩ = some (.pointer (some ⟨mb, 0, none⟩)) ∧ X.cell? ⟨hg, m, none⟩ = some (.slice (some ⟨eg, eo, none⟩) (t.ents 7 0).length ec) ∧ X.cell? ⟨eg, eo + k * 3, none⟩ = some (.int .u32 (id : Int)) ∧ Below wr.heap.size wr X → Below wr.heap.size wr X := fun h => h.2.2.2
            have hSd := hmk _ (Below.refl wr.heap.size wr).drew
            have hAl : ∀ o, Below wr.heap.size wr (wr.alloc o).drew := fun o => ((Below.refl wr.heap.size wr).alloc (Nat.le_refl _) o).drew
            go_wp2_with fail
            go_cut [14, 15] (fun v o wx => ∃ vb, v = .pointer (some ⟨vb, 0, none⟩) ∧ o = .bool true ∧ wx.cell? ⟨vb, 0, none⟩ = some (.int .i64 x) ∧ wx.cell? ⟨vb, 1, none⟩ = some (.int .i64 y) ∧ Look w.heap.size w wx (.slice (some ⟨mg, 0, none⟩) vs.length mcap) (.slice (some ⟨hg, 0, none⟩) vs.length hcap) vs mg hg m mb t (some ⟨eg, eo, none⟩) ec aa ac)
            case first =>
              go_region_held3 (fun X => X.cell? ⟨mg, m, none⟩ = some (.pointer (some ⟨mb, 0, none⟩)) ∧ X.cell? ⟨hg, m, none⟩ = some (.slice (some ⟨eg, eo, none⟩) (t.ents 7 0).length ec) ∧ X.cell? ⟨eg, eo + k * 3, none⟩ = some (.int .u32 (id : Int)) ∧ Below wr.heap.size wr X)
                (first | (with_reducible assumption) | (exact hmk _ (hAl _)) | (refine hmk _ (below_al (hOf ?_) _); with_reducible assumption) | (refine hmk _ (below_sc2 (hOf ?_) (Nat.le_refl _) _ _); with_reducible assumption))
                (first | (go_at_call 12; refine (look_get (V := wr) hK hB0 (hOf ?_) id x y true hg1 hg2).mono ?_; with_reducible assumption; rintro e w7 ⟨rfl, hW7, hb7⟩; have hS7 := hmk _ hW7; first | (have hbx := box_drew hb7; have b0 := hbx.1; have b1 := hbx.2.1; have f0 := hbx.2.2.1; have f1 := hbx.2.2.2) | skip))
              all_goals (try go_wp2_with fail)
              all_goals go_meet
              all_goals first | exact ⟨_, rfl, rfl, (alloc2_cells _ _ _ _).1, (alloc2_cells _ _ _ _).2, hK.later hB0 (below_al hW7 _)⟩ | exact ⟨_, rfl, rfl, (set2_cells b0 b1 _ _).1, (set2_cells b0 b1 _ _).2, hK.later hB0 (below_sc2 hW7 (Nat.le_refl _) _ _)⟩
            case rest =>
              obtain ⟨vb, rfl, rfl, v0, v1, hKc⟩ := hcut
              have chc := hKc.ch
              obtain ⟨eg', eo', he', -, p1, p2⟩ := ents_cells hKc.ents k hkl
              obtain ⟨rfl, rfl, -⟩ := Addr.mk.inj (Option.some.inj he')
              rw [hent] at p1 p2
              simp only at p1 p2
              have hmk2 : ∀ X, Below wc.heap.size wc X → X.cell? ⟨vb, 0, none⟩ = some (.int .i64 x) ∧ X.cell? ⟨vb, 1, none⟩ = some (.int .i64 y) ∧ X.cell? ⟨hg, m, none⟩ = some (.slice (some ⟨eg, eo, none⟩) (t.ents 7 0).length ec) ∧ X.cell? ⟨eg, eo + k * 3 + 1, none⟩ = some (.int .i64 x) ∧ X.cell? ⟨eg, eo + k * 3 + 2, none⟩ = some (.int .i64 y) ∧ Below wc.heap.size wc X := fun X hb => ⟨(hb.cell (World.block_lt_of_cell? _ _ v0)).trans v0, (hb.cell (World.block_lt_of_cell? _ _ v1)).trans v1, (hb.cell (World.block_lt_of_cell? _ _ chc)).trans chc, (hb.cell (World.block_lt_of_cell? _ _ p1)).trans p1, (hb.cell (World.block_lt_of_cell? _ _ p2)).trans p2, hb⟩
              have hS2 := hmk2 _ (Below.refl wc.heap.size wc).drew
              have hB2 := (Below.refl wc.heap.size wc).drew
              clear hmk hOf hSd hAl hg1 hg2 hK cm ch v0 v1 chc p1 p2 q0 q1 q2
              go_wp2_with fail
              go_region_held3 (fun X => X.cell? ⟨vb, 0, none⟩ = some (.int .i64 x) ∧ X.cell? ⟨vb, 1, none⟩ = some (.int .i64 y) ∧ X.cell? ⟨hg, m, none⟩ = some (.slice (some ⟨eg, eo, none⟩) (t.ents 7 0).length ec) ∧ X.cell? ⟨eg, eo + k * 3 + 1, none⟩ = some (.int .i64 x) ∧ X.cell? ⟨eg, eo + k * 3 + 2, none⟩ = some (.int .i64 y) ∧ Below wc.heap.size wc X) (with_reducible assumption)
                (first | (go_at_call 13; refine (same_V hB2 x y).mono ?_; rintro e w8 ⟨rfl, hb8⟩; have hS8 := hmk2 _ hb8))
              have hK8 := hKc.later hB0 hb8
              clear hmk2 hS2 hB2 hS8 hb8 hKc
              go_wp2
              go_roundw
              case rel => exact ⟨k + 1, by omega, by go_num, hK8⟩
              case measure => simp [intOf]; omega
          · have hkl' : ¬ (k : Int) < (t.ents 7 0).length := by omega
            clear hk hkl
            go_wp2
            go_loopw [16] (fun i X => ∃ k : Nat, k ≤ 60 ∧ k ≤ L.length ∧ i = .int .i64 k ∧ Look w.heap.size w X (.slice (some ⟨mg, 0, none⟩) vs.length mcap) (.slice (some ⟨hg, 0, none⟩) vs.length hcap) vs mg hg m mb t ea ec aa ac) (fun i _ => L.length - (intOf i).toNat)
            case atStart => exact ⟨0, by omega, by omega, rfl, hK⟩
            case round =>
              obtain ⟨k2, hk60, hkL, rfl, hK2⟩ := hrel
              clear hK cm ch
              by_cases hlt4 : k2 < L.length ∧ k2 < 60
              · obtain ⟨hlt4, h60⟩ := hlt4
                have hlt4' : (k2 : Int) < L.length := by omega
                have h60' : (k2 : Int) < 60 := by omega
                have hk0 : (0 : Int) ≤ (k2 : Int) := by omega
                rcases hda with h0 | ⟨ga, oa, rfl, hga, hca⟩
                · rw [h0] at hlt4; simp at hlt4
                obtain ⟨hid, q0, -, -, -⟩ := hca k2 hlt4
                obtain ⟨id, hident⟩ : ∃ z, L[k2].1 = z := ⟨_, rfl⟩
                rw [hident] at hid q0
                have hIdn : Hid (L[k2].1 = id) := hident
                clear hident
                have q0 := (hK2.vers.below.cell (p := ⟨ga, oa + k2 * 4, none⟩) hga).trans q0
                have hfa := fnd_all hw7 hid
                obtain ⟨o, hg2⟩ : ∃ o, (t.get 7 id).isSome = o := ⟨_, rfl⟩
                obtain ⟨⟨x, y⟩, hg1⟩ : ∃ v, (t.get 7 id).getD (0, 0) = v := ⟨_, rfl⟩
                rw [hg2] at hfa
                have hFA : Hid (fnd (t.ents 7 0) id (t.ents 7 0).length = o) := hfa
                have hG1 : Hid ((t.get 7 id).getD (0, 0) = (x, y)) := hg1
                have hG2 : Hid ((t.get 7 id).isSome = o) := hg2
                clear hfa hg1 hg2
                have hoo : (o != o) = false := by cases o <;> rfl
                have cm := hK2.cm
                have hmk : ∀ X, Below wr.heap.size wr X → X.cell? ⟨mg, m, none⟩ = some (.pointer (some ⟨mb, 0, none⟩)) ∧ X.cell? ⟨ga, oa + k2 * 4, none⟩ = some (.int .u32 (id : Int)) ∧ Below wr.heap.size wr X := fun X hb => ⟨(hb.cell (World.block_lt_of_cell? _ _ cm)).trans cm, (hb.cell (World.block_lt_of_cell? _ _ q0)).trans q0, hb⟩
                have hOf : ∀ {X}, X.cell? ⟨mg, m, none⟩ = some (.pointer (some ⟨mb, 0, none⟩)) ∧ X.cell? ⟨ga, oa + k2 * 4, none⟩ = some (.int .u32 (id : Int)) ∧ Below wr.heap.size wr X → Below wr.heap.size wr X := fun h => h.2.2
                have hSd := hmk _ (Below.refl wr.heap.size wr).drew
                have hAl : ∀ o, Below wr.heap.size wr (wr.alloc o).drew := fun o => ((Below.refl wr.heap.size wr).alloc (Nat.le_refl _) o).drew
                go_wp2_with fail
                go_cut [17, 18] (fun v ob wx => ob = .bool o ∧ Look w.heap.size w wx (.slice (some ⟨mg, 0, none⟩) vs.length mcap) (.slice (some ⟨hg, 0, none⟩) vs.length hcap) vs mg hg m mb t ea ec aa ac)
                case first =>
                  go_region_held3 (fun X => X.cell? ⟨mg, m, none⟩ = some (.pointer (some ⟨mb, 0, none⟩)) ∧ X.cell? ⟨ga, oa + k2 * 4, none⟩ = some (.int .u32 (id : Int)) ∧ Below wr.heap.size wr X)
                    (first | (with_reducible assumption) | (exact hmk _ (hAl _)) | (refine hmk _ (below_al (hOf ?_) _); with_reducible assumption) | (refine hmk _ (below_sc2 (hOf ?_) (Nat.le_refl _) _ _); with_reducible assumption))
                    (first | (go_at_call 12; refine (look_get (V := wr) hK2 hB0 (hOf ?_) id x y o hG1.out hG2.out).mono ?_; with_reducible assumption; rintro e w7 ⟨rfl, hW7, hb7⟩; have hS7 := hmk _ hW7; first | (have hbx := box_drew hb7; have b0 := hbx.1; have b1 := hbx.2.1; have f0 := hbx.2.2.1; have f1 := hbx.2.2.2) | skip))
                  all_goals (try go_wp2_with fail)
                  all_goals go_meet
                  all_goals first | exact ⟨rfl, hK2.later hB0 (below_al hW7 _)⟩ | exact ⟨rfl, hK2.later hB0 (below_sc2 hW7 (Nat.le_refl _) _ _)⟩
                case rest =>
                  obtain ⟨rfl, hKc⟩ := hcut
                  clear hmk hOf hSd hAl hK2 cm hG1 hG2 q0
                  go_wp2
                  go_loopw [19, 20] (fun f i X => ∃ n : Nat, n ≤ (t.ents 7 0).length ∧ i = .int .i64 n ∧ f = .bool (fnd (t.ents 7 0) id n) ∧ Look w.heap.size w X (.slice (some ⟨mg, 0, none⟩) vs.length mcap) (.slice (some ⟨hg, 0, none⟩) vs.length hcap) vs mg hg m mb t ea ec aa ac) (fun _ i _ => (t.ents 7 0).length - (intOf i).toNat)
                  case atStart => exact ⟨0, by omega, rfl, by simp [fnd], hKc⟩
                  case round =>
                    obtain ⟨n, hn, rfl, rfl, hKn⟩ := hrel
                    clear hKc
                    by_cases hnl : n < (t.ents 7 0).length
                    · have hnl' : (n : Int) < (t.ents 7 0).length := by omega
                      have hn0 : (0 : Int) ≤ (n : Int) := by omega
                      obtain ⟨qg, qo, rfl, a0, -, -⟩ := ents_cells hKn.all n hnl
                      have hsu := fnd_succ (id := id) hnl
                      have hHs : Hid (fnd (t.ents 7 0) id (n + 1) = (fnd (t.ents 7 0) id n || ((t.ents 7 0)[n].1 == id))) := hsu
                      clear hsu
                      obtain ⟨_, q0, -, -, -⟩ := hca k2 hlt4
                      rw [hIdn.out] at q0
                      have q0 := (hKn.vers.below.cell (p := ⟨ga, oa + k2 * 4, none⟩) hga).trans q0
                      obtain ⟨eid, heid⟩ : ∃ z, (t.ents 7 0)[n].1 = z := ⟨_, rfl⟩
                      rw [heid] at a0 hHs
                      clear heid
                      generalize fnd (t.ents 7 0) id n = fb at *
                      cases fb with
                      | true =>
                        go_wp2_with fail
                        go_quiet (fail)
                        go_wp2
                        go_roundw
                        case rel => exact ⟨n + 1, by omega, by go_num, by rw [hHs.out]; rfl, hKn.later hB0 (below_drewN (Below.refl _ _) nq)⟩
                        case measure => simp [intOf]; omega
                      | false =>
                        by_cases hei : eid = id
                        · have hee : ((eid : Int) == (id : Int)) = true := by rw [hei]; simp
                          go_wp2_with fail
                          go_quiet (fail)
                          go_wp2
                          go_roundw
                          case rel => exact ⟨n + 1, by omega, by go_num, by rw [hHs.out, hei]; simp, hKn.later hB0 (below_drewN (Below.refl _ _) nq)⟩
                          case measure => simp [intOf]; omega
                        · have hee : ((eid : Int) == (id : Int)) = false := by simp; omega
                          go_wp2_with fail
                          go_quiet (fail)
                          go_wp2
                          go_roundw
                          case rel => exact ⟨n + 1, by omega, by go_num, by rw [hHs.out]; simp [hei], hKn.later hB0 (below_drewN (Below.refl _ _) nq)⟩
                          case measure => simp [intOf]; omega
                    · have hnl' : ¬ (n : Int) < (t.ents 7 0).length := by omega
                      have hfo : fnd (t.ents 7 0) id n = o := by rw [show n = (t.ents 7 0).length by omega]; exact hFA.out
                      rw [hfo]
                      clear hfo hFA
                      go_wp2
                      go_roundw
                      case rel => exact ⟨k2 + 1, by omega, by omega, by go_num, hKn⟩
                      case measure => simp [intOf]; omega
              · have hx4 : ¬ (k2 : Int) < L.length ∨ ((k2 : Int) < L.length ∧ ¬ (k2 : Int) < 60) := by omega
                clear hlt4
                have hV2 := hK2.vers
                rcases hx4 with hx4 | ⟨hx4, hx5⟩
                all_goals
                  go_wp2
                  go_roundw
                  case rel => first | exact ⟨m + 1, by omega, by go_num, hV2⟩ | ((repeat apply Exists.intro); exact ⟨⟨m + 1, by omega, by go_num, hV2⟩, rfl⟩)
                  case measure => simp [intOf]; omega
      · have hlt' : ¬ (m : Int) < vs.length := by omega
        go_wp2
        go_ret
        exact ⟨rfl, hVm.below⟩

end Go.Proofs.YtmlkceganilboaaDoor
