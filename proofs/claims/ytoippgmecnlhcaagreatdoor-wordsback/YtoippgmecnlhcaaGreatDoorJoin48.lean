import Derived.Test.YtoippgmecnlhcaaGreatDoorTurnWAnyP
import Derived.Test.YtoippgmecnlhcaaGreatDoorJoin47
import Derived.Test.YtoippgmecnlhcaaGreatDoorTurnWRnd
import Derived.Test.YtoippgmecnlhcaaGreatDoorJoin25
namespace Go.Proofs.YtoippgmecnlhcaaGreatDoor.Q
open Go.RowKit Go.Shelf

def bz (w : Wd) : Itm := (w, 0, 0)
/-- What can be printed is a row of words. -/
theorem pGo_some : ∀ (L : List Tk) (fr : Bool) (acc T : List UInt8), acc.length ≤ 8000 → pGo fr acc L = some T → ∃ ws : List Wd, L.map ofT = ws.map ofW ∧ Vl (spl dtx) (!fr) ws ∧ T = acc ++ prt (spl dtx) fr ws ∧ T.length ≤ 8000
  | [], fr, acc, T, ha, h => by
    unfold pGo at h
    split at h
    · rename_i hf
      cases h
      exact ⟨[], rfl, by rw [hf]; rfl, by simp [prt], ha⟩
    · cases h
  | t :: L, fr, acc, T, ha, h => by
    unfold pGo at h
    by_cases h1 : fr = true ∧ t.1 = 8
    · rw [if_pos h1] at h
      cases h
    · rw [if_neg h1] at h
      by_cases h2 : (wtK t).2 = false
      · rw [if_pos h2] at h
        cases h
      · rw [if_neg h2] at h
        by_cases h3 : 8000 < ((if fr = true ∨ t.1 = 8 then acc else acc ++ [32]) ++ (wtK t).1).length
        · rw [if_pos h3] at h
          cases h
        · rw [if_neg h3] at h
          obtain ⟨ws, i1, i2, i3, i4⟩ := pGo_some L _ _ T (by omega) h
          have hok : (wtK t).2 = true := by simpa using h2
          by_cases h8 : t.1 = 8
          · have hfr : fr = false := by cases fr with | false => rfl | true => exact absurd ⟨rfl, h8⟩ h1
            subst hfr
            unfold wtK at hok
            rw [if_pos h8] at hok
            obtain ⟨z1, z2, z3⟩ := of_decide_eq_true hok
            rw [decide_eq_true h8] at i2 i3
            refine ⟨(8, [], 0, 0) :: ws, ?_, ?_, ?_, i4⟩
            · rw [List.map_cons, List.map_cons, i1]
              congr 1
              obtain ⟨K, A, Tx, N, D0⟩ := t
              simp only at h8 z1 z2 z3
              subst h8 z1 z2 z3
              rfl
            · exact .inl ⟨rfl, rfl, i2⟩
            · rw [i3, if_pos (.inr h8), prt_end]
              unfold wtK
              rw [if_pos h8, List.append_assoc]
          · unfold wtK at hok
            rw [if_neg h8] at hok
            obtain ⟨w, hw⟩ := Option.isSome_iff_exists.1 hok
            obtain ⟨g1, g2, g3⟩ := okW_some hw
            rw [decide_eq_false h8] at i2 i3
            refine ⟨w :: ws, ?_, .inr ⟨g1, ?_⟩, ?_, i4⟩
            · rw [List.map_cons, List.map_cons, i1, g3]
            · exact i2
            · rw [i3, prt_word _ _ _ _ g1.1, g2]
              unfold wtK
              rw [if_neg h8]
              cases fr with
              | true => rw [if_pos (.inl rfl), if_pos rfl, List.nil_append, List.append_assoc]
              | false => rw [if_neg (by simp [h8]), if_neg (by simp), List.append_assoc, List.append_assoc]

set_option maxRecDepth 4000 in
set_option maxHeartbeats 2000000 in
theorem bare_gen (v : Value) (L : List Tk) (ws : List Wd) (hLw : L.map ofT = ws.map ofW) (hl : L.length ≤ 1000000) (w : World) (hv : TkRow w v L) : Calls Tryz.prog 10 #[v] w fun e w' => Below w.heap.size w w' ∧ ∃ v', e = .returned v' ∧ TokRow w' v' (ws.map bz) := by
  obtain ⟨i0, hi, hz0, hz1, hz2⟩ := info_parts infoT
  obtain ⟨aa, ca, rfl, hda⟩ := hv
  have hln0 : L.length = ws.length := by have := congrArg List.length hLw; simpa using this
  have hle1 : L.length ≤ ws.length := by omega
  have hle2 : ws.length ≤ L.length := by omega
  have hfin : Hid (L.length = (ws.map bz).length) := by unfold Hid; rw [List.length_map]; exact hln0
  clear hln0
  go_enter Tryz.func10, Tryz.ntmps10
  go_wp2
  go_loopw [3, 4] (fun mv iv wr => ∃ j : Nat, j ≤ L.length ∧ iv = .int .i64 j ∧ wr.ownsRow w.heap.size 60 5 mv j (tokLs ((ws.take j).map bz)) ∧ Below w.heap.size w wr) (fun _ iv _ => L.length - (intOf iv).toNat)
  case atStart => exact ⟨0, by omega, rfl, World.ownsRow_nil _ _ _ _, Below.refl _ _⟩
  case round =>
    obtain ⟨j, hj, rfl, ho, hB⟩ := hrel
    by_cases hlt : j < L.length
    · have hlt' : (j : Int) < L.length := by omega
      have hj0 : (0 : Int) ≤ (j : Int) := by omega
      rcases hda with h0 | ⟨ga, oa, rfl, hga, hca⟩
      · rw [h0] at hlt; simp at hlt
      obtain ⟨a0, a1, a2, a3, a4⟩ := hca j hlt
      have hltw : j < ws.length := by omega
      have hxw : ofT L[j] = ofW ws[j] := by
        have h1 : (L.map ofT)[j]? = (ws.map ofW)[j]? := by rw [hLw]
        rw [List.getElem?_map, List.getElem?_map, List.getElem?_eq_getElem hlt, List.getElem?_eq_getElem hltw] at h1
        exact Option.some.inj h1
      have htk : Hid (tokLs ((ws.take (j + 1)).map bz) = tokLs ((ws.take j).map bz) ++ tokL (bz ws[j])) := by
        unfold Hid
        rw [List.take_succ_eq_append_getElem hltw, List.map_append, List.map_singleton, tokLs_snoc]
      generalize L[j] = x at *
      generalize ws[j] = y at *
      obtain ⟨K, A, Tx, N, D0⟩ := x
      obtain ⟨k, tx, n, d⟩ := y
      simp only [ofT, ofW, Prod.mk.injEq] at hxw
      obtain ⟨rfl, rfl, rfl, rfl⟩ := hxw
      have a0' := (hB.cell (p := ⟨ga, _, none⟩) hga).trans a0
      have a1' := (hB.cell (p := ⟨ga, _, none⟩) hga).trans a1
      have a2' := (hB.cell (p := ⟨ga, _, none⟩) hga).trans a2
      have a3' := (hB.cell (p := ⟨ga, _, none⟩) hga).trans a3
      have a4' := (hB.cell (p := ⟨ga, _, none⟩) hga).trans a4
      clear a0 a1 a2 a3 a4 hca
      have hsz := hB.size
      go_wp2_with (at_builtin; go_loud (refine wpList_append_own _ rfl _ _ 22 rfl w.heap.size 60 i0 _ 5 48 Tryz.underlying22 hi hz0 hz1 hz2 rfl (by decide) _ j _ rfl ((ho.alloc _).alloc _) ⟨wr.heap.size + 1, 0, none⟩ 1 1 (tokL (bar (bz (k, Tx, n, d)))) rfl rfl (new5b wr _ (bz (k, Tx, n, d)) _) (tok_one (bar (bz (k, Tx, n, d)))) (by unfold maxLen; omega) (by omega) (by simp; omega) ?_); intro v3 w3 hown3 hgrow3 _)
      have hB3 : Below w.heap.size w w3 := ((hB.alloc hsz _).alloc (by simp; omega) _).grown hgrow3 (by simp; omega) (fun j hj => (ho.lt j hj).1)
      go_roundw
      case rel => exact ⟨j + 1, by omega, by go_num, by rw [htk.out]; exact hown3, hB3⟩
      case measure => simp [intOf]; omega
    · have hlt' : ¬ (j : Int) < L.length := by omega
      obtain rfl : j = L.length := by omega
      rw [List.take_of_length_le hle2] at ho
      go_wp2
      go_ret
      refine ⟨hB, _, rfl, tokrow_of_own (base := w.heap.size) ?_⟩
      rw [← hfin.out]
      exact ho

end Go.Proofs.YtoippgmecnlhcaaGreatDoor.Q


namespace Go.Proofs.YtoippgmecnlhcaaGreatDoor.Q
open Go.RowKit Go.Shelf

theorem bar_bz : ∀ (M : List Itm), (∀ x ∈ M, x.2.2 = 0) → M.map bar = (M.map (·.1)).map bz
  | [], _ => rfl
  | x :: M, h => by
    rw [List.map_cons, List.map_cons, List.map_cons, bar_bz M (fun z hz => h z (List.mem_cons_of_mem _ hz))]
    congr 1
    unfold bar bz
    rw [h x (by simp)]

set_option maxRecDepth 8000 in
set_option maxHeartbeats 4000000 in
theorem back_walkQ (v : Value) (L : List Tk) (w : World) (hv : TkRow w v L) (hr : ∀ t ∈ L, Rng t) (hT : Tabs w) : Calls Tryz.prog 3 #[v] w fun e w' => e = .returned (.bool true) ∧ Below w.heap.size w w' := by
  obtain ⟨hC, hE, hM, hS, hX⟩ := hT
  have hk := known_any w hC hE hM hS
  have hv0 := hv
  obtain ⟨aa, ca, rfl, -⟩ := hv
  by_cases hlong : (65536 : Int) < (L.length : Int)
  · go_enter Tryz.func3, Tryz.ntmps3
    go_wp2_with (first | (go_at_call 5; refine hk.mono ?_; rintro e w1 ⟨rfl, hb1⟩))
    go_ret
    exact ⟨rfl, hb1⟩
  · have hp1 := fun W (hb : Below w.heap.size w W) => print_gen (.slice aa L.length ca) L (by omega) hr W (hv0.later hb) (hC.later hb) (hE.later hb) (hM.later hb) (hS.later hb) (hX.later hb)
    cases hR : pGo true [] L with
    | none =>
      rw [hR] at hp1
      unfold outV at hp1
      simp only at hp1
      clear hR hC hE hM hS hX hr hv0
      go_enter Tryz.func3, Tryz.ntmps3
      go_wp2_with (first
        | (go_at_call 5; refine hk.mono ?_; rintro e w1 ⟨rfl, hb1⟩; have h1 := hp1 w1 hb1)
        | (go_at_call 7; refine (num_any _ _).mono ?_; rintro e w9 ⟨rfl, hw9⟩; subst w9)
        | (go_at_call 6; refine h1.mono ?_; rintro e w2 ⟨rfl, hb2⟩; have hB2 := below_step hb1 hb2))
      go_ret
      exact ⟨rfl, hB2⟩
    | some T =>
      rw [hR] at hp1
      unfold outV at hp1
      simp only at hp1
      obtain ⟨ws, hLw, hV, hT, hTs⟩ := pGo_some L true [] T (by simp) hR
      rw [List.nil_append] at hT
      obtain ⟨M, hM'⟩ : ∃ M, foundL (ByteArray.mk T.toArray).data.toList = M := ⟨_, rfl⟩
      have hMT : foundL T = M := hM'
      obtain ⟨hmap, hall2⟩ := round_back hV hT.symm hTs
      have hMn := foundL_len T
      rw [hMT] at hmap hall2 hMn
      have hs2 := fun W (hb : Below w.heap.size w W) => scan_row ⟨T.toArray⟩ M hM' W (hC.later hb) (hE.later hb) (hM.later hb) (hS.later hb)
      have hbar := bar_bz M hall2
      rw [hmap] at hbar
      have hno2 : ¬ ∃ x ∈ M, x.2.2 ≠ 0 := fun ⟨x, hx, hx2⟩ => hx2 (hall2 x hx)
      have hbl : (ws.map bz).length ≤ 1000000000 := by rw [← hbar, List.length_map]; omega
      have hb1' := fun W h => bare_gen (.slice aa L.length ca) L ws hLw (by omega) W h
      have hb2' := fun v W h => bare_any v M (by omega) W h
      rw [hbar] at hb2'
      obtain ⟨BL, hBL⟩ : ∃ BL, ws.map bz = BL := ⟨_, rfl⟩
      rw [hBL] at hb1' hb2' hbl
      clear hbar hBL hmap hM' hMT hall2 hV hT hTs hR hLw hr hC hE hM hS hX hMn
      have tok3 : True := trivial
      go_enter Tryz.func3, Tryz.ntmps3
      go_wp2_with (first
        | (go_at_call 5; refine hk.mono ?_; rintro e w1 ⟨rfl, hb1⟩; have h1 := hp1 w1 hb1)
        | (go_at_call 7; refine (num_any _ _).mono ?_; rintro e w9 ⟨rfl, hw9⟩; subst w9)
        | (go_at_call 6; refine h1.mono ?_; rintro e w3 ⟨rfl, hb3⟩; have hB3 := below_step hb1 hb3; have h3 := hs2 w3 hB3)
        | (go_at_call 8; refine h3.mono ?_; rintro e w4 ⟨hb4, ⟨q1, n1, -, hbad, rfl⟩ | ⟨-, p4, c4, rfl, hm4⟩⟩; (exact absurd hbad hno2); have hB4 := below_step hB3 hb4; have h5 := hb1' w4 (hv0.later hB4))
        | (go_at_call 10; have _u := tok3; clear tok3; refine h5.mono ?_; rintro e w6 ⟨hb6, v6, rfl, hv6⟩; have hB6 := below_step hB4 hb6; have hm6 := hm4.later hb6; have h6 := hb2' _ w6 hm6)
        | (go_at_call 10; refine h6.mono ?_; rintro e w7 ⟨hb7, v7, rfl, hv7⟩; have hB7 := below_step hB6 hb7; have hv6' := hv6.later hb7; have h7 := same_toks v6 v7 BL hbl w7 hv6' hv7)
        | (go_at_call 9; refine h7.mono ?_; rintro e w8 ⟨rfl, hb8⟩; have hB8 := below_step hB7 hb8))
      go_ret
      exact ⟨rfl, hB8⟩

end Go.Proofs.YtoippgmecnlhcaaGreatDoor.Q
namespace Go.Proofs.YtoippgmecnlhcaaGreatDoor
open Go.RowKit
theorem wback_walk (v : Value) (L : List Q.Tk) (w : World) (hv : Q.TkRow w v L ∧ ∀ t ∈ L, Q.Rng t) (hT : Tabs w) : Calls Tryz.prog 3 #[v] w fun e w' => e = .returned (.bool true) ∧ Below w.heap.size w w' := Q.back_walkQ v L w hv.1 hv.2 hT
end Go.Proofs.YtoippgmecnlhcaaGreatDoor
