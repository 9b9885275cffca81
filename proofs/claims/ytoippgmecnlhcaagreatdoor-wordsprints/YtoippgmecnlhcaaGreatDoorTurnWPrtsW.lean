import Derived.Test.YtoippgmecnlhcaaGreatDoorJoin47
import Derived.Test.YtoippgmecnlhcaaGreatDoorJoin39
namespace Go.Proofs.YtoippgmecnlhcaaGreatDoor.Q
open Go.RowKit Go.Shelf

theorem room_newT (W : World) (k : Nat) (hk : k < 21) : (W.alloc (.cells #[.slice none 0 0, .slice none 0 0, .slice none 0 0, .slice none 0 0, .slice none 0 0, .slice none 0 0, .slice none 0 0, .slice none 0 0, .slice none 0 0, .slice none 0 0, .slice none 0 0, .slice none 0 0, .slice none 0 0, .slice none 0 0, .slice none 0 0, .slice none 0 0, .slice none 0 0, .slice none 0 0, .slice none 0 0, .slice none 0 0, .slice none 0 0] 58)).cell? ⟨W.heap.size, k, none⟩ = some (.slice none 0 0) ∧ (W.alloc (.cells #[.slice none 0 0, .slice none 0 0, .slice none 0 0, .slice none 0 0, .slice none 0 0, .slice none 0 0, .slice none 0 0, .slice none 0 0, .slice none 0 0, .slice none 0 0, .slice none 0 0, .slice none 0 0, .slice none 0 0, .slice none 0 0, .slice none 0 0, .slice none 0 0, .slice none 0 0, .slice none 0 0, .slice none 0 0, .slice none 0 0, .slice none 0 0] 58)).frozen? ⟨W.heap.size, k, none⟩ = false := by
  refine ⟨?_, by simp⟩
  have e : (#[.slice none 0 0, .slice none 0 0, .slice none 0 0, .slice none 0 0, .slice none 0 0, .slice none 0 0, .slice none 0 0, .slice none 0 0, .slice none 0 0, .slice none 0 0, .slice none 0 0, .slice none 0 0, .slice none 0 0, .slice none 0 0, .slice none 0 0, .slice none 0 0, .slice none 0 0, .slice none 0 0, .slice none 0 0, .slice none 0 0, .slice none 0 0] : Array Value) = Array.replicate 21 (.slice none 0 0) := rfl
  rw [e]
  simp [hk]
theorem set_rng {L : List Tk} (hr : ∀ t ∈ L, Rng t) (k : Nat) (hk : k < L.length) (z : Int) : ∀ t ∈ L.set k (z, L[k].2), Rng t := fun t ht => by
  rcases List.mem_or_eq_of_mem_set ht with h | rfl
  · exact hr t h
  · exact hr L[k] (List.getElem_mem hk)
theorem tk_of_own {w : World} {base : Nat} {v : Value} {L : List Tk} (h : w.ownsRow base 60 5 v L.length (tkLs L)) (hn : 0 < L.length) : TkRow w v L := by
  obtain ⟨g, cap, rfl⟩ := own_lit h hn
  refine ⟨_, cap, rfl, .inr ⟨g, 0, rfl, (h.lt g rfl).2, fun j hj => ?_⟩⟩
  have key : ∀ i u, i < 5 → (tkL L[j])[i]? = some u → w.cell? ⟨g, 0 + j * 5 + i, none⟩ = some u := fun i u hi hu => by
    rw [Nat.zero_add]
    exact (h.cellAt (j * 5 + i) (by omega)).trans ((tkLs_get L j i hj hi).trans hu)
  exact ⟨key 0 _ (by omega) rfl, key 1 _ (by omega) rfl, key 2 _ (by omega) rfl, key 3 _ (by omega) rfl, key 4 _ (by omega) rfl⟩
theorem tkLs_len (L : List Tk) : (tkLs L).length = L.length * 5 := by
  induction L with
  | nil => rfl
  | cons x L ih =>
    show (tkL x ++ tkLs L).length = _
    rw [List.length_append, ih, List.length_cons, show (tkL x).length = 5 from rfl]
    omega
theorem tkLs_one' (L : List Tk) : ∀ u ∈ tkLs L, u.oneCell' = true := fun u hu => by
  obtain ⟨t, _, ht⟩ := List.mem_flatMap.1 hu
  exact tk_one t u ht
theorem St.cells {X : World} {R g g2 cap2 capN : Nat} {L : List Tk} (h : St X R g g2 cap2 capN L) : ∀ j u, (tkLs L)[j]? = some u → X.cell? ((⟨g, 0, none⟩ : Addr).add j) = some u := fun j u hu => by
  have hj : j < L.length * 5 := by
    rw [← tkLs_len]
    exact (List.getElem?_eq_some_iff.1 hu).1
  have hd : j / 5 < L.length := by omega
  have hm : j % 5 < 5 := Nat.mod_lt _ (by decide)
  have he : j = j / 5 * 5 + j % 5 := by omega
  rw [he, tkLs_get L (j / 5) (j % 5) hd hm] at hu
  obtain ⟨q0, q1, q2, q3, q4⟩ := h.row (j / 5) hd
  have ha : (⟨g, 0, none⟩ : Addr).add j = ⟨g, j / 5 * 5 + j % 5, none⟩ := by rw [← he, Go.WideShapes.add_plain, Nat.zero_add]
  rw [ha]
  generalize j % 5 = m at hu hm
  match m, hm with
  | 0, _ => rw [Nat.add_zero]; exact q0.trans hu
  | 1, _ => exact q1.trans hu
  | 2, _ => exact q2.trans hu
  | 3, _ => exact q3.trans hu
  | 4, _ => exact q4.trans hu

set_option maxRecDepth 100000 in
set_option maxHeartbeats 8000000 in
theorem prints_walkQ (v : Value) (L : List Tk) (w : World) (hv : TkRow w v L) (hr : ∀ t ∈ L, Rng t) (hT : Tabs w) : Calls Tryz.prog 4 #[v] w fun e w' => e = .returned (.bool true) ∧ Below w.heap.size w w' := by
  obtain ⟨hC, hE, hM, hS, hX, hRS⟩ := hT
  obtain ⟨i0, hi, hz0, hz1, hz2⟩ := info_parts infoT
  have hv0 := hv
  obtain ⟨aa, ca, rfl, -⟩ := hv
  by_cases hlong : (65536 : Int) < (L.length : Int)
  · go_enter Tryz.func4, Tryz.ntmps4
    go_wp2
    go_ret
    exact ⟨rfl, Below.refl _ _⟩
  · have hl0 : L.length ≤ 65536 := by omega
    have hpP := fun (u : Value) (M : List Tk) (hm : M.length ≤ 65536) (hrm : ∀ t ∈ M, Rng t) (T : ByteArray) (z : Int) (ho : outV (pGo true [] M) = .tuple #[.string T, .int .i64 z]) W (hb : Below w.heap.size w W) (hu : TkRow W u M) => (show Calls Tryz.prog 6 #[u] W fun e w' => e = .returned (.tuple #[.string T, .int .i64 z]) ∧ Below W.heap.size W w' from by rw [← ho]; exact print_gen u M (by omega) hrm W hu (hC.later hb) (hE.later hb) (hM.later hb) (hS.later hb) (hX.later hb))
    have hpR := fun (u : Value) (M : List Tk) (hm : M.length ≤ 65536) (hrm : ∀ t ∈ M, Rng t) (T : ByteArray) (z : Int) (ho : outV (pGo true [] M) = .tuple #[.string T, .int .i64 z]) W (hb : Below w.heap.size w W) (hu : TkRow W u M) => (show Calls Tryz.prog 11 #[u] W fun e w' => e = .returned (.tuple #[.string T, .int .i64 z]) ∧ Below W.heap.size W w' from by rw [← ho]; exact rprint_gen u M (by omega) hrm W hu (hRS.later hb))
    clear hC hE hM hS hX hRS
    obtain ⟨T1, z1, ho1⟩ := outV_lit (pGo true [] L)
    have hR1 := hpR _ L hl0 hr T1 z1 ho1 w (Below.refl _ _) hv0
    have hP1 := fun u => hpP u L hl0 hr T1 z1 ho1
    clear ho1
    go_enter Tryz.func4, Tryz.ntmps4
    go_wp2_with (first | (go_at_call 11; refine hR1.mono ?_; clear hR1; rintro e w1 ⟨rfl, hb1⟩) | (go_at_call 12; fail))
    have hrn := room_newT w1
    have hsz : (w1.alloc (.cells #[.slice none 0 0, .slice none 0 0, .slice none 0 0, .slice none 0 0, .slice none 0 0, .slice none 0 0, .slice none 0 0, .slice none 0 0, .slice none 0 0, .slice none 0 0, .slice none 0 0, .slice none 0 0, .slice none 0 0, .slice none 0 0, .slice none 0 0, .slice none 0 0, .slice none 0 0, .slice none 0 0, .slice none 0 0, .slice none 0 0, .slice none 0 0] 58)).heap.size = w1.heap.size + 1 := by simp
    have hB2 : Below w.heap.size w (w1.alloc (.cells #[.slice none 0 0, .slice none 0 0, .slice none 0 0, .slice none 0 0, .slice none 0 0, .slice none 0 0, .slice none 0 0, .slice none 0 0, .slice none 0 0, .slice none 0 0, .slice none 0 0, .slice none 0 0, .slice none 0 0, .slice none 0 0, .slice none 0 0, .slice none 0 0, .slice none 0 0, .slice none 0 0, .slice none 0 0, .slice none 0 0, .slice none 0 0] 58)) := hb1.alloc hb1.size _
    have hTk := tokens_room w1.heap.size (.slice aa L.length ca) L _ (by omega) (hv0.later hB2) (hrn 7 (by omega)).1 (hrn 7 (by omega)).2
    have hRb : RoomBut (w1.alloc (.cells #[.slice none 0 0, .slice none 0 0, .slice none 0 0, .slice none 0 0, .slice none 0 0, .slice none 0 0, .slice none 0 0, .slice none 0 0, .slice none 0 0, .slice none 0 0, .slice none 0 0, .slice none 0 0, .slice none 0 0, .slice none 0 0, .slice none 0 0, .slice none 0 0, .slice none 0 0, .slice none 0 0, .slice none 0 0, .slice none 0 0, .slice none 0 0] 58)) w1.heap.size 7 := fun k hk _ => (hrn k hk).1
    have hc7 := (hrn 7 (by omega)).1
    clear hrn
    generalize w1.alloc (.cells #[.slice none 0 0, .slice none 0 0, .slice none 0 0, .slice none 0 0, .slice none 0 0, .slice none 0 0, .slice none 0 0, .slice none 0 0, .slice none 0 0, .slice none 0 0, .slice none 0 0, .slice none 0 0, .slice none 0 0, .slice none 0 0, .slice none 0 0, .slice none 0 0, .slice none 0 0, .slice none 0 0, .slice none 0 0, .slice none 0 0, .slice none 0 0] 58) = W2 at *
    refine hTk.mono ?_
    clear hTk
    rintro _ W3 ⟨g, g2, cap2, capN, Wm, rfl, hBm, rfl, hoN, hg2c, hg2⟩
    have hs1 := hb1.size
    obtain ⟨R, hR⟩ : ∃ R, w1.heap.size = R := ⟨_, rfl⟩
    rw [hR] at hsz hRb hc7 hs1 ⊢
    have hgl := hoN.lt g rfl
    have hgw : w.heap.size ≤ g := by omega
    have hSt := st_new (cap2 := cap2) (by omega) hRb hc7 hBm hoN hg2c hg2
    have hB3 : Below w.heap.size w (Wm.setCell ⟨R, 7, none⟩ (.slice (some ⟨g2, 0, none⟩) 1 cap2)) := (below_of hB2 hBm).setCell (p := ⟨R, 7, none⟩) (by show w.heap.size ≤ R; omega) _
    generalize Wm.setCell ⟨R, 7, none⟩ (.slice (some ⟨g2, 0, none⟩) 1 cap2) = X3 at *
    clear hoN hg2c hg2 hBm hRb hc7 hB2 hgl hsz
    have hP2 := hP1 _ X3 hB3 (hSt.tk (L.length + 40))
    clear hP1
    have hv3 := fun W hb => hv0.later (W' := W) hb
    by_cases hem : L.length = 0
    · have hem' : ((L.length : Int) == 0) = true := by rw [hem]; rfl
      clear hem
      go_wp2_with (first
        | (go_at_call 6; refine hP2.mono ?_; clear hP2; rintro e X4 ⟨rfl, hb4⟩; have hB4 := below_of hB3 hb4; have hS4 := hSt.later hb4; have hsm := same_tks _ _ L (by omega) X4 (hS4.tk (L.length + 40)) (hv3 X4 hB4))
        | (go_at_call 7; refine (num_any _ _).mono ?_; rintro e w9 ⟨rfl, hw9⟩; subst w9)
        | (go_at_call 9; refine hsm.mono ?_; clear hsm; rintro e X5 ⟨rfl, hb5⟩; have hB5 := below_of hB4 hb5; have hS5 := hS4.later hb5; have hHo := hS5.hold (by omega))
        | (go_at_call 13; refine hHo.mono ?_; clear hHo; rintro e X6 ⟨rfl, hb6⟩; have hB6 := below_of hB5 hb6; have hS6 := hS5.later hb6))
      go_ret
      exact ⟨rfl, hB6⟩
    have hem' : ((L.length : Int) == 0) = false := by simp; exact fun e => hem (by rw [e]; rfl)
    go_wp2_with (first
      | (go_at_call 6; refine hP2.mono ?_; clear hP2; rintro e X4 ⟨rfl, hb4⟩; have hB4 := below_of hB3 hb4; have hS4 := hSt.later hb4; have hsm := same_tks _ _ L (by omega) X4 (hS4.tk (L.length + 40)) (hv3 X4 hB4))
      | (go_at_call 7; refine (num_any _ _).mono ?_; rintro e w9 ⟨rfl, hw9⟩; subst w9)
      | (go_at_call 9; refine hsm.mono ?_; clear hsm; rintro e X5 ⟨rfl, hb5⟩; have hB5 := below_of hB4 hb5; have hS5 := hS4.later hb5; have hHo := hS5.hold (by omega))
      | (go_at_call 13; refine hHo.mono ?_; clear hHo; rintro e X6 ⟨rfl, hb6⟩; have hB6 := below_of hB5 hb6; have hS6 := hS5.later hb6))
    obtain ⟨k, hk⟩ : ∃ k : Nat, (L.length : Int) / 2 = (k : Int) := ⟨L.length / 2, by omega⟩
    have hkl : k < L.length := by omega
    simp only [hk]
    have hk' : Hid ((L.length : Int) / 2 = (k : Int)) := hk
    clear hk hem hem' hS4 hB4 hb4 hS5 hB5 hb5 hb6 hSt hB3 hv3 hv0 hb1 hR hs1
    have hrel0 : ∃ (j : Nat) (M : List Tk), j ≤ 2 ∧ (Value.int .i64 0) = .int .i64 (j : Int) ∧ Hid (M.length = L.length) ∧ (∀ t ∈ M, Rng t) ∧ St X6 R g g2 cap2 capN M ∧ Below w.heap.size w X6 := ⟨0, L, by omega, rfl, rfl, hr, hS6, hB6⟩
    clear hS6 hB6 hr
    go_loopw [3, 4, 7, 8, 10] (fun _ _ _ _ iv wr => ∃ (j : Nat) (M : List Tk), j ≤ 2 ∧ iv = .int .i64 (j : Int) ∧ Hid (M.length = L.length) ∧ (∀ t ∈ M, Rng t) ∧ St wr R g g2 cap2 capN M ∧ Below w.heap.size w wr) (fun _ _ _ _ iv _ => 2 - (intOf iv).toNat)
    case atStart => exact hrel0
    case round =>
      clear hrel0
      obtain ⟨j, M, hj, rfl, hM, hrM, hS, hB⟩ := hrel
      by_cases hlt : j < 2
      · have hlt' : (j : Int) < 2 := by omega
        have hkM : k < M.length := by rw [hM.out]; exact hkl
        obtain ⟨K, hK⟩ : ∃ K, M[k].1 = K := ⟨_, rfl⟩
        have c0 := (hS.row k hkM).1
        rw [hK] at c0
        have f0 := hS.frz (k * 5)
        have hkl' : (k : Int) < (L.length : Int) := by omega
        have hk0 : (0 : Int) ≤ (k : Int) := by omega
        clear hK
        obtain ⟨z, hz⟩ : ∃ z : Int, wrap64 (9 - K) = z := ⟨_, rfl⟩
        have hS2 := hS.set k hkM z
        have hB2 : Below w.heap.size w (wr.setCell ⟨g, k * 5, none⟩ (.int .i64 z)) := hB.setCell (p := ⟨g, k * 5, none⟩) hgw _
        have hr2 := set_rng hrM k hkM z
        have hM2 : Hid ((M.set k (z, M[k].2)).length = L.length) := by unfold Hid; rw [List.length_set]; exact hM.out
        generalize M.set k (z, M[k].2) = M2 at *
        obtain ⟨T2, z2, ho2⟩ := outV_lit (pGo true [] M2)
        generalize hXe : wr.setCell ⟨g, k * 5, none⟩ (.int .i64 z) = X at *
        have hrow := World.ownsRow_lit (base := X.heap.size) (e := 60) (size := 5) X #[] 0 (Nat.le_refl _) (by unfold maxLen; omega) rfl
        have hSA := fun o => (hS2.later ((Below.refl X.heap.size X).alloc (Nat.le_refl _) o)).cells
        have hMl : M2.length ≤ 65536 := by rw [hM2.out]; exact hl0
        have hMp : 0 < M2.length := by rw [hM2.out]; omega
        have hlen5 : Hid ((tkLs M2).length = L.length * 5) := by unfold Hid; rw [tkLs_len, hM2.out]
        go_wp2_with (first
          | (at_builtin; go_loud (refine wpList_append_own _ rfl _ _ 22 rfl X.heap.size 60 i0 _ 5 48 Tryz.underlying22 hi hz0 hz1 hz2 rfl (by decide) _ 0 [] rfl hrow ⟨g, 0, none⟩ L.length (L.length + 40) (tkLs M2) rfl hlen5.out (hSA _) (tkLs_one' M2) (by unfold maxLen; omega) (by omega) (by simp) ?_); intro v' w2 hown' hgrow _; have hX2 : Below X.heap.size X w2 := ((Below.refl _ _).alloc (Nat.le_refl _) _).grown hgrow (by simp) (fun j hj => (hrow.lt j hj).1); have hS3 := hS2.later hX2; have hB3 := below_of hB2 hX2; have hR2 := hpR v' M2 hMl hr2 T2 z2 ho2 w2 hB3 (tk_of_own (base := X.heap.size) (by rw [hM2.out]; simpa using hown') hMp))
          | (go_at_call 11; refine hR2.mono ?_; clear hR2; rintro e w3 ⟨rfl, hb3⟩; have hS4 := hS3.later hb3; have hB4 := below_of hB3 hb3; have hP3 := hpP (.slice (some ⟨g, 0, none⟩) L.length (L.length + 40)) M2 hMl hr2 T2 z2 ho2 w3 hB4 (by have := hS4.tk (L.length + 40); rwa [hM2.out] at this))
          | (go_at_call 6; refine hP3.mono ?_; clear hP3; rintro e w4 ⟨rfl, hb4⟩; have hS5 := hS4.later hb4; have hB5 := below_of hB4 hb4)
          | (go_at_call 7; refine (num_any _ _).mono ?_; rintro e w9 ⟨rfl, hw9⟩; subst w9))
        go_roundw
        case rel => exact ⟨j + 1, M2, by omega, by go_num, hM2, hr2, hS5, hB5⟩
        case measure => simp [intOf]; omega
      · have hlt' : ¬ (j : Int) < 2 := by omega
        have hHo := hS.hold (by rw [hM.out]; omega)
        go_wp2_with (go_at_call 13; refine hHo.mono ?_; clear hHo; rintro e X6 ⟨rfl, hb6⟩)
        go_ret
        exact ⟨rfl, below_of hB hb6⟩

end Go.Proofs.YtoippgmecnlhcaaGreatDoor.Q
namespace Go.Proofs.YtoippgmecnlhcaaGreatDoor
open Go.RowKit
theorem wprints_walk (v : Value) (L : List Q.Tk) (w : World) (hv : Q.TkRow w v L ∧ ∀ t ∈ L, Q.Rng t) (hT : Tabs w) : Calls Tryz.prog 4 #[v] w fun e w' => e = .returned (.bool true) ∧ Below w.heap.size w w' := Q.prints_walkQ v L w hv.1 hv.2 hT
end Go.Proofs.YtoippgmecnlhcaaGreatDoor
