import Derived.Test.YtblfdjdhikfjhaaGreatTurnBAln
namespace Go.Proofs.YtblfdjdhikfjhaaGreat
open Go.RowKit

def stR (Ls : List Es) (p k j : Nat) : List Es := (List.range j).map fun i => (Ls.getD (p + 1 + i) []).take k
def stU (Ls : List Es) (k j : Nat) : List Es := (List.range j).map fun i => (Ls.getD (Ls.length - 2 - i) []).take k
/-- What look tells of a branch. -/
def vwOf (Ls : List Es) (p : Nat) (bs : Es) (k : Nat) : Vw := ⟨(Ls.getD p []).take k, bs.take k, p, Ls.length - 1 - p, stR Ls p k (Ls.length - 1 - p) ++ stU Ls k (Ls.length - 1)⟩
def LookP (w : World) (Ls : List Es) (p : Nat) (bs : Es) (k : Nat) (e : Ending) (w' : World) : Prop := ∃ va vb vs, e = .returned (vwV va vb vs (vwOf Ls p bs k)) ∧ VwAt w' va vb vs (vwOf Ls p bs k) ∧ VwOk (vwOf Ls p bs k) ∧ Below w.heap.size w w'

theorem stR_succ (Ls : List Es) (p k j : Nat) : stR Ls p k (j + 1) = stR Ls p k j ++ [(Ls.getD (p + 1 + j) []).take k] := by simp [stR, List.range_succ]
theorem stU_succ (Ls : List Es) (k j : Nat) : stU Ls k (j + 1) = stU Ls k j ++ [(Ls.getD (Ls.length - 2 - j) []).take k] := by simp [stU, List.range_succ]
theorem stR_len (Ls : List Es) (p k j : Nat) : (stR Ls p k j).length = j := by simp [stR]
theorem stU_len (Ls : List Es) (k j : Nat) : (stU Ls k j).length = j := by simp [stU]
theorem infoES : (Tryz.prog.info? 22).map (fun i => (i.zero, i.size, i.bytes)) = some (some (.slice none 0 0), 1, 24) := by kernel_rfl
theorem namedT {W : World} {v : Value} {L : Es} {k : Nat} (h : EntsT W v (L.take k)) : ∃ O, Hid (L.take k = O) ∧ EntsT W v O := ⟨_, rfl, h⟩
theorem stR_eq {Ls : List Es} {p k j q : Nat} (h : q = p + 1 + j) : stR Ls p k (j + 1) = stR Ls p k j ++ [(Ls.getD q []).take k] := by rw [h]; exact stR_succ Ls p k j
theorem stU_eq {T Ls : List Es} {k j q : Nat} (h : q = Ls.length - 2 - j) : T ++ stU Ls k (j + 1) = T ++ stU Ls k j ++ [(Ls.getD q []).take k] := by rw [h, stU_succ, List.append_assoc]
theorem stp_small {Ls : List Es} {p k i j : Nat} (h : ∀ L ∈ Ls, L.length ≤ 4294967296) {s : Es} (hs : s ∈ stR Ls p k i ++ stU Ls k j) : s.length ≤ 9223372036854775806 := by
  have hg : ∀ n, ((Ls.getD n []).take k).length ≤ 9223372036854775806 := fun n => by
    refine take_le ?_ k
    by_cases hn : n < Ls.length
    · rw [getD_at hn]
      exact h _ (List.getElem_mem hn)
    · rw [List.getD_eq_getElem?_getD, List.getElem?_eq_none (by omega)]
      simp
  rcases List.mem_append.1 hs with hs | hs
  · obtain ⟨i, -, rfl⟩ := List.mem_map.1 hs
    exact hg _
  · obtain ⟨i, -, rfl⟩ := List.mem_map.1 hs
    exact hg _
theorem hist_small {W : World} {hb : Nat} {Ls : List Es} {p : Nat} (h : HistAt W hb Ls p) : ∀ L ∈ Ls, L.length ≤ 4294967296 := by
  obtain ⟨h1, h2, g, cap, vs, h3, h4, h5, h6⟩ := h
  intro L hL
  obtain ⟨i, hi, rfl⟩ := List.mem_iff_getElem.1 hL
  exact (h6.2 i hi).2.1.len
theorem Cur.current {w : World} {lo bb : Nat} {cur : ByteArray} {Ls : List Es} {p : Nat} (h : Cur w lo bb cur Ls p) : Calls Tryz.prog 21 #[.pointer (some ⟨bb, 0, none⟩)] w fun e w' => e = .returned (.string cur) ∧ w' = w := by
  obtain ⟨Bs, c, h1, h2, -⟩ := h
  exact current_any lo bb Bs cur w h1
theorem Cur.redoN {w : World} {lo bb : Nat} {cur : ByteArray} {Ls : List Es} {p : Nat} (hp : p + 1 = Ls.length) (h : Cur w lo bb cur Ls p) : Calls Tryz.prog 31 #[.pointer (some ⟨bb, 0, none⟩)] w fun e w' => e = .returned (.int .i64 112) ∧ Below w.heap.size w w' := by
  obtain ⟨Bs, c, h1, h2, rfl, rfl, rfl⟩ := h
  exact bredo_none lo bb Bs c h2 hp w h1
theorem Cur.undoN {w : World} {lo bb : Nat} {cur : ByteArray} {Ls : List Es} (h : Cur w lo bb cur Ls 0) : Calls Tryz.prog 30 #[.pointer (some ⟨bb, 0, none⟩)] w fun e w' => e = .returned (.int .i64 111) ∧ Below w.heap.size w w' := by
  obtain ⟨Bs, c, h1, h2, rfl, rfl, h5⟩ := h
  exact bundo_none lo bb Bs c h2 h5 w h1
theorem Mv.belowN {n lo : Nat} {w W W' : World} (h : Below n w W) (hm : Mv lo W W') (hn : n ≤ lo) (hl : n ≤ w.heap.size) : Below n w W' := by
  obtain ⟨r, h1, h2, h3⟩ := hm
  exact h.grown h3 (Nat.le_trans hl h.size) (fun k hk => by cases hk; exact Nat.le_trans hn h1)
set_option maxRecDepth 8000 in
set_option maxHeartbeats 8000000 in
theorem blook_any (lo bb : Nat) (Bs : List Br) (cur : ByteArray) (b : Br) (hb : b ∈ Bs) (hs : b.nm.size ≤ 140737488355328) (most : Int) (w : World) (h : BookAt w lo bb Bs cur) :
    Calls Tryz.prog 26 #[.pointer (some ⟨bb, 0, none⟩), .string b.nm, .int .i64 most] w (LookP w b.Ls b.p b.bs (cnt most)) := by
  have hsmall := hist_small (h.br hb).2.1
  obtain ⟨RW, hRW⟩ : ∃ RW, w.alloc (.cells #[.bool false, .slice none 0 0, .slice none 0 0, .int .i64 0, .int .i64 0, .slice none 0 0] 66) = RW := ⟨_, rfl⟩
  have hb0 : Below w.heap.size w RW := by rw [← hRW]; exact (Below.refl _ _).alloc (Nat.le_refl _) _
  have hr0 := heap_alloc_last w (.cells #[.bool false, .slice none 0 0, .slice none 0 0, .int .i64 0, .int .i64 0, .slice none 0 0] 66)
  rw [hRW] at hr0
  go_enter Tryz.func26, Tryz.ntmps26
  go_wp2_with (go_at_call 10; fail)
  refine (bclone_any lo bb Bs cur RW (h.later hb0)).mono ?_
  rintro e w1 ⟨bc, Cs, rfl, hB1, hf, -, hb1⟩
  have hB1w := below_step hb0 hb1
  have hr1 := (hb1.block w.heap.size (Array.getElem?_eq_some_iff.1 hr0).1).trans hr0
  obtain ⟨c, hc, hS⟩ := hf b hb
  have hlo : RW.heap.size ≤ w1.heap.size := hb1.size
  have hwl : w.heap.size ≤ RW.heap.size := hb0.size
  generalize RW.heap.size = l1 at *
  clear hf h hRW hr0 hb0 hb1
  go_wp2_with (go_at_call 16; fail)
  have hSw := switch_some l1 bc Cs cur c hc (by rw [hS.1]; omega) w1 hB1
  rw [hS.1] at hSw
  refine hSw.mono ?_
  clear hSw
  rintro e w2 ⟨rfl, hB2, hM2⟩
  have hr2 := hM2.row hr1 (by decide) (by decide)
  have hB2w := hM2.belowN hB1w hwl (Nat.le_refl _)
  have hn := hS.1
  clear hr1 hB1 hB1w
  go_wp2_with (go_at_call 18; fail)
  have hOf := of_some l1 bc Cs b.nm c hc w2 hB2
  rw [hn] at hOf
  refine hOf.mono ?_
  clear hOf
  rintro e w3 ⟨m3, rfl, hm3, hb3⟩
  rw [hS.2.1, hS.2.2.1] at hm3
  have hB3 := hB2.later hb3
  have hB3w := below_step hB2w hb3
  have hr3 := (hb3.block w.heap.size (Array.getElem?_eq_some_iff.1 hr2).1).trans hr2
  clear hB2 hB2w hr2
  go_wp2_with (go_at_call 54; fail)
  have hBa := base_some l1 bc Cs b.nm c hc w3 hB3
  rw [hn] at hBa
  refine hBa.mono ?_
  clear hBa
  rintro e w4 ⟨m4, rfl, hm4, rfl⟩
  rw [hS.2.2.2] at hm4
  have hl3 := hm3.len
  have hl4 := hm4.len
  go_wp2_with (go_at_call 19; fail)
  refine (list_T m3 _ most _ hm3).mono ?_
  rintro e w5 ⟨va, rfl, hva, hb5⟩
  have hB5 := hB3.later hb5
  have hB5w := below_step hB3w hb5
  have hr5 := (hb5.block w.heap.size (Array.getElem?_eq_some_iff.1 hr3).1).trans hr3
  have hm5 := hm4.later hb5
  clear hB3 hB3w hr3 hm3 hm4
  go_wp2_with (go_at_call 19; fail)
  refine (list_T m4 _ most _ hm5).mono ?_
  rintro e w6 ⟨vb, rfl, hvb, hb6⟩
  have hB6 := hB5.later hb6
  have hB6w := below_step hB5w hb6
  have hr6 := (hb6.block w.heap.size (Array.getElem?_eq_some_iff.1 hr5).1).trans hr5
  have hva6 := hva.later hb6
  clear hB5 hB5w hr5 hm5 hva
  have hC6 : Cur w6 l1 bc b.nm b.Ls b.p := ⟨Cs, c, hB6, hc, hS.1, hS.2.1, hS.2.2.1⟩
  clear hB6 hM2 hb3 hb5 hb6 hc hS hn
  obtain ⟨A, hA⟩ : ∃ A, Hid ((b.Ls.getD b.p []).take (cnt most) = A) := ⟨_, rfl⟩
  obtain ⟨B, hBb⟩ : ∃ B, Hid (b.bs.take (cnt most) = B) := ⟨_, rfl⟩
  rw [hA.out] at hva6
  rw [hBb.out] at hvb
  obtain ⟨a1, a2, rfl⟩ := hva6.1.len
  obtain ⟨d1, d2, rfl⟩ := hvb.1.len
  obtain ⟨hp1, hp2⟩ := hC6.hist
  have hAl : Hid (A.length ≤ 9223372036854775806) := by rw [← hA.out]; exact take_le hl3 _
  have hBl : Hid (B.length ≤ 9223372036854775806) := by rw [← hBb.out]; exact take_le hl4 _
  have hVBw : w.heap.size < w6.heap.size := (Array.getElem?_eq_some_iff.1 hr6).1
  obtain ⟨r, hr⟩ : ∃ r, b.p + 1 + r = b.Ls.length := ⟨b.Ls.length - (b.p + 1), by omega⟩
  go_wp2_with (go_at_call 55; fail)
  have hb67 : Below w6.heap.size w6 (w6.alloc (.cells #[.bool true, .slice a1 A.length a2, .slice d1 B.length d2, .int .i64 0, .int .i64 0, .slice none 0 0] 66)) := (Below.refl _ _).alloc (Nat.le_refl _) _
  have hv7 := heap_alloc_last w6 (.cells #[.bool true, .slice a1 A.length a2, .slice d1 B.length d2, .int .i64 0, .int .i64 0, .slice none 0 0] 66)
  generalize w6.alloc (.cells #[.bool true, .slice a1 A.length a2, .slice d1 B.length d2, .int .i64 0, .int .i64 0, .slice none 0 0] 66) = X7 at *
  refine ((hC6.later hb67).depth r hr).mono ?_
  rintro e w8 ⟨rfl, hb8⟩
  have hb68 := below_step hb67 hb8
  have hv8 := (hb8.block w6.heap.size (Array.getElem?_eq_some_iff.1 hv7).1).trans hv7
  have hr8 := (hb68.block w.heap.size hVBw).trans hr6
  have hC8 := hC6.later hb68
  have hva8 := hva6.later hb68
  have hvb8 := hvb.later hb68
  have hB8w := below_step hB6w hb68
  clear hC6 hva6 hvb hB6w hr6 hv7 hb67 hb8 hb68
  generalize w6.heap.size = VB at *
  -- the two numbers are stored
  have g3 := frozen_of_row hv8 3
  have hvZ1 := heap_setCell_same w8 VB 3 _ _ (.int .i64 (b.p : Int)) hv8
  have hgZ1 := grown_set w8 VB 3 (.int .i64 (b.p : Int))
  have hv83 := cell_of_row _ _ 3 _ _ _ hv8
  obtain ⟨Z1, hZ1⟩ : ∃ Z, w8.setCell ⟨VB, 3, none⟩ (.int .i64 (b.p : Int)) = Z := ⟨_, rfl⟩
  rw [hZ1] at hvZ1 hgZ1
  have g4 := frozen_of_row hvZ1 4
  have hvZ14 := cell_of_row _ _ 4 _ _ _ hvZ1
  have hvZ2 := heap_setCell_same Z1 VB 4 _ _ (.int .i64 (r : Int)) hvZ1
  have hgZ2 := grown_set Z1 VB 4 (.int .i64 (r : Int))
  obtain ⟨Z2, hZ2⟩ : ∃ Z, Z1.setCell ⟨VB, 4, none⟩ (.int .i64 (r : Int)) = Z := ⟨_, rfl⟩
  rw [hZ2] at hvZ2 hgZ2
  simp at hv83 hvZ14
  have hA8 : Aln w8 VB := ⟨_, _, hv8, by decide, by decide, by decide, by decide, by decide, fun u => by simp⟩
  have hAZ : Aln Z1 VB := ⟨_, _, hvZ1, by decide, by decide, by decide, by decide, by decide, fun u => by simp⟩
  have hRV : w.heap.size ≠ VB := by omega
  have hL : LI w w.heap.size VB l1 bc b.nm b.Ls b.p r (.slice a1 A.length a2) (.slice d1 B.length d2) A B #[.bool false, .slice none 0 0, .slice none 0 0, .int .i64 0, .int .i64 0, .slice none 0 0] (.slice none 0 0) [] b.p Z2 := by
    refine ⟨hvZ2, ⟨fun _ => rfl, [], World.ownsRow_nil _ _ _ _, fun i hi => by simp at hi⟩, (hC8.keptA hA8 hgZ1).keptA hAZ hgZ2, (hva8.keptT hv8 hgZ1 (by decide)).keptT hvZ1 hgZ2 (by decide), (hvb8.keptT hv8 hgZ1 (by decide)).keptT hvZ1 hgZ2 (by decide), ?_, ?_⟩
    · have e1 := (hgZ1.block w.heap.size (Array.getElem?_eq_some_iff.1 hr8).1 (fun e => hRV (Option.some.inj e))).trans hr8
      exact (hgZ2.block w.heap.size (Array.getElem?_eq_some_iff.1 e1).1 (fun e => hRV (Option.some.inj e))).trans e1
    · have e1 := hB8w.grown hgZ1 hB8w.size (fun k hk => by cases hk; omega)
      exact e1.grown hgZ2 e1.size (fun k hk => by cases hk; omega)
  clear hC8 hva8 hvb8 hr8 hB8w hvZ2 hgZ2 hgZ1 hA8 hAZ hv8 hvZ1
  have hf1 : ∀ X, Below Z2.heap.size Z2 X → X.cell? ⟨VB, 1, none⟩ = some (.slice a1 A.length a2) := fun X hX => cell_of_row _ _ 1 _ _ _ (hL.later hX).box
  have B0 : Below Z2.heap.size Z2 Z2.drew := (Below.refl _ _).drew
  have c10 := hf1 _ B0
  go_wp2
  go_region_held3 (fun X => X.cell? ⟨VB, 1, none⟩ = some (.slice a1 A.length a2)) (with_reducible assumption)
    (first
      | (go_at_call 22; refine ((hL.later B0).cur.inputs).mono ?_; rintro e wI ⟨mI, rfl, hmI, hbI⟩; have hBI := below_step B0 hbI; have cI := hf1 _ hBI)
      | (go_at_call 19; refine (list_any mI _ most _ hmI).mono ?_; rintro e wL ⟨vL, rfl, hvL, hbL⟩; have hBL := below_step hBI hbL; have cL := hf1 _ hBL; rw [hA.out] at hvL; obtain ⟨i1, i2, rfl⟩ := hvL.len)
      | (go_at_call 56; refine (same_ents _ _ A hAl.out _ hvL (hL.later hBL).ea.1).mono ?_; rintro e wS ⟨rfl, hbS⟩; have hBS := below_step hBL hbS; have cS := hf1 _ hBS)
      | (go_at_call 21; refine (hL.later hBS).cur.current.mono ?_; rintro e wT ⟨rfl, rfl⟩))
  have hLS := hL.later hBS
  clear hL cI cL hvL hmI hf1 c10 cS hZ1 hZ2 g3 g4 hv83 hvZ14
  have hr32 : r ≤ 32 := by omega
  go_wp2
  go_loopw [13] (fun iv W => ∃ (j : Nat) (sv : Value), j ≤ r ∧ iv = .int .i64 j ∧ LI w w.heap.size VB l1 bc b.nm b.Ls b.p r (.slice a1 A.length a2) (.slice d1 B.length d2) A B #[.bool false, .slice none 0 0, .slice none 0 0, .int .i64 0, .int .i64 0, .slice none 0 0] sv (stR b.Ls b.p (cnt most) j) (b.p + j) W) (fun iv _ => r - (intOf iv).toNat)
  case atStart => exact ⟨0, _, by omega, rfl, hLS⟩
  case round =>
    obtain ⟨j, sv, hj, rfl, hL⟩ := hrel
    clear hLS
    have hj33 : (j : Int) < 33 := by omega
    have hj33d : decide ((j : Int) < 33) = true := decide_eq_true hj33
    by_cases hlt : j < r
    · go_wp2_with (go_at_call 31; fail)
      refine (hL.cur.redo (by omega)).mono ?_
      rintro e u1 ⟨rfl, hC1, hM1⟩
      have hL1 := hL.mv hM1 hwl hC1
      clear hL hC1 hM1
      obtain ⟨T, hT⟩ : ∃ T, Hid (stR b.Ls b.p (cnt most) j = T) := ⟨_, rfl⟩
      rw [hT.out] at hL1
      have hSl : T.length ≤ 100 := by rw [← hT.out]; rw [stR_len]; omega
      obtain ⟨-, xs, hx, hxs⟩ := hL1.own
      have BD : Below u1.heap.size u1 u1.drew := (Below.refl _ _).drew
      have hf5 : ∀ X, Below u1.heap.size u1 X → X.cell? ⟨VB, 5, none⟩ = some sv := fun X hX => cell_of_row _ _ 5 _ _ _ (hL1.later hX).box
      have c5D := hf5 _ BD
      obtain ⟨n0, hni, hnz0, hnz1, hnz2⟩ := info_parts infoES
      go_wp2
      go_region_law (first
        | (refine step_append_own _ rfl _ _ 64 rfl (VB + 1) 22 n0 _ 1 24 Tryz.underlying64 hni hnz0 hnz1 hnz2 rfl (by decide) sv T.length xs rfl (own_laterB hx hBB) ⟨wL.heap.size, 0, none⟩ 1 1 [.slice k1 k2 k3] rfl rfl (one_new wL _ _) (fun u hu => by rw [List.mem_singleton.1 hu]; rfl) (by unfold maxLen; omega) (by omega) (Nat.le_trans (Array.getElem?_eq_some_iff.1 hL1.box).1 hBB.size) ?_; intro v9 w9 hown9 hg9; have hbx := (hL1.later hBB).boxA hg9; have c9 : w9.cell? ⟨VB, 5, none⟩ = some sv := cell_of_row _ _ 5 _ _ _ hbx; have f9 := frozen_of_row hbx 5; obtain ⟨g9, cap9, rfl⟩ := own_some hown9 (by omega))
        | (go_simp; go_at_call 22; refine ((hL1.later BD).cur.inputs).mono ?_; rintro e wI ⟨mI, rfl, hmI, hbI⟩; have hBI := below_step BD hbI; have c5I := hf5 _ hBI)
        | (go_simp; go_at_call 19; refine (list_T mI _ most _ hmI).mono ?_; rintro e wL ⟨vL, rfl, hvL, hbL⟩; have hBL := below_step hBI hbL; have c5L := hf5 _ hBL; obtain ⟨O, hO, hvL⟩ := namedT hvL; obtain ⟨k1, k3, rfl⟩ := hvL.1.len; generalize hk2 : O.length = k2 at *; have hBB := below_step hBL ((Below.refl wL.heap.size wL).alloc (Nat.le_refl _) (.cells #[.slice k1 k2 k3] 22)); have c5B : ∀ o, (wL.alloc o).cell? ⟨VB, 5, none⟩ = some sv := fun o => hf5 _ (below_step hBL ((Below.refl wL.heap.size wL).alloc (Nat.le_refl _) o))))
      all_goals
        have hvB := hvL.later ((Below.refl wL.heap.size wL).alloc (Nat.le_refl _) (.cells #[.slice k1 k2 k3] 22))
        have hN := (hL1.later hBB).more (Nat.le_of_lt hVBw) (own_laterB hx hBB) (fun i hi => by obtain ⟨u, y1, y2⟩ := hxs i hi; exact ⟨u, y1, y2.later hBB⟩) hvB hRV hown9 hg9
        have e9 : T ++ [O] = stR b.Ls b.p (cnt most) (j + 1) := by rw [← hT.out, ← hO.out]; exact (stR_eq (show b.p + j + 1 = b.p + 1 + j by omega)).symm
        rw [e9] at hN
        clear hL1 hx hxs hown9 hg9 hbx c9 f9 hvB hvL hmI hf5 c5D c5I c5L c5B
        go_wp2
        go_roundw
        case rel => exact ⟨j + 1, _, by omega, by go_num, hN⟩
        case measure => simp [intOf]; omega
    · obtain rfl : j = r := by omega
      go_wp2_with (go_at_call 31; fail)
      refine (hL.cur.redoN (by omega)).mono ?_
      rintro e u0 ⟨rfl, hb0⟩
      have hL0 := hL.later hb0
      clear hL hb0
      go_wp2
      go_loopw [14] (fun iv W => ∃ (i : Nat) (sv : Value), i ≤ b.Ls.length - 1 ∧ iv = .int .i64 i ∧ LI w w.heap.size VB l1 bc b.nm b.Ls b.p j (.slice a1 A.length a2) (.slice d1 B.length d2) A B #[.bool false, .slice none 0 0, .slice none 0 0, .int .i64 0, .int .i64 0, .slice none 0 0] sv (stR b.Ls b.p (cnt most) j ++ stU b.Ls (cnt most) i) (b.Ls.length - 1 - i) W) (fun iv _ => b.Ls.length - 1 - (intOf iv).toNat)
      case atStart => exact ⟨0, _, by omega, rfl, by rw [show b.Ls.length - 1 - 0 = b.p + j by omega]; simpa [stU] using hL0⟩
      case round =>
        obtain ⟨i, sv2, hi, rfl, hL⟩ := hrel
        clear hL0
        have hi33 : (i : Int) < 33 := by omega
        have hi33d : decide ((i : Int) < 33) = true := decide_eq_true hi33
        by_cases hlt : i < b.Ls.length - 1
        · obtain ⟨q, hq⟩ : ∃ q, b.Ls.length - 1 - i = q + 1 := ⟨b.Ls.length - 2 - i, by omega⟩
          rw [hq] at hL
          go_wp2_with (go_at_call 30; fail)
          refine hL.cur.undo.mono ?_
          rintro e u1 ⟨rfl, hC1, hM1⟩
          have hL1 := hL.mv hM1 hwl hC1
          clear hL hC1 hM1
          obtain ⟨T, hT⟩ : ∃ T, Hid (stR b.Ls b.p (cnt most) j ++ stU b.Ls (cnt most) i = T) := ⟨_, rfl⟩
          rw [hT.out] at hL1
          have hSl : T.length ≤ 100 := by rw [← hT.out]; rw [List.length_append, stR_len, stU_len]; omega
          obtain ⟨-, xs, hx, hxs⟩ := hL1.own
          have BD : Below u1.heap.size u1 u1.drew := (Below.refl _ _).drew
          have hf5 : ∀ X, Below u1.heap.size u1 X → X.cell? ⟨VB, 5, none⟩ = some sv2 := fun X hX => cell_of_row _ _ 5 _ _ _ (hL1.later hX).box
          have c5D := hf5 _ BD
          obtain ⟨n0, hni, hnz0, hnz1, hnz2⟩ := info_parts infoES
          go_wp2
          go_region_law (first
            | (refine step_append_own _ rfl _ _ 64 rfl (VB + 1) 22 n0 _ 1 24 Tryz.underlying64 hni hnz0 hnz1 hnz2 rfl (by decide) sv2 T.length xs rfl (own_laterB hx hBB) ⟨wL.heap.size, 0, none⟩ 1 1 [.slice k1 k2 k3] rfl rfl (one_new wL _ _) (fun u hu => by rw [List.mem_singleton.1 hu]; rfl) (by unfold maxLen; omega) (by omega) (Nat.le_trans (Array.getElem?_eq_some_iff.1 hL1.box).1 hBB.size) ?_; intro v9 w9 hown9 hg9; have hbx := (hL1.later hBB).boxA hg9; have c9 : w9.cell? ⟨VB, 5, none⟩ = some sv2 := cell_of_row _ _ 5 _ _ _ hbx; have f9 := frozen_of_row hbx 5; obtain ⟨g9, cap9, rfl⟩ := own_some hown9 (by omega))
            | (go_simp; go_at_call 22; refine ((hL1.later BD).cur.inputs).mono ?_; rintro e wI ⟨mI, rfl, hmI, hbI⟩; have hBI := below_step BD hbI; have c5I := hf5 _ hBI)
            | (go_simp; go_at_call 19; refine (list_T mI _ most _ hmI).mono ?_; rintro e wL ⟨vL, rfl, hvL, hbL⟩; have hBL := below_step hBI hbL; have c5L := hf5 _ hBL; obtain ⟨O, hO, hvL⟩ := namedT hvL; obtain ⟨k1, k3, rfl⟩ := hvL.1.len; generalize hk2 : O.length = k2 at *; have hBB := below_step hBL ((Below.refl wL.heap.size wL).alloc (Nat.le_refl _) (.cells #[.slice k1 k2 k3] 22)); have c5B : ∀ o, (wL.alloc o).cell? ⟨VB, 5, none⟩ = some sv2 := fun o => hf5 _ (below_step hBL ((Below.refl wL.heap.size wL).alloc (Nat.le_refl _) o))))
          all_goals
            have hvB := hvL.later ((Below.refl wL.heap.size wL).alloc (Nat.le_refl _) (.cells #[.slice k1 k2 k3] 22))
            have hN := (hL1.later hBB).more (Nat.le_of_lt hVBw) (own_laterB hx hBB) (fun i hi => by obtain ⟨u, y1, y2⟩ := hxs i hi; exact ⟨u, y1, y2.later hBB⟩) hvB hRV hown9 hg9
            have e9 : T ++ [O] = stR b.Ls b.p (cnt most) j ++ stU b.Ls (cnt most) (i + 1) := by rw [← hT.out, ← hO.out]; exact (stU_eq (show q = b.Ls.length - 2 - i by omega)).symm
            rw [e9] at hN
            clear hL1 hx hxs hown9 hg9 hbx c9 f9 hvB hvL hmI hf5 c5D c5I c5L c5B
            go_wp2
            go_roundw
            case rel => exact ⟨i + 1, _, by omega, by go_num, by rw [show b.Ls.length - 1 - (i + 1) = q by omega]; exact hN⟩
            case measure => simp [intOf]; omega
        · obtain rfl : i = b.Ls.length - 1 := by omega
          rw [show b.Ls.length - 1 - (b.Ls.length - 1) = 0 by omega] at hL
          go_wp2_with (go_at_call 30; fail)
          refine hL.cur.undoN.mono ?_
          rintro e u1 ⟨rfl, hb1⟩
          have hL1 := hL.later hb1
          clear hL hb1
          obtain ⟨e1, e2, e3, e4⟩ : (vwOf b.Ls b.p b.bs (cnt most)).now = A ∧ (vwOf b.Ls b.p b.bs (cnt most)).base = B ∧ (vwOf b.Ls b.p b.bs (cnt most)).redo = j ∧ (vwOf b.Ls b.p b.bs (cnt most)).steps = stR b.Ls b.p (cnt most) j ++ stU b.Ls (cnt most) (b.Ls.length - 1) := by
            have hrj : b.Ls.length - 1 - b.p = j := by omega
            exact ⟨hA.out, hBb.out, hrj, by simp only [vwOf, hrj]⟩
          obtain ⟨sa, sn, sc, rfl⟩ : ∃ sa sn sc, sv2 = .slice sa sn sc := by
            obtain ⟨-, xs, hx, -⟩ := hL1.own
            exact own_slice hx
          have y0 : u1.cell? ⟨VB, 0, none⟩ = some (.bool true) := cell_of_row _ _ 0 _ _ _ hL1.box
          have y1 : u1.cell? ⟨VB, 1, none⟩ = some (.slice a1 A.length a2) := cell_of_row _ _ 1 _ _ _ hL1.box
          have y2 : u1.cell? ⟨VB, 2, none⟩ = some (.slice d1 B.length d2) := cell_of_row _ _ 2 _ _ _ hL1.box
          have y3 : u1.cell? ⟨VB, 3, none⟩ = some (.int .i64 (b.p : Int)) := cell_of_row _ _ 3 _ _ _ hL1.box
          have y4 : u1.cell? ⟨VB, 4, none⟩ = some (.int .i64 (j : Int)) := cell_of_row _ _ 4 _ _ _ hL1.box
          have y5 : u1.cell? ⟨VB, 5, none⟩ = some (.slice sa sn sc) := cell_of_row _ _ 5 _ _ _ hL1.box
          have r0 := hL1.res
          have z0 := cell_of_row _ _ 0 _ _ _ r0
          have f0 := frozen_of_row r0 0
          have r1 := heap_setCell_same u1 w.heap.size 0 _ _ (.bool true) r0
          have q0 := grown_set u1 w.heap.size 0 (.bool true)
          obtain ⟨Y1, E1⟩ : ∃ Z, u1.setCell ⟨w.heap.size, 0, none⟩ (.bool true) = Z := ⟨_, rfl⟩
          rw [E1] at r1 q0
          have z1 := cell_of_row _ _ 1 _ _ _ r1
          have f1 := frozen_of_row r1 1
          have r2 := heap_setCell_same Y1 w.heap.size 1 _ _ (.slice a1 A.length a2) r1
          have q1 := grown_set Y1 w.heap.size 1 (.slice a1 A.length a2)
          obtain ⟨Y2, E2⟩ : ∃ Z, Y1.setCell ⟨w.heap.size, 1, none⟩ (.slice a1 A.length a2) = Z := ⟨_, rfl⟩
          rw [E2] at r2 q1
          have z2 := cell_of_row _ _ 2 _ _ _ r2
          have f2 := frozen_of_row r2 2
          have r3 := heap_setCell_same Y2 w.heap.size 2 _ _ (.slice d1 B.length d2) r2
          have q2 := grown_set Y2 w.heap.size 2 (.slice d1 B.length d2)
          obtain ⟨Y3, E3⟩ : ∃ Z, Y2.setCell ⟨w.heap.size, 2, none⟩ (.slice d1 B.length d2) = Z := ⟨_, rfl⟩
          rw [E3] at r3 q2
          have z3 := cell_of_row _ _ 3 _ _ _ r3
          have f3 := frozen_of_row r3 3
          have r4 := heap_setCell_same Y3 w.heap.size 3 _ _ (.int .i64 (b.p : Int)) r3
          have q3 := grown_set Y3 w.heap.size 3 (.int .i64 (b.p : Int))
          obtain ⟨Y4, E4⟩ : ∃ Z, Y3.setCell ⟨w.heap.size, 3, none⟩ (.int .i64 (b.p : Int)) = Z := ⟨_, rfl⟩
          rw [E4] at r4 q3
          have z4 := cell_of_row _ _ 4 _ _ _ r4
          have f4 := frozen_of_row r4 4
          have r5 := heap_setCell_same Y4 w.heap.size 4 _ _ (.int .i64 (j : Int)) r4
          have q4 := grown_set Y4 w.heap.size 4 (.int .i64 (j : Int))
          obtain ⟨Y5, E5⟩ : ∃ Z, Y4.setCell ⟨w.heap.size, 4, none⟩ (.int .i64 (j : Int)) = Z := ⟨_, rfl⟩
          rw [E5] at r5 q4
          have z5 := cell_of_row _ _ 5 _ _ _ r5
          have f5 := frozen_of_row r5 5
          have r6 := heap_setCell_same Y5 w.heap.size 5 _ _ (.slice sa sn sc) r5
          have q5 := grown_set Y5 w.heap.size 5 (.slice sa sn sc)
          obtain ⟨Y6, E6⟩ : ∃ Z, Y5.setCell ⟨w.heap.size, 5, none⟩ (.slice sa sn sc) = Z := ⟨_, rfl⟩
          rw [E6] at r6 q5
          have t0 : Y6.cell? ⟨w.heap.size, 0, none⟩ = some (.bool true) := cell_of_row _ _ 0 _ _ _ r6
          have t1 : Y6.cell? ⟨w.heap.size, 1, none⟩ = some (.slice a1 A.length a2) := cell_of_row _ _ 1 _ _ _ r6
          have t2 : Y6.cell? ⟨w.heap.size, 2, none⟩ = some (.slice d1 B.length d2) := cell_of_row _ _ 2 _ _ _ r6
          have t3 : Y6.cell? ⟨w.heap.size, 3, none⟩ = some (.int .i64 (b.p : Int)) := cell_of_row _ _ 3 _ _ _ r6
          have t4 : Y6.cell? ⟨w.heap.size, 4, none⟩ = some (.int .i64 (j : Int)) := cell_of_row _ _ 4 _ _ _ r6
          have t5 : Y6.cell? ⟨w.heap.size, 5, none⟩ = some (.slice sa sn sc) := cell_of_row _ _ 5 _ _ _ r6
          simp at z0 z1 z2 z3 z4 z5
          have hgA := ((((q0.trans q1).trans q2).trans q3).trans q4).trans q5
          have hVok : VwOk (vwOf b.Ls b.p b.bs (cnt most)) := by
            refine ⟨by rw [e1]; exact hAl.out, by rw [e2]; exact hBl.out, by rw [e4, List.length_append, stR_len, stU_len]; omega, fun s hs' => ?_⟩
            rw [e4] at hs'
            exact stp_small hsmall hs'
          have hVat : VwAt Y6 (.slice a1 A.length a2) (.slice d1 B.length d2) (.slice sa sn sc) (vwOf b.Ls b.p b.bs (cnt most)) := by
            refine ⟨by rw [e1]; exact hL1.ea.keptT hL1.res hgA (by decide), by rw [e2]; exact hL1.eb.keptT hL1.res hgA (by decide), by rw [e4]; exact (hL1.own.keptT hL1.res hgA (by decide) (by decide)).steps⟩
          have hBy : Below w.heap.size w Y6 := hL1.bel.grown hgA hL1.bel.size (fun k hk => by cases hk; exact Nat.le_refl _)
          have hvw : vwV (.slice a1 A.length a2) (.slice d1 B.length d2) (.slice sa sn sc) (vwOf b.Ls b.p b.bs (cnt most)) = .agg #[.bool true, .slice a1 A.length a2, .slice d1 B.length d2, .int .i64 (b.p : Int), .int .i64 (j : Int), .slice sa sn sc] := by
            unfold vwV
            rw [e3]
            rfl
          clear r0 r1 r2 r3 r4 r5 r6 q0 q1 q2 q3 q4 q5 hL1 hgA
          go_wp2
          exact bodyPost_ret (v := .agg #[.bool true, .slice a1 A.length a2, .slice d1 B.length d2, .int .i64 (b.p : Int), .int .i64 (j : Int), .slice sa sn sc]) (by simp [results, Tryz.results26, go_sem, t0, t1, t2, t3, t4, t5]) rfl ⟨_, _, _, by rw [hvw], hVat, hVok, hBy⟩

end Go.Proofs.YtblfdjdhikfjhaaGreat
