import Derived.Test.YtjapkeenlodgcaaBGrown
import Derived.Test.YtjapkeenlodgcaaBKnown
namespace Go.Proofs.Ytjapkeenlodgcaa
open Go.RowKit

theorem turn_here {Bs : List Br} {c : Br} (hc : c ∈ Bs) (Ls : List Es) (p : Nat) : ∃ c1 ∈ turn Bs c.hb Ls p, c1.nm = c.nm ∧ c1.Ls = Ls ∧ c1.p = p := by
  have := turn_mem (hb := c.hb) (Ls := Ls) (p := p) hc
  rw [if_pos rfl] at this
  exact ⟨_, this, rfl, rfl, rfl⟩
theorem getD_snoc (Ls : List Es) (p : Nat) (hp : p < Ls.length) (L : Es) : (Ls.take (p + 1) ++ [L]).getD p [] = Ls.getD p [] ∧ (Ls.take (p + 1) ++ [L]).getD (p + 1) [] = L ∧ (Ls.take (p + 1) ++ [L]).length = p + 2 := by
  have hl : (Ls.take (p + 1)).length = p + 1 := by rw [List.length_take]; omega
  refine ⟨?_, ?_, by simp [hl]⟩
  · rw [List.getD_eq_getElem?_getD, List.getD_eq_getElem?_getD, List.getElem?_append_left (by omega), List.getElem?_take_of_lt (by omega)]
  · rw [List.getD_eq_getElem?_getD, List.getElem?_append_right (by omega), hl]
    simp

/-- A book whose current branch has these versions. -/
def Cur (W : World) (lo bb : Nat) (cur : ByteArray) (Ls : List Es) (p : Nat) : Prop := ∃ Bs c, BookAt W lo bb Bs cur ∧ c ∈ Bs ∧ c.nm = cur ∧ c.Ls = Ls ∧ c.p = p
theorem Cur.later {W W' : World} {lo bb : Nat} {cur : ByteArray} {Ls : List Es} {p : Nat} (h : Cur W lo bb cur Ls p) (hb : Below W.heap.size W W') : Cur W' lo bb cur Ls p := by
  obtain ⟨Bs, c, h1, h2⟩ := h
  exact ⟨Bs, c, h1.later hb, h2⟩
theorem Cur.inputs {w : World} {lo bb : Nat} {cur : ByteArray} {Ls : List Es} {p : Nat} (h : Cur w lo bb cur Ls p) : Calls Try.prog 14 #[.pointer (some ⟨bb, 0, none⟩)] w fun e w' => ∃ mb, e = .returned (.pointer (some ⟨mb, 0, none⟩)) ∧ MapE w' mb (Ls.getD p []) ∧ Below w.heap.size w w' := by
  obtain ⟨Bs, c, h1, h2, rfl, rfl, rfl⟩ := h
  exact inputs_any lo bb Bs c h2 w h1
theorem Cur.hist {w : World} {lo bb : Nat} {cur : ByteArray} {Ls : List Es} {p : Nat} (h : Cur w lo bb cur Ls p) : p < Ls.length ∧ Ls.length ≤ 33 := by
  obtain ⟨Bs, c, h1, h2, rfl, rfl, rfl⟩ := h
  exact ⟨(h1.br h2).2.1.1, (h1.br h2).2.1.2.1⟩
theorem Cur.depth {w : World} {lo bb : Nat} {cur : ByteArray} {Ls : List Es} {p : Nat} (r : Nat) (hr : p + 1 + r = Ls.length) (h : Cur w lo bb cur Ls p) : Calls Try.prog 15 #[.pointer (some ⟨bb, 0, none⟩)] w fun e w' => e = .returned (.tuple #[.int .i64 (p : Int), .int .i64 (r : Int)]) ∧ Below w.heap.size w w' := by
  obtain ⟨Bs, c, h1, h2, rfl, rfl, rfl⟩ := h
  exact bdepth_any lo bb Bs c h2 r hr w h1
theorem Cur.full {w : World} {lo bb : Nat} {cur : ByteArray} {Ls : List Es} (mb : Nat) (h : Cur w lo bb cur Ls 32) : Calls Try.prog 16 #[.pointer (some ⟨bb, 0, none⟩), .pointer (some ⟨mb, 0, none⟩)] w fun e w' => e = .returned (.int .i64 110) ∧ Below w.heap.size w w' := by
  obtain ⟨Bs, c, h1, h2, rfl, rfl, h5⟩ := h
  exact change_full lo bb Bs c h2 h5 mb w h1
theorem Cur.change {w : World} {lo bb : Nat} {cur : ByteArray} {Ls : List Es} {p : Nat} (hp : p < 32) (mb : Nat) (L : Es) (hm : MapE w mb L) (h : Cur w lo bb cur Ls p) : Calls Try.prog 16 #[.pointer (some ⟨bb, 0, none⟩), .pointer (some ⟨mb, 0, none⟩)] w fun e w' => e = .returned (.int .i64 0) ∧ Cur w' lo bb cur (Ls.take (p + 1) ++ [L]) (p + 1) ∧ Mv lo w w' := by
  obtain ⟨Bs, c, h1, h2, rfl, rfl, rfl⟩ := h
  refine (change_some lo bb Bs c h2 hp mb L w h1 hm).mono ?_
  rintro e w' ⟨rfl, hB, hM⟩
  obtain ⟨c1, k1, k2, k3, k4⟩ := turn_here h2 (c.Ls.take (c.p + 1) ++ [L]) (c.p + 1)
  exact ⟨rfl, ⟨_, c1, hB, k1, k2, k3, k4⟩, hM⟩
theorem Cur.undo {w : World} {lo bb : Nat} {cur : ByteArray} {Ls : List Es} {p : Nat} (h : Cur w lo bb cur Ls (p + 1)) : Calls Try.prog 20 #[.pointer (some ⟨bb, 0, none⟩)] w fun e w' => e = .returned (.int .i64 0) ∧ Cur w' lo bb cur Ls p ∧ Mv lo w w' := by
  obtain ⟨Bs, c, h1, h2, rfl, rfl, h5⟩ := h
  refine (bundo_some lo bb Bs c h2 p h5 w h1).mono ?_
  rintro e w' ⟨rfl, hB, hM⟩
  obtain ⟨c1, k1, k2, k3, k4⟩ := turn_here h2 c.Ls p
  exact ⟨rfl, ⟨_, c1, hB, k1, k2, k3, k4⟩, hM⟩
theorem Cur.redo {w : World} {lo bb : Nat} {cur : ByteArray} {Ls : List Es} {p : Nat} (hp : p + 1 < Ls.length) (h : Cur w lo bb cur Ls p) : Calls Try.prog 21 #[.pointer (some ⟨bb, 0, none⟩)] w fun e w' => e = .returned (.int .i64 0) ∧ Cur w' lo bb cur Ls (p + 1) ∧ Mv lo w w' := by
  obtain ⟨Bs, c, h1, h2, rfl, rfl, rfl⟩ := h
  refine (bredo_some lo bb Bs c h2 hp w h1).mono ?_
  rintro e w' ⟨rfl, hB, hM⟩
  obtain ⟨c1, k1, k2, k3, k4⟩ := turn_here h2 c.Ls (c.p + 1)
  exact ⟨rfl, ⟨_, c1, hB, k1, k2, k3, k4⟩, hM⟩

theorem take_le {L : Es} (h : L.length ≤ 4294967296) (k : Nat) : (L.take k).length ≤ 9223372036854775806 := by
  rw [List.length_take]
  omega

theorem ents_take {W : World} {v : Value} {L : Es} {k : Nat} (h : EntsAt W v (L.take k)) (hl : L.length ≤ 4294967296) (hs : ∀ e ∈ L, e.1 < 4294967296) : EntB W v (L.take k) := by
  refine ⟨h, ?_, fun e he => hs e (List.mem_of_mem_take he)⟩
  rw [List.length_take]
  omega
theorem named {W : World} {v : Value} {L : Es} {k : Nat} (h : EntsAt W v (L.take k)) (hl : L.length ≤ 4294967296) : ∃ O, Hid (L.take k = O) ∧ Hid (O.length ≤ 9223372036854775806) ∧ EntsAt W v O := ⟨_, rfl, take_le hl k, h⟩
theorem ents_named {W : World} {v : Value} {L O : Es} {k : Nat} (hO : L.take k = O) (h : EntsAt W v O) (hl : L.length ≤ 4294967296) (hs : ∀ e ∈ L, e.1 < 4294967296) : EntB W v O := by
  subst hO
  exact ents_take h hl hs
theorem want_eq {L X : Es} (k : Nat) (h : Rises L) : (putE (putE [] (L.take k)) X).take k = (putE L X).take k := by
  have hr : Rises (L.take k) := List.Pairwise.sublist (List.take_sublist _ _) h
  rw [putE_nil hr]
  exact putE_take k X hr h (by rw [List.take_take, Nat.min_self])

set_option maxRecDepth 8000 in
set_option maxHeartbeats 8000000 in
theorem bundo_walk (va : Value) (L : Es) (vl : Value) (Os : List OpR) (vx : Value) (X : Es) (w : World) (ha : EntB w va L) (hl : OpsB w vl Os) (hx : EntB w vx X) : Calls Try.prog 4 #[va, vl, vx] w fun e w' => e = .returned (.bool true) ∧ Below w.heap.size w w' := by
  have hG := grown_any va vl L Os w ha hl
  have hLd := fun W hW => laid_any va vl L Os W (ha.later hW) (hl.later hW)
  obtain ⟨xa, xc, ex⟩ := hx.1.len
  rw [ex] at hx ⊢
  obtain ⟨aa, ac, ea⟩ := ha.1.len
  rw [ea] at hG hLd ⊢
  obtain ⟨la, lc, el, -⟩ := hl
  rw [el] at hG hLd ⊢
  clear ea el ex ha
  go_enter Try.func4, Try.ntmps4
  go_wp2_with (go_at_call 5; fail)
  refine hG.mono ?_
  clear hG
  rintro e w1 ⟨bb, Bs, cur, rfl, hB1, -, hb1⟩
  obtain ⟨c, hc, hcn⟩ := hB1.here
  have hC1 : Cur w1 w.heap.size bb cur c.Ls c.p := ⟨Bs, c, hB1, hc, hcn, rfl, rfl⟩
  obtain ⟨hp1, hp2⟩ := hC1.hist
  generalize c.Ls = Ls at *
  generalize c.p = p at *
  clear hB1 hc hcn
  go_wp2_with (go_at_call 6; fail)
  refine (known_any w1).mono ?_
  rintro e w2 ⟨rfl, hb2⟩
  have hC2 := hC1.later hb2
  have hB2 := below_step hb1 hb2
  clear hC1
  go_wp2_with (go_at_call 7; fail)
  refine (hLd w2 hB2).mono ?_
  clear hLd
  rintro e w3 ⟨⟨n3, rfl, hn3⟩, hb3⟩
  have hC3 := hC2.later hb3
  have hB3 := below_step hB2 hb3
  clear hC2
  go_wp2_with (go_at_call 14; fail)
  refine hC3.inputs.mono ?_
  rintro e w4 ⟨m4, rfl, hm4, hb4⟩
  have hC4 := hC3.later hb4
  have hB4 := below_step hB3 hb4
  have hr0 := hm4.rises
  have hl0 := hm4.len
  have hs0 := hm4.small
  clear hC3
  go_wp2_with (go_at_call 13; fail)
  refine (list_any _ _ _ _ hm4).mono ?_
  rintro e w5 ⟨vo, rfl, hvo, hb5⟩
  have hC5 := hC4.later hb5
  have hB5 := below_step hB4 hb5
  clear hm4 hC4
  replace hvo := named hvo hl0
  obtain ⟨O, hO, hOl, hvo⟩ := hvo
  obtain ⟨oa, oc, rfl⟩ := hvo.len
  obtain ⟨r, hr⟩ : ∃ r, p + 1 + r = Ls.length := ⟨Ls.length - (p + 1), by omega⟩
  go_wp2_with (go_at_call 15; fail)
  refine (hC5.depth r hr).mono ?_
  rintro e w6 ⟨rfl, hb6⟩
  have hC6 := hC5.later hb6
  have hB6 := below_step hB5 hb6
  have hvo6 := hvo.later hb6
  clear hC5 hvo
  go_wp2_with (go_at_call 14; fail)
  refine hC6.inputs.mono ?_
  rintro e w7 ⟨m7, rfl, hm7, hb7⟩
  have hC7 := hC6.later hb7
  have hB7 := below_step hB6 hb7
  have hvo7 := hvo6.later hb7
  clear hC6 hvo6
  go_wp2_with (go_at_call 17; fail)
  refine (mapOf_any _ _ _ X _ hm7 (hx.later hB7)).mono ?_
  rintro e w8 ⟨m8, rfl, hm8, hb8⟩
  have hC8 := hC7.later hb8
  have hB8 := below_step hB7 hb8
  have hvo8 := hvo7.later hb8
  have hl1 := hm8.len
  clear hC7 hvo7 hm7
  by_cases h32 : p = 32
  · subst h32
    go_wp2_with (go_at_call 16; fail)
    refine (hC8.full m8).mono ?_
    rintro e w9 ⟨rfl, hb9⟩
    have hC9 := hC8.later hb9
    have hB9 := below_step hB8 hb9
    have hvo9 := hvo8.later hb9
    go_wp2_with (go_at_call 14; fail)
    refine hC9.inputs.mono ?_
    rintro e w10 ⟨m10, rfl, hm10, hb10⟩
    have hvo10 := hvo9.later hb10
    have hB10 := below_step hB9 hb10
    go_wp2_with (go_at_call 13; fail)
    refine (list_any _ _ _ _ hm10).mono ?_
    rintro e w11 ⟨v11, rfl, hv11, hb11⟩
    rw [hO.out] at hv11
    have hvo11 := hvo10.later hb11
    have hB11 := below_step hB10 hb11
    go_wp2_with (go_at_call 18; fail)
    refine (same_ents _ _ _ hOl.out _ hv11 hvo11).mono ?_
    rintro e w12 ⟨rfl, hb12⟩
    go_wp2
    go_ret
    exact ⟨rfl, below_step hB11 hb12⟩
  have hp32 : p < 32 := by omega
  obtain ⟨g1, g2, g3⟩ := getD_snoc Ls p hp1 (putE (Ls.getD p []) X)
  go_wp2_with (go_at_call 16; fail)
  refine (hC8.change hp32 m8 _ hm8).mono ?_
  rintro e w9 ⟨rfl, hC9, hM9⟩
  have hB9 := hM9.below hB8 (Nat.le_refl _)
  have hvo9 := hvo8.mv hM9
  clear hC8 hvo8 hm8
  generalize Ls.take (p + 1) ++ [putE (Ls.getD p []) X] = Ls1 at *
  go_wp2_with (go_at_call 14; fail)
  refine hC9.inputs.mono ?_
  rintro e w10 ⟨m10, rfl, hm10, hb10⟩
  rw [g2] at hm10
  have hC10 := hC9.later hb10
  have hvo10 := hvo9.later hb10
  have hB10 := below_step hB9 hb10
  clear hC9 hvo9
  go_wp2_with (go_at_call 13; fail)
  refine (list_any _ _ _ _ hm10).mono ?_
  rintro e w11 ⟨vn, rfl, hvn, hb11⟩
  have hC11 := hC10.later hb11
  have hvo11 := hvo10.later hb11
  have hB11 := below_step hB10 hb11
  clear hC10 hvo10 hm10
  replace hvn := named hvn hl1
  obtain ⟨N, hN, hNl, hvn⟩ := hvn
  obtain ⟨na, nc, rfl⟩ := hvn.len
  go_wp2_with (go_at_call 19; fail)
  refine (empty_any _).mono ?_
  rintro e w12 ⟨rfl, hM12, hb12⟩
  have hm12 : MapE w12 w11.heap.size [] := ⟨_, hM12, rfl⟩
  have hC12 := hC11.later hb12
  have hvo12 := hvo11.later hb12
  have hvn12 := hvn.later hb12
  have hB12 := below_step hB11 hb12
  clear hM12 hC11 hvo11 hvn
  go_wp2_with (go_at_call 17; fail)
  have hvB := ents_named hO.out hvo12 hl0 hs0
  refine (mapOf_any _ _ _ _ _ hm12 hvB).mono ?_
  clear hvB
  rintro e w13 ⟨m13, rfl, hm13, hb13⟩
  have hC13 := hC12.later hb13
  have hvo13 := hvo12.later hb13
  have hvn13 := hvn12.later hb13
  have hB13 := below_step hB12 hb13
  clear hC12 hvo12 hvn12 hm12
  go_wp2_with (go_at_call 17; fail)
  refine (mapOf_any _ _ _ X _ hm13 (hx.later hB13)).mono ?_
  rintro e w14 ⟨m14, rfl, hm14, hb14⟩
  have hC14 := hC13.later hb14
  have hvo14 := hvo13.later hb14
  have hvn14 := hvn13.later hb14
  have hB14 := below_step hB13 hb14
  clear hC13 hvo13 hvn13 hm13
  go_wp2_with (go_at_call 13; fail)
  refine (list_any _ _ _ _ hm14).mono ?_
  rintro e w15 ⟨vw, rfl, hvw, hb15⟩
  rw [← hO.out, want_eq _ hr0, hN.out] at hvw
  have hC15 := hC14.later hb15
  have hvo15 := hvo14.later hb15
  have hvn15 := hvn14.later hb15
  have hB15 := below_step hB14 hb15
  clear hC14 hvo14 hvn14 hm14
  go_wp2_with (go_at_call 18; fail)
  refine (same_ents _ _ _ hNl.out _ hvn15 hvw).mono ?_
  rintro e w16 ⟨rfl, hb16⟩
  have hC16 := hC15.later hb16
  have hvo16 := hvo15.later hb16
  have hvn16 := hvn15.later hb16
  have hB16 := below_step hB15 hb16
  clear hC15 hvo15 hvn15 hvw
  have hlL1 : p + 1 + 1 ≤ Ls1.length := by omega
  go_wp2
  go_loopw [12, 15] (fun ev i W => ∃ j : Nat, j ≤ 3 ∧ i = .int .i64 j ∧ ev = .int .i64 0 ∧ Cur W w.heap.size bb cur Ls1 (p + 1) ∧ EntsAt W (.slice oa O.length oc) O ∧ EntsAt W (.slice na N.length nc) N ∧ Below w.heap.size w W) (fun _ i _ => 3 - (intOf i).toNat)
  case atStart => exact ⟨0, by omega, rfl, rfl, hC16, hvo16, hvn16, hB16⟩
  case round =>
    obtain ⟨j, hj, rfl, rfl, hC, hvo, hvn, hB⟩ := hrel
    clear hC16 hvo16 hvn16
    by_cases hlt : j < 3
    · have hlt' : (j : Int) < 3 := by omega
      go_wp2_with (go_at_call 20; fail)
      refine hC.undo.mono ?_
      rintro e u1 ⟨rfl, hC1, hM1⟩
      have hB1 := hM1.below hB (Nat.le_refl _)
      have hvo1 := hvo.mv hM1
      have hvn1 := hvn.mv hM1
      clear hC hvo hvn
      go_wp2_with (go_at_call 14; fail)
      refine hC1.inputs.mono ?_
      rintro e u2 ⟨m2, rfl, hm2, hc2⟩
      rw [g1] at hm2
      have hC2 := hC1.later hc2
      have hvo2 := hvo1.later hc2
      have hvn2 := hvn1.later hc2
      have hB2 := below_step hB1 hc2
      clear hC1 hvo1 hvn1
      go_wp2_with (go_at_call 13; fail)
      refine (list_any _ _ _ _ hm2).mono ?_
      rintro e u3 ⟨v3, rfl, hv3, hc3⟩
      rw [hO.out] at hv3
      have hC3 := hC2.later hc3
      have hvo3 := hvo2.later hc3
      have hvn3 := hvn2.later hc3
      have hB3 := below_step hB2 hc3
      clear hC2 hvo2 hvn2 hm2
      go_wp2_with (go_at_call 18; fail)
      refine (same_ents _ _ _ hOl.out _ hv3 hvo3).mono ?_
      rintro e u4 ⟨rfl, hc4⟩
      have hC4 := hC3.later hc4
      have hvo4 := hvo3.later hc4
      have hvn4 := hvn3.later hc4
      have hB4 := below_step hB3 hc4
      clear hC3 hvo3 hvn3 hv3
      go_wp2_with (go_at_call 21; fail)
      refine (hC4.redo (by omega)).mono ?_
      rintro e u5 ⟨rfl, hC5, hM5⟩
      have hB5 := hM5.below hB4 (Nat.le_refl _)
      have hvo5 := hvo4.mv hM5
      have hvn5 := hvn4.mv hM5
      clear hC4 hvo4 hvn4
      go_wp2_with (go_at_call 14; fail)
      refine hC5.inputs.mono ?_
      rintro e u6 ⟨m6, rfl, hm6, hc6⟩
      rw [g2] at hm6
      have hC6 := hC5.later hc6
      have hvo6 := hvo5.later hc6
      have hvn6 := hvn5.later hc6
      have hB6 := below_step hB5 hc6
      clear hC5 hvo5 hvn5
      go_wp2_with (go_at_call 13; fail)
      refine (list_any _ _ _ _ hm6).mono ?_
      rintro e u7 ⟨v7, rfl, hv7, hc7⟩
      rw [hN.out] at hv7
      have hC7 := hC6.later hc7
      have hvo7 := hvo6.later hc7
      have hvn7 := hvn6.later hc7
      have hB7 := below_step hB6 hc7
      clear hC6 hvo6 hvn6 hm6
      go_wp2_with (go_at_call 18; fail)
      refine (same_ents _ _ _ hNl.out _ hv7 hvn7).mono ?_
      rintro e u8 ⟨rfl, hc8⟩
      have hC8 := hC7.later hc8
      have hvo8 := hvo7.later hc8
      have hvn8 := hvn7.later hc8
      have hB8 := below_step hB7 hc8
      clear hC7 hvo7 hvn7 hv7
      go_wp2
      go_roundw
      case rel => exact ⟨j + 1, by omega, by go_num, rfl, hC8, hvo8, hvn8, hB8⟩
      case measure => simp [intOf]; omega
    · have hlt' : ¬ (j : Int) < 3 := by omega
      go_wp2_with (go_at_call 15; fail)
      refine (hC.depth 0 (by omega)).mono ?_
      rintro e u1 ⟨rfl, hc1⟩
      have hpe : wrap64 ((p : Int) + 1) = (p : Int) + 1 := by unfold wrap64; omega
      have hpe2 : IntKind.i64.wrap ((p : Int) + 1) = (p : Int) + 1 := by rw [IntKind.wrap_i64]; omega
      go_wp2
      go_ret
      exact ⟨rfl, below_step hB hc1⟩

end Go.Proofs.Ytjapkeenlodgcaa
