import Derived.Test.YtblfdjdhikfjhaaGreatJoin54
namespace Go.Proofs.YtblfdjdhikfjhaaGreat.BZ
open Go.RowKit

theorem hidMk {p : Prop} (h : p) : Hid p := h
theorem entB_nil (W : World) : EntB W (.slice none 0 0) [] := ⟨⟨none, 0, rfl, .inl rfl⟩, by simp, by simp⟩
set_option maxRecDepth 100000 in
set_option maxHeartbeats 4000000 in
theorem bbytes_walk (va vl vt : Value) (L : Es) (Os Ts : List OpR) (cut : Int) (w : World) (ha : EntB w va L) (hl : OpsB w vl Os) (ht : OpsB w vt Ts) (hRa : EsR L) (hRo : ∀ o ∈ Os, EsR o.In) (hRt : ∀ o ∈ Ts, EsR o.In) (hs1 : L.length + tot Os ≤ 100000000000000000) (hs2 : tot Ts ≤ 100000000000000000) : Calls Tryz.prog 3 #[va, vl, vt, .int .i64 cut] w fun e w' => e = .returned (.bool true) ∧ Below w.heap.size w w' := by
  obtain ⟨i0, hi, hz0, hz1, hz2⟩ := info_bits info_u8
  have hG := grown_x va vl L Os hRa hRo w ha hl
  have hLd := fun W hW => laid_x va vl L Os (by omega) W (ha.later hW) (hl.later hW)
  have hLd2 := fun W hW => laid_x (.slice none 0 0) vt [] Ts (by simp; omega) W (entB_nil W) (ht.later hW)
  simp only [List.length_nil, Nat.zero_add] at hLd2
  obtain ⟨k0, hk0⟩ : ∃ k, Hid (L.length + tot Os = k) := ⟨_, rfl⟩
  obtain ⟨k1, hk1⟩ : ∃ k, Hid (tot Ts = k) := ⟨_, rfl⟩
  rw [hk0.out] at hG hs1 hLd
  rw [hk1.out] at hs2 hLd2
  obtain ⟨aa, ac, ea⟩ := ha.1.len
  rw [ea] at hG hLd ⊢
  obtain ⟨la, lc, el, -⟩ := hl
  rw [el] at hG hLd ⊢
  obtain ⟨ta, tc, et, htl, hT⟩ := ht
  rw [et] at hLd2 ⊢
  have hmo : wrap64 ((k0 : Int) + (k1 : Int)) = (k0 : Int) + (k1 : Int) := by unfold wrap64; omega
  have hmo2 : IntKind.i64.wrap ((k0 : Int) + (k1 : Int)) = (k0 : Int) + (k1 : Int) := by rw [IntKind.wrap_i64]; omega
  clear ea el et ha
  go_enter Tryz.func3, Tryz.ntmps3
  go_wp2_with (go_at_call 4; fail)
  refine hG.mono ?_
  clear hG
  rintro e w1 ⟨bb, Bs, cur, rfl, hB1, hG0, hb1⟩
  go_wp2_with (go_at_call 5; fail)
  refine (known_any w1).mono ?_
  rintro e w2 ⟨rfl, hb2⟩
  have hB2 := hB1.later hb2
  have hW2 := below_step hb1 hb2
  obtain ⟨xs, c, hC⟩ := ct_ex hB2
  obtain ⟨hOk, hLen⟩ := ok_x hB2 hG0 hC
  have hp := put_x w.heap.size bb k0 Bs cur w2 hB2 hG0 hC
  clear hB1
  obtain ⟨l, hlE⟩ : ∃ l, Hid (encBk xs c = l) := ⟨_, rfl⟩
  have hpos : 0 < l.length := by rw [← hlE.out]; exact enc_pos xs c
  have hLen' : l.length ≤ 100000000000000 := by rw [← hlE.out]; exact hLen
  rw [hlE.out] at hp
  clear hLen
  go_wp2_with (go_at_call 6; fail)
  refine hp.mono ?_
  rintro e w3 ⟨g, cap, rfl, hd3, hb3⟩
  have hB3 := hB2.later hb3
  have hW3 := below_step hW2 hb3
  have hgy := fun (h : DataAt w3 g cap (encBk xs c)) => get_yes w3 g cap hOk (by rw [hlE.out]; exact hLen') h
  rw [hlE.out] at hgy
  clear hp hB2
  go_wp2_with (go_at_call 7; fail)
  refine (hgy hd3).mono ?_
  rintro e w4 ⟨gb, Ds, cv, rfl, hD4, hCd, hb4⟩
  have hB4 := hB3.later hb4
  have hd4 := hd3.later hb4 hd3.1
  have hW4 := below_step hW3 hb4
  have hGd := gd_ct hG0 hC hCd
  clear hgy hB3 hd3
  go_wp2_with (go_at_call 8; fail)
  refine (hLd w4 hW4).mono ?_
  rintro e w5 ⟨rfl, hb5⟩
  have hW5 := below_step hW4 hb5
  go_wp2_with (go_at_call 8; fail)
  refine (hLd2 w5 hW5).mono ?_
  rintro e w6 ⟨rfl, hb6⟩
  have hb46 := below_step hb5 hb6
  have hB6 := hB4.later hb46
  have hD6 := hD4.later hb46
  have hd6 := hd4.later hb46 hd4.1
  have hW6 := below_step hW5 hb6
  clear hLd hLd2 hB4 hD4 hd4 hb5 hb6 hW5 hW4 hW3 hW2 hb1 hb2 hb3 hb4
  obtain ⟨SB, hSB⟩ : ∃ SB, Hid ((⟨l.toArray⟩ : ByteArray) = SB) := ⟨_, rfl⟩
  have hcv := fun X g2 cap2 (h : DataAt X g2 cap2 l) => conv_data h
  rw [hSB.out] at hcv
  obtain ⟨n, hn⟩ : ∃ n, Hid (l.length = n) := ⟨_, rfl⟩
  rw [hn.out] at hpos hLen' hcv ⊢
  have B0 : Below w6.heap.size w6 w6.drew := (Below.refl _ _).drew
  have hSS : ∀ X, Below w6.heap.size w6 X → (convert 27 9 (.slice (some ⟨g, 0, none⟩) n cap)).run Tryz.prog X = .ok (.string SB) X := fun X hX => hcv X g cap (hd6.later hX hd6.1)
  have s0 := hSS _ B0
  have hsb := fun X (hX : Below w6.heap.size w6 X) => same_books_x w.heap.size bb w3.heap.size gb k0 Bs Ds cur cv xs xs c c ((k0 : Int) + (k1 : Int)) (by omega) X (hB6.later hX) (hD6.later hX) hG0 hGd hC hCd
  have hpg := fun X (hX : Below w6.heap.size w6 X) => put_x w3.heap.size gb k0 Ds cv X (hD6.later hX) hGd hCd
  unfold PutX at hpg
  rw [hlE.out, hn.out] at hpg
  replace hcv := hidMk hcv
  replace hSS := hidMk hSS
  replace hsb := hidMk hsb
  replace hpg := hidMk hpg
  have hee : (SB.toList == SB.toList) = true := beq_self_eq_true _
  have hee2 : (SB.toList != SB.toList) = false := by rw [bne, hee]; rfl
  go_upto_region 7 with fail
  refine wp_region_noPanic ?_
  go_region_held (fun X => (convert 27 9 (.slice (some ⟨g, 0, none⟩) n cap)).run Tryz.prog X = .ok (.string SB) X) (with_reducible assumption)
    (first
      | (go_at_call 9; refine (hsb.out _ B0).mono ?_; rintro e w7 ⟨⟨o, rfl, ho⟩, hb7⟩; obtain rfl : o = true := ho.2 (by simp); clear ho; have U7 := below_step B0 hb7; have s7 := hSS.out _ U7)
      | (go_at_call 6; refine (hpg.out _ U7).mono ?_; rintro e w8 ⟨g8, c8, rfl, hd8, hb8⟩; have U8 := below_step U7 hb8; have s8 := hSS.out _ U8; have v8 := hcv.out _ _ _ hd8))
  refine NoPanic.normal ?_
  have hB8 := hB6.later U8
  have hd8' := hd6.later U8 hd6.1
  have hW8 := below_step hW6 U8
  obtain ⟨t, m, q1, q2, q3, q4, q5⟩ := cut_at cut hpos hLen'
  have hn0 : ((n : Int) == 0) = false := beq_eq_false_iff_ne.2 (by omega)
  have hn1 : ¬ (n : Int) = 0 := by omega
  have hpos' : (0 : Int) < (n : Int) := by omega
  have hncap : n ≤ cap := by rw [← hn.out]; exact hd8'.2.1
  have hm0 : (0 : Int) ≤ (m : Int) := by omega
  have hmc : (m : Int) ≤ (cap : Int) := by omega
  have hml : (l.take m).length = m := by rw [List.length_take, hn.out]; omega
  have hcutg : get (l.take m) = none := by rw [← hlE.out]; exact get_cut hOk (by rw [hlE.out, hn.out]; exact q5)
  have hgn := get_no w8 (some ⟨g, 0, none⟩) (l.take m) cap (by omega) (by omega) (fun e => by cases e) hd8'.take hcutg
  rw [hml] at hgn
  have hmoreg : Hid (get (l ++ [UInt8.ofNat 0]) = none) := by show get _ = none; rw [← hlE.out]; exact get_more hOk _ []
  clear s0 s7 s8 v8 hsb hpg hSS hB6 hd6 hD6 hd8 hb8 hb7 U7 hW6 hGd hCd hml hcutg hb46 U8 B0
  go_wp2_with (go_at_call 7; fail)
  refine hgn.mono ?_
  rintro e w9 ⟨rfl, hb9⟩
  have hB9 := hB8.later hb9
  have hd9 := hd8'.later hb9 hd8'.1
  have hW9 := below_step hW8 hb9
  clear hgn hB8 hd8' hW8 hb9 q1 q2 q3 q4 q5 hm0 hmc
  go_wp2_with (at_builtin; refine stopJ ?_)
  unfold StopJ
  refine wpList_append_own _ rfl _ _ 27 rfl w9.heap.size 5 i0 (.int .u8 0) 1 1 Tryz.underlying27 hi hz0 hz1 hz2 rfl (by decide) _ 0 [] rfl (World.ownsRow_nil w9 _ _ _) ⟨g, 0, none⟩ n cap (Go.Lib.byteCells l) rfl (by rw [Go.Lib.byteCells_length, hn.out, Nat.mul_one]) (fun j u hj => by
    unfold Go.Lib.byteCells at hj
    rw [List.getElem?_map] at hj
    obtain ⟨x, hx, rfl⟩ := Option.map_eq_some_iff.1 hj
    obtain ⟨hjl, rfl⟩ := List.getElem?_eq_some_iff.1 hx
    have := hd9.2.2 j hjl
    rw [show (⟨g, 0, none⟩ : Addr).add j = ⟨g, j, none⟩ by simp [Addr.add]; omega]
    exact this) (Go.Lib.byteCells_one l) (by unfold maxLen; omega) (by omega) (Nat.le_refl _) ?_
  intro v10 w10 hown10 hg10 _
  rw [List.nil_append, Nat.zero_add] at hown10
  have hb10 : Below w9.heap.size w9 w10 := (Below.refl _ _).grown hg10 (Nat.le_refl _) (fun k hk => by cases hk)
  have hbA : Below w9.heap.size w9 (w10.alloc (.cells #[.int .u8 0] 5)) := hb10.alloc hb10.size _
  go_wp2_with (at_builtin; refine stopJ ?_)
  unfold StopJ
  refine wpList_append_own _ rfl _ _ 27 rfl w9.heap.size 5 i0 (.int .u8 0) 1 1 Tryz.underlying27 hi hz0 hz1 hz2 rfl (by decide) _ n (Go.Lib.byteCells l) rfl (hown10.alloc _) ⟨w10.heap.size, 0, none⟩ 1 1 [.int .u8 0] rfl rfl (one_new w10 _ _) (by simp [Value.oneCell']) (by unfold maxLen; omega) (by omega) hbA.size ?_
  intro v11 w11 hown11 hg11 _
  have hb11 : Below w9.heap.size w9 w11 := hbA.grown hg11 hbA.size (fun k hk => (hown10.lt k hk).1)
  rw [show Go.Lib.byteCells l ++ [Value.int .u8 0] = Go.Lib.byteCells (l ++ [UInt8.ofNat 0]) from bytes_snoc l (k := 0) (by decide), show n + 1 = (l ++ [UInt8.ofNat 0]).length by rw [List.length_append, hn.out]; rfl] at hown11
  obtain ⟨g11, cap11, rfl, hd11, -⟩ := data_row hown11 (by rw [List.length_append]; simp)
  have hgm := get_no w11 (some ⟨g11, 0, none⟩) (l ++ [UInt8.ofNat 0]) cap11 (by rw [List.length_append, hn.out]; simp; omega) hd11.2.1 (fun e => by cases e) hd11.inL hmoreg.out
  have hB11 := hB9.later hb11
  have hd11' := hd9.later hb11 hd9.1
  have hW11 := below_step hW9 hb11
  obtain ⟨nm, hnm⟩ : ∃ nm, Hid ((l ++ [UInt8.ofNat 0]).length = nm) := ⟨_, rfl⟩
  rw [hnm.out] at hgm ⊢
  clear hown10 hg10 hb10 hbA hown11 hg11 hb11 hd11 hB9 hd9 hW9 hmoreg
  go_wp2_with (go_at_call 7; fail)
  refine hgm.mono ?_
  rintro e w12 ⟨rfl, hb12⟩
  have hB12 := hB11.later hb12
  have hd12 := hd11'.later hb12 hd11'.1
  have hW12 := below_step hW11 hb12
  clear hgm hB11 hd11' hW11 hb12
  go_wp2_with (go_at_call 10; fail)
  refine (bclone_any _ bb Bs cur w12 hB12).mono ?_
  rintro e w13 ⟨bc, Cs, rfl, hC13, hf1, hf2, hb13⟩
  have hCc := ct_copy (BookAt.apart hB12) (BookAt.apart hC13) hC hf1 hf2
  have hGc := gd_ct hG0 hC hCc
  clear hf1 hf2 hCc
  go_wp2
  go_loopw [21] (fun i wr => ∃ (j : Nat) (Es : List Br) (cu : ByteArray), j ≤ Ts.length ∧ i = .int .i64 j ∧ BookAt wr w12.heap.size bc Es cu ∧ Gd (k0 + tot (Ts.take j)) Es ∧ Below w12.heap.size w12 wr) (fun i _ => Ts.length - (intOf i).toNat)
  case atStart => exact ⟨0, Cs, cur, by omega, rfl, hC13, by simpa [tot] using hGc, hb13⟩
  case round =>
    obtain ⟨j, Es, cu, hj, rfl, hBr, hGr, hB⟩ := hrel
    clear hC13 hGc hb13
    by_cases hlt : j < Ts.length
    · have hlt' : (j : Int) < Ts.length := by omega
      have hltd : decide ((j : Int) < (Ts.length : Int)) = true := decide_eq_true hlt'
      have hj0 : (0 : Int) ≤ (j : Int) := by omega
      rcases hT with h0 | ⟨gt, off, rfl, hgt, hct⟩
      · rw [h0] at hlt; simp at hlt
      obtain ⟨⟨c0, c1, c2, c3, c4⟩, hI⟩ := hct j hlt
      have hWr := below_step hW12 hB
      have hdo := dq_any w12.heap.size bc { data := #[] } Es cu Ts[j] wr hB.size (hI.later hWr) (hRt _ (List.getElem_mem hlt)) hBr
      have htt := tot_take Ts j hlt
      obtain ⟨a3, cap3, e3⟩ := hI.1.1.len
      rw [opV, e3] at hdo
      rw [e3] at c4
      have hGn : ∀ Bs', (∀ k, Gd k Es → Gd (k + Ts[j].In.length) Bs') → Gd (k0 + tot (Ts.take (j + 1))) Bs' := fun Bs' h => by rw [htt, ← Nat.add_assoc]; exact h _ hGr
      generalize Ts[j].kind = k at *
      generalize Ts[j].b = ob at *
      generalize Ts[j].n = on at *
      generalize Ts[j].name = nm at *
      generalize Ts[j].In.length = il at *
      replace c0 := (hWr.cell (p := ⟨gt, _, none⟩) hgt).trans c0
      replace c1 := (hWr.cell (p := ⟨gt, _, none⟩) hgt).trans c1
      replace c2 := (hWr.cell (p := ⟨gt, _, none⟩) hgt).trans c2
      replace c3 := (hWr.cell (p := ⟨gt, _, none⟩) hgt).trans c3
      replace c4 := (hWr.cell (p := ⟨gt, _, none⟩) hgt).trans c4
      clear hct hI e3 htt
      go_wp2_with (go_at_call 11; refine hdo.mono ?_; rintro e w5 ⟨rfl, Bs5, cur5, hB5, hM5, hN5⟩)
      go_roundw
      case rel => exact ⟨j + 1, Bs5, cur5, by omega, by go_num, hB5, hGn _ hN5, hM5.below hB (Nat.le_refl _)⟩
      case measure => simp [intOf]; omega
    · have hlt' : ¬ (j : Int) < Ts.length := by omega
      have hltd : decide ((j : Int) < (Ts.length : Int)) = false := decide_eq_false hlt'
      have hGe : Gd (k0 + k1) Es := by
        obtain rfl : j = Ts.length := by omega
        rw [List.take_length, hk1.out] at hGr
        exact hGr
      have hBB := hB12.later hB
      have hWr := below_step hW12 hB
      have hdr := hd12.later hB hd12.1
      obtain ⟨ys, d, hCy⟩ := ct_ex hBr
      obtain ⟨hOy, -⟩ := ok_x hBr hGe hCy
      clear hGr hd12 hB12 hT hRt hW12 hB
      have B0 : Below wr.heap.size wr wr.drew := (Below.refl _ _).drew
      have hcvd := hcv.out
      have hSS : ∀ X, Below wr.heap.size wr X → (convert 27 9 (.slice (some ⟨g, 0, none⟩) n cap)).run Tryz.prog X = .ok (.string SB) X := fun X hX => hcvd X g cap (hdr.later hX hdr.1)
      have s0 := hSS _ B0
      replace hSS := hidMk hSS
      have hsb := fun X (hX : Below wr.heap.size wr X) => same_books_x w.heap.size bb w12.heap.size bc (k0 + k1) Bs Es cur cu xs ys c d ((k0 : Int) + (k1 : Int)) (by omega) X (hBB.later hX) (hBr.later hX) (hG0.up (Nat.le_add_right _ _)) hGe hC hCy
      have hpb := fun X (hX : Below wr.heap.size wr X) => put_x w.heap.size bb k0 Bs cur X (hBB.later hX) hG0 hC
      have hpc := fun X (hX : Below wr.heap.size wr X) => put_x w12.heap.size bc (k0 + k1) Es cu X (hBr.later hX) hGe hCy
      unfold PutX at hpb hpc
      rw [hlE.out, hn.out] at hpb
      have hL : ∀ (X Y : World) (g2 c2 : Nat) (r : List UInt8), DataAt X g2 c2 r → Below X.heap.size X Y → DataAt Y g2 c2 r := fun X Y g2 c2 r h hb => h.later hb h.1
      by_cases hE : xs = ys ∧ c = d
      · have hE2 : Hid (xs = ys ∧ c = d) := hE
        rw [← hE.1, ← hE.2, hlE.out, hn.out] at hpc
        replace hsb := hidMk hsb
        replace hpb := hidMk hpb
        replace hpc := hidMk hpc
        replace hL := hidMk hL
        clear hcvd hE hOy hOk hCy hC hGe hG0 hBB hBr hRa hRo hlt' hpos hpos' hs1 hs2 hmo hmo2
        go_upto_region 27 with fail
        refine wp_region_noPanic ?_
        go_region_held (fun X => (convert 27 9 (.slice (some ⟨g, 0, none⟩) n cap)).run Tryz.prog X = .ok (.string SB) X) (with_reducible assumption)
          (first
            | (go_at_call 9; refine (hsb.out _ B0).mono ?_; rintro e u1 ⟨⟨o, rfl, ho⟩, hu1⟩; obtain rfl : o = true := ho.2 hE2.out; clear ho; have U1 := below_step B0 hu1; have s1 := hSS.out _ U1)
            | (go_at_call 6; refine (hpb.out _ U1).mono ?_; rintro e u2 ⟨g2, c2, rfl, hd2, hu2⟩; have U2 := below_step U1 hu2; have s2 := hSS.out _ U2; have v2 := hcv.out _ _ _ hd2; clear U1)
            | (go_at_call 6; refine (hpc.out _ U2).mono ?_; rintro e u3 ⟨g3, c3, rfl, hd3, hu3⟩; have U3 := below_step U2 hu3; have s3 := hSS.out _ U3; have v3 := hcv.out _ _ _ hd3; have hd23 := hL.out _ _ _ _ _ hd2 hu3; have v23 := hcv.out _ _ _ hd23; clear U2)
            | (go_at_call 6; refine (hpb.out _ U3).mono ?_; rintro e u4 ⟨g4, c4, rfl, hd4, hu4⟩; have U4 := below_step U3 hu4; have s4 := hSS.out _ U4; have v4 := hcv.out _ _ _ hd4; clear U3))
        all_goals
          refine NoPanic.normal ?_
          have hW4 := below_step hWr U4
          go_wp2
          exact bodyPost_ret (v := .bool true) (by simp [results, Tryz.results3, go_sem]) rfl ⟨rfl, hW4⟩
      · have hE2 : Hid (¬ (xs = ys ∧ c = d)) := hE
        obtain ⟨l2, hl2⟩ : ∃ l2, Hid (encBk ys d = l2) := ⟨_, rfl⟩
        obtain ⟨SC, hSC⟩ : ∃ SC, Hid ((⟨l2.toArray⟩ : ByteArray) = SC) := ⟨_, rfl⟩
        have hne : SB ≠ SC := by
          rw [← hSB.out, ← hSC.out]
          refine str_ne fun e => hE ?_
          rw [← hlE.out, ← hl2.out] at e
          exact enc_inj hOk hOy e
        have hff := toL_ne hne
        have hcv2 := fun X g2 cap2 (h : DataAt X g2 cap2 l2) => conv_data h
        rw [hSC.out] at hcv2
        rw [hl2.out] at hpc
        obtain ⟨n2, hn2⟩ : ∃ n, Hid (l2.length = n) := ⟨_, rfl⟩
        rw [hn2.out] at hpc hcv2
        replace hsb := hidMk hsb
        replace hpb := hidMk hpb
        replace hpc := hidMk hpc
        replace hL := hidMk hL
        replace hcv2 := hidMk hcv2
        clear hcvd hE hOy hOk hCy hC hGe hG0 hBB hBr hRa hRo hlt' hpos hpos' hs1 hs2 hmo hmo2 hne
        go_upto_region 27 with fail
        refine wp_region_noPanic ?_
        go_region_held (fun X => (convert 27 9 (.slice (some ⟨g, 0, none⟩) n cap)).run Tryz.prog X = .ok (.string SB) X) (with_reducible assumption)
          (first
            | (go_at_call 9; refine (hsb.out _ B0).mono ?_; rintro e u1 ⟨⟨o, rfl, ho⟩, hu1⟩; obtain rfl : o = false := (by cases o with | false => rfl | true => exact absurd (ho.1 rfl) hE2.out); clear ho; have U1 := below_step B0 hu1; have s1 := hSS.out _ U1)
            | (go_at_call 6; refine (hpb.out _ U1).mono ?_; rintro e u2 ⟨g2, c2, rfl, hd2, hu2⟩; have U2 := below_step U1 hu2; have s2 := hSS.out _ U2; have v2 := hcv.out _ _ _ hd2; clear U1)
            | (go_at_call 6; refine (hpc.out _ U2).mono ?_; rintro e u3 ⟨g3, c3, rfl, hd3, hu3⟩; have U3 := below_step U2 hu3; have s3 := hSS.out _ U3; have v3 := hcv2.out _ _ _ hd3; have hd23 := hL.out _ _ _ _ _ hd2 hu3; have v23 := hcv.out _ _ _ hd23; clear U2)
            | (go_at_call 6; refine (hpb.out _ U3).mono ?_; rintro e u4 ⟨g4, c4, rfl, hd4, hu4⟩; have U4 := below_step U3 hu4; have s4 := hSS.out _ U4; have v4 := hcv.out _ _ _ hd4; clear U3))
        all_goals
          refine NoPanic.normal ?_
          have hW4 := below_step hWr U4
          go_wp2
          exact bodyPost_ret (v := .bool true) (by simp [results, Tryz.results3, go_sem]) rfl ⟨rfl, hW4⟩

end Go.Proofs.YtblfdjdhikfjhaaGreat.BZ
