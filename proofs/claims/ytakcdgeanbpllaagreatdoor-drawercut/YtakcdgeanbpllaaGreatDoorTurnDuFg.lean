import Derived.Test.YtakcdgeanbpllaaGreatDoorJoin50
/- DrawerCut, one of the ways out of it. -/
namespace Go.Proofs.YtakcdgeanbpllaaGreatDoor.DJ
open Go.RowKit
set_option linter.constructorNameAsVariable false

set_option maxRecDepth 8000 in
set_option maxHeartbeats 4000000 in
theorem cut_walk_g (sum : Nat) (hsum : sum < 4294967296) (a : Option Addr) (cap : Nat) (bs : List (List Nat)) (at0 by0 : Int) (hat0 : -9223372036854775808 ≤ at0 ∧ at0 ≤ 9223372036854775807) (hby0 : -9223372036854775808 ≤ by0 ∧ by0 ≤ 9223372036854775807) (w : World) (ht : TabL w.heap.size w) (hA : BbAt w a bs) (hL : Hid (12 < bs.length)) (m : Nat) (hM : Hid (Int.tmod (cutA at0) (szR (cutR bs (min bs.length 12)) : Int) = (m : Int) ∧ m < szR (cutR bs (min bs.length 12)) ∧ 18 ≤ m ∧ szR ((cutR bs (min bs.length 12)).take (0 + 1)) ≤ m)) :
    Calls Tryz.prog 4 #[.int .u32 (sum : Int), .slice a bs.length cap, .int .i64 at0, .int .i64 by0] w fun e w' => e = .returned (.bool true) ∧ Below w.heap.size w w' := by
  have hK := known_any w (Nat.le_refl _) ht
  have hBg := fun X => begin_any sum X
  have hWo := Hid.mk (fun (Y X : World) (S : Nat → Prop) (db ub : Nat) (hY : Below w.heap.size w Y) (hX : Below Y.heap.size Y X) (hD : DiskAt X Y.heap.size S db dk0) (hub : ¬ S ub) (hlu : Y.heap.size ≤ ub) hrow => wopen_fresh (wp := none) (sum := sum) hsum calm0 rfl X hX.size (((ht.next hY).mono hY.size).next hX) hD hub hlu hrow)
  have hnil : ∀ (b : Nat) (W : World), (binOp BinOp.eql 25 (.pointer (some ⟨b, 0, none⟩)) (.pointer none)).run Tryz.prog W = .ok (.bool false) W := fun _ _ => rfl
  have hnil2 : ∀ (b : Nat) (W : World), (binOp BinOp.eql 28 (.pointer (some ⟨b, 0, none⟩)) (.pointer none)).run Tryz.prog W = .ok (.bool false) W := fun _ _ => rfl
  obtain ⟨-, -, hC0, hB0⟩ := gives_new (d := dk0) hsum calm0 rfl
  generalize (openD dk0 sum).2.2 = d0 at *
  go_enter Tryz.func4, Tryz.ntmps4
  go_wp2_with (first | (go_at_call 7; refine hK.mono ?_; rintro e w1 ⟨rfl, hb1⟩) | (go_at_call 8; refine (hBg w1).mono ?_; rintro e w2 ⟨S2, db, ub, rfl, hD2, hr2, hu2, hl2, hb2⟩) | (go_at_call 9; refine (hWo.out _ _ _ _ _ hb1 hb2 hD2 hu2 hl2 hr2).mono ?_; rintro e w3 ⟨rfl, S3, wb, hF3, hb3⟩; have c1 := hF3.run.c1; have hF := Hid.mk (hF3.cut hB0 hC0); clear hF3))
  have hb13 : Below w1.heap.size w1 w3 := hb2.trans hb3
  have ht1 : TabL w1.heap.size w1 := (ht.next hb1).mono hb1.size
  have hA1 := Hid.mk (hA.later hb1)
  clear hK hBg hWo hB0 hC0 hD2 hr2 hu2 hl2 hb2 hb3 ht hA c1
  have hI : Hid (∃ S T d, CutS w1.heap.size S T ub db wb sum d (cutR bs 0) (cutR bs 0) (cutR bs 0) (.slice none 0 0) w3) := ⟨_, _, _, hF.out⟩
  go_loopw [12, 11, 10] (fun v z u wr => ∃ i : Nat, i ≤ bs.length ∧ i ≤ 12 ∧ v = .int .i64 (i : Int) ∧ z = .int .i64 (szR (cutR bs i) : Int) ∧ (∃ S T d, CutS w1.heap.size S T ub db wb sum d (cutR bs i) (cutR bs i) (cutR bs i) u wr) ∧ Below w1.heap.size w1 wr) (fun v _ _ _ => 12 - (intOf v).toNat)
  case atStart => exact ⟨0, Nat.zero_le _, Nat.zero_le _, rfl, rfl, hI.out, hb13⟩
  case round =>
    clear hI hF hb13
    obtain ⟨i, hi, hi12, rfl, rfl, ⟨S, T, d, hC⟩, hb⟩ := hrel
    by_cases hlt : i < bs.length ∧ i < 12
    · obtain ⟨hlt, hl12⟩ := hlt
      have hlt' : (i : Int) < (bs.length : Int) := by omega
      have hl12' : (i : Int) < 12 := by omega
      have hi0 : (0 : Int) ≤ (i : Int) := by omega
      obtain ⟨b, off, rfl, hbl, hc⟩ := hA1.out.resolve_left (fun e => by rw [e] at hlt; simp at hlt)
      obtain ⟨p, c, q0, hpc, hlc, hby⟩ := hc i hlt
      replace q0 := (hb.cell (p := ⟨b, off + i, none⟩) hbl).trans q0
      replace hbl := Nat.lt_of_lt_of_le hbl hb.size
      have hstep := cutR_step bs hlt
      have hRl := cutR_len bs hi
      have hRs : ∀ r ∈ cutR bs i, r.2.length ≤ 300 := fun r hr => (cutR_mem hr).2.1
      have hsz := szR_le hRs
      rw [hRl] at hsz
      have hBb := byts_take hby 300
      clear hc
      generalize bs[i] = B0 at *
      obtain ⟨k, hk⟩ : ∃ k, (B0.take 300).length = k := ⟨_, rfl⟩
      have hkm : k = min 300 B0.length := by rw [← hk, List.length_take]
      have hmin : min (B0.length : Int) 300 = (k : Int) := by omega
      have hsl := slice_to0 p B0.length c k (by omega)
      generalize cutR bs i = R at *
      generalize B0.take 300 = B at *
      have hlo : w1.heap.size ≤ wr.heap.size := hb.size
      have hkn : (i : Int) % 256 = ((i : Nat) : Int) := by omega
      have hPt := Hid.mk (cut_put hC hsum (by omega) (by omega) hlo (ht1.next hb) i (by omega) B (by omega))
      have hRc := Hid.mk (fun X (hX : Below w1.heap.size w1 X) => record_any (i : Int) p c hpc B (by omega) X (hBb.later hX))
      rw [hk] at hRc hPt
      rw [hkn] at hRc
      have cA := Hid.mk (fun X (hX : Below wr.heap.size wr X) => (hC.later hX).c.2.1)
      have hRl' : R.length ≤ 12 := by omega
      have hszI : (szR R : Int) ≤ 4000 := by omega
      have hsz0 : (0 : Int) ≤ (szR R : Int) := by omega
      have hkI : (k : Int) ≤ 300 := by omega
      have hk0 : (0 : Int) ≤ (k : Int) := by omega
      replace hRl := Hid.mk hRl
      have hby1 := Hid.mk hBb.1
      replace hC := Hid.mk hC
      replace hb := Hid.mk hb
      clear hby hBb hA1 hlt hl12 hsz hRs hkm hkn
      go_upto_region 11 with fail
      go_quiet (fail)
      go_upto_region 12 with fail
      have D3 : Below wr.heap.size wr (wr.drewN nq).drew := (below_drewN (Below.refl _ _) nq).drew
      have D3' : Below w1.heap.size w1 (wr.drewN nq).drew := below_step hb.out D3
      have S3 := cA.out _ D3
      clear q0 hsl hmin
      go_region_held3 (fun X => X.cell? ⟨ub, 1, none⟩ = some (.pointer (some ⟨wb, 0, none⟩))) (with_reducible assumption) (first | (go_at_call 13; refine (hRc.out _ D3').mono ?_; rintro e w4 ⟨p4, c4, rfl, ho4, hb4⟩; have B4 := D3.trans (hb4.mono D3.size); have S4 := cA.out _ B4; have hby4 := Hid.mk (byts_of_own (n := k) (bs := B) hby1.out (by rw [hk]; exact ho4)); have hcc4 := own_none ho4) | (go_at_call 12; refine (hPt.out w4 B4 p4 c4 hcc4 hby4.out).mono ?_; rintro e w5 ⟨rfl, hS5, hb5⟩; obtain ⟨S5, d5, hC5⟩ := hS5; have S5' := hC5.c.2.1))
      have hb15 : Below w1.heap.size w1 w5 := hb.out.trans hb5
      clear hPt cA S3 S4 S5' ho4 hby4 hcc4 B4 hb4 hb5 D3 D3' hC hb
      go_upto_region 14 with fail
      go_cut [13] from 37 to 87 (fun x wx => x = .slice p k c ∧ (∃ S T d, CutS w1.heap.size S T ub db wb sum d (R ++ [(i, B)]) (R ++ [(i, B)]) R u10 wx) ∧ Below w1.heap.size w1 wx)
      case first =>
        obtain ⟨sv, rv, hr5, L, hL, ho5, hvT, hx5⟩ := hC5.row
        obtain ⟨ra, rc, rfl⟩ := own_lenB ho5
        have hul := wd_lt hr5
        have hwl := hC5.drw.lt
        have hSl := hC5.disk.low
        obtain ⟨i0, hi5, hz0, hz1, hz2⟩ := info_parts infoRc
        have J := Hid.mk (fun X (hX : Below w5.heap.size w5 X) => And.intro (hC5.later hX) (And.intro ((hX.block _ hul).trans hr5) (And.intro (own_later ho5 hX) (fun x hxm => And.intro (RcB.grS (S := fun _ => False) (hx5 x hxm).1 (.of_below hX) (fun _ _ _ _ h => h)) (hx5 x hxm).2))))
        have D5 : Below w5.heap.size w5 w5.drew := (Below.refl _ _).drew
        have D5' := below_step hb15 D5
        have u4 := (wd_cells (J.out _ D5).2.1).2.2.2.2.1
        have u4' := (wd_cells hr5).2.2.2.2.1
        have hbN : Hid (∀ g, w5.heap.size ≤ g → ¬ S5 g ∧ g ≠ wb ∧ g ≠ ub) := ⟨fun g hg => ⟨fun e => by have := (hSl _ e).2; omega, by omega, by omega⟩⟩
        replace hvT := Hid.mk hvT
        replace hL := Hid.mk hL
        clear hx5 ho5 hr5 hC5
        have hkd : i < 256 := by omega
        go_region_law (first | (go_simp; go_at_call 13; refine (hRc.out _ D5').mono ?_; rintro e w8 ⟨p8, c8, rfl, ho8, hb8⟩; have Q8 := below_step D5 hb8; have u1 := (wd_cells (J.out _ Q8).2.1).2.2.2.2.1; have A8 : Below w8.heap.size w8 (w8.alloc (.cells #[.int .u8 (i : Int), .slice p8 k c8] 38)) := (Below.refl _ _).alloc (Nat.le_refl _) _; have Q9 := below_step Q8 A8; have u9 := (wd_cells (J.out _ Q9).2.1).2.2.2.2.1; have hoL := (J.out _ Q9).2.2.1; have hR8 := Hid.mk (RcB.mk (x := ((i, B), .slice p8 k c8)) hkd hby1.out (by rw [hk]; exact own_later (ho8.mono D5'.size) A8)); have hn8 := Hid.mk (fun g (e : (Value.slice p8 k c8).ownBlock = some g) => hbN.out g (Nat.le_trans D5.size (own_rowT ho8 e).1))) | (refine step_append_at (P := Tryz.prog) _ rfl _ _ 29 rfl w1.heap.size 38 i0 _ 2 32 Tryz.underlying29 hi5 hz0 hz1 hz2 rfl (by decide) _ R.length (rcV L) rfl hoL ⟨w8.heap.size, 0, none⟩ 1 1 [.int .u8 (i : Int), .slice p8 k c8] rfl rfl (lit_at w8 _ _) (by simp [Value.oneCell']) (by unfold maxLen; omega) (by omega) (below_step hb15 Q9).size ?_; intro v' w9 hown' hgrow hat; obtain ⟨q9, k9, rfl⟩ := own_lenB hown'; have hG := Hid.mk ((J.out _ Q9).1.grow (J.out _ Q9).2.1 hL.out hoL hvT.out (J.out _ Q9).2.2.2 hR8.out hn8.out hgrow hown' hat (below_step hb15 Q9).size); have m4 := (wd_cells hG.out.1).2.2.2.2.1; have m5 := wd_frozen hG.out.1 4))
        all_goals (refine Met.intro ?_; go_step; go_meet)
        all_goals
          obtain ⟨-, ⟨T9, h9⟩, b9⟩ := hG.out
          exact ⟨rfl, ⟨_, T9, _, h9⟩, (below_step hb15 Q9).trans b9⟩
      case rest =>
        obtain ⟨rfl, ⟨S6, T6, d6, hC6⟩, hb6⟩ := hcut
        clear hC5 hb15 hRc
        obtain ⟨ea, ec, rfl⟩ := own_lenB hC6.ends
        obtain ⟨i0, hi5, hz0, hz1, hz2⟩ := info_parts infoInt
        have hsnoc := szR_snoc R (i, B)
        simp only [hk] at hsnoc
        have hsI : Hid ((szR R : Int) + 18 + (k : Int) = (szR (R ++ [(i, B)]) : Int)) := ⟨by omega⟩
        have A6 : ∀ o, Below wc.heap.size wc (wc.alloc o) := fun o => (Below.refl _ _).alloc (Nat.le_refl _) o
        have hsz6 := hb6.size
        replace hC6 := Hid.mk hC6
        replace hb6 := Hid.mk hb6
        clear hsnoc
        go_wp2_with (at_builtin; refine stopJ ?_)
        unfold StopJ
        rw [hsI.out]
        have hC7 := hC6.out.later (A6 (.cells #[.int .i64 (szR (R ++ [(i, B)]) : Int)] 3))
        refine wpList_append_own_at (P := Tryz.prog) _ rfl _ _ 41 rfl w1.heap.size 3 i0 _ 1 8 Tryz.underlying41 hi5 hz0 hz1 hz2 rfl (by decide) _ R.length (endV R) rfl hC7.ends ⟨wc.heap.size, 0, none⟩ 1 1 [.int .i64 (szR (R ++ [(i, B)]) : Int)] rfl rfl (lit_at wc _ _) (by simp [Value.oneCell']) (by unfold maxLen; omega) (by omega) (Nat.le_trans hsz6 (A6 _).size) ?_
        intro v' w9 hown' hgrow _ hat
        obtain ⟨q9, k9, rfl⟩ := own_lenB hown'
        obtain ⟨⟨T9, h9⟩, b9⟩ := hC7.tell (r := (i, B)) hgrow hown' hat (Nat.le_trans hsz6 (A6 _).size)
        replace h9 := Hid.mk h9
        replace b9 := Hid.mk ((hb6.out.trans ((A6 _).mono hsz6)).trans b9)
        replace hstep := Hid.mk hstep
        clear hC7 hown' hgrow hat hC6 hb6 A6
        go_wp2
        go_roundw
        case rel => exact ⟨i + 1, by omega, by omega, by first | rfl | go_num, by rw [hstep.out], ⟨S6, T9, d6, by rw [hstep.out]; exact h9.out⟩, b9.out⟩
        case measure => simp [intOf]; omega
    · have hN : (i : Int) < (bs.length : Int) := by have := hL.out; omega
      have hN' : ¬ ((i : Int) < 12) := by have := hL.out; omega
      have hmin : min bs.length 12 = i := by have := hL.out; omega
      rw [hmin] at hM
      obtain ⟨hm, hml, hcase⟩ := hM.out
      clear hM hmin hL
      obtain ⟨c0, -, c2⟩ := hC.c
      have hRl := cutR_len bs hi
      have hRs : ∀ r ∈ cutR bs i, r.1 < 256 ∧ r.2.length ≤ 300 ∧ ∀ y ∈ r.2, y < 256 := fun r hr => by
        obtain ⟨q1, q2, b, hb', q3⟩ := cutR_mem hr
        refine ⟨by omega, q2, fun y hy => ?_⟩
        obtain ⟨k, hk, rfl⟩ := List.getElem_of_mem hb'
        rw [q3] at hy
        obtain ⟨b, off, -, -, hc⟩ := hA1.out.resolve_left (fun e => by rw [e] at hk; simp at hk)
        obtain ⟨p, c, -, -, -, hby⟩ := hc k hk
        exact hby.1 y (List.mem_of_mem_take hy)
      have hsz := szR_le (fun r hr => (hRs r hr).2.1)
      rw [hRl] at hsz
      have hR12 : (cutR bs i).length ≤ 12 := by omega
      have hszL : szR (cutR bs i) ≤ 4000 := by omega
      have hs18 : 18 ≤ szR (cutR bs i) := Nat.le_add_right _ _
      have hFl := Hid.mk (files_any wr hC.disk)
      rw [hC.bas.1] at hFl
      have hgood := hC.bas.2.1
      have hlo : w1.heap.size ≤ wr.heap.size := hb.size
      replace hC := Hid.mk hC
      replace hb := Hid.mk hb
      clear hsz hRl
      generalize cutR bs i = R at *
      have hfin : Hid (∀ X a c, FfO X wr.heap.size (.slice a 1 c) [main sum [] R 1] → ∃ b off p c', a = some ⟨b, off, none⟩ ∧ X.cell? ⟨b, off, none⟩ = some (.string (strB (Nm 1))) ∧ X.cell? ⟨b, off + 1, none⟩ = some (.slice p (szR R) c') ∧ X.cell? ⟨b, off + 2, none⟩ = some (.int .i64 (szR R : Int)) ∧ (p = none → c' = 0) ∧ szR R ≤ c' ∧ Byts X p (enc sum [] R)) := ⟨fun X a c hX => by
        obtain ⟨b, off, rfl, -, hc⟩ := hX.at_.resolve_left (by simp)
        obtain ⟨h1, ⟨p, c', h2, h3, h4, h5⟩, h6⟩ := hc 0 (by simp)
        simp only [List.getElem_cons_zero, main, enc_sz, Nat.zero_mul, Nat.add_zero] at h1 h2 h4 h5 h6
        exact ⟨b, off, p, c', rfl, h1, h2, h6, h3, h4, h5⟩⟩
      have hsI : (szR R : Int) ≤ 4000 := by omega
      have hsI18 : (18 : Int) ≤ (szR R : Int) := by omega
      simp only [List.length_singleton] at hFl
      replace hcase := Hid.mk hcase
      replace hm := Hid.mk hm
      have hmlH := Hid.mk hml
      clear hml
      go_upto_if 114 with (go_at_call 14; refine hFl.out.mono ?_; rintro e w4 ⟨fa, fc, rfl, hF4, hb4⟩; obtain ⟨fb, fo, fp, fc', rfl, g0, g1, g2, hfp, hfc, hfB⟩ := hfin.out _ _ _ hF4; clear hF4)
      go_cut [2] (fun v wx => v = .int .i64 (cutA at0) ∧ wx = w4)
      case first =>
        obtain ⟨lo0, hi0⟩ := hat0
        by_cases hneg : at0 < 0
        · have hwr : IntKind.i64.wrap (at0 + 1) = at0 + 1 := by rw [IntKind.wrap_i64]; omega
          go_wp2
          go_meet
          exact ⟨by rw [cutA, if_pos (by omega)], rfl⟩
        · go_wp2
          go_meet
          exact ⟨by rw [cutA, if_neg (by omega)], rfl⟩
      case rest =>
        obtain ⟨rfl, rfl⟩ := hcut
        obtain ⟨ht0, ht9⟩ := cutA_ok hat0
        replace hm := hm.out
        have hml := hmlH.out
        clear hmlH
        generalize cutA at0 = t at *
        have hC4 := hC.out.later hb4
        have hE := hC4.ends
        obtain ⟨ea, ec, rfl⟩ := own_lenB hE
        replace hC4 := Hid.mk hC4
        have hb14 := Hid.mk (below_step hb.out hb4)
        have hgeE : Hid (∀ j, j < R.length → ∃ g, ea = some ⟨g, 0, none⟩ ∧ wc.cell? ⟨g, j, none⟩ = some (.int .i64 (szR (R.take (j + 1)) : Int))) := ⟨fun j hj => by
          have h0 := hE
          obtain ⟨-, ⟨e, hn⟩ | ⟨g, cc, cur, e, -⟩⟩ := h0
          · omega
          · injection e with e1 e2 e3
            subst e1
            exact ⟨g, rfl, (hE.cellAt j (by omega)).trans (endV_get R hj)⟩⟩
        clear hE hC hb hb4 hFl hfin hA1
        have hmI : (m : Int) < (szR R : Int) := by omega
        have hm0 : (0 : Int) ≤ (m : Int) := by omega
        go_wp2
        go_loopw [15] (fun v wr => ∃ n : Nat, n ≤ R.length ∧ v = .int .i64 (n : Int) ∧ wr = wc ∧ Hid (0 < n → szR (R.take n) ≤ m)) (fun v _ => R.length - (intOf v).toNat)
        case atStart => exact ⟨0, Nat.zero_le _, rfl, rfl, ⟨fun h => absurd h (by decide)⟩⟩
        case round =>
          obtain ⟨n, hn, rfl, rfl, hns⟩ := hrel
          by_cases hgo : n < R.length ∧ szR (R.take (n + 1)) ≤ m
          · obtain ⟨hg1, hg2⟩ := hgo
            obtain ⟨g, rfl, hcE⟩ := hgeE.out n hg1
            have hg1' : (n : Int) < (R.length : Int) := by omega
            have hg2' : (szR (R.take (n + 1)) : Int) ≤ (m : Int) := by omega
            have hn0 : (0 : Int) ≤ (n : Int) := by omega
            have hg1n : n + 1 ≤ R.length := hg1
            have hg3 : Hid (0 < n + 1 → szR (R.take (n + 1)) ≤ m) := ⟨fun _ => hg2⟩
            go_wp2
            go_roundw
            case rel => exact ⟨n + 1, hg1n, by first | rfl | go_num, by first | rfl | trivial, hg3⟩
            case measure => simp [intOf]; omega
          · obtain ⟨pl1, pl2⟩ := cut_place hml hn hns.out hgo
            have hG1 := Hid.mk (cut_gives hgood hml hn hns.out hgo)
            have hG2 := Hid.mk (fun x y st => turn_gives (x := x) (y := y) (st := st) hgood (fun r hr => ⟨(hRs r hr).1, (hRs r hr).2.2⟩) hml hn hns.out hgo)
            obtain ⟨sv, rv, hr, hRx⟩ := hC4.out.row
            obtain ⟨ra, rc, rfl, hrn, hrc, -⟩ := hRx.rc.len
            have hra : ∀ q, ra = some q → ∃ b off, q = ⟨b, off, none⟩ := fun q hq => by
              obtain ⟨L, -, ⟨-, ⟨e, -⟩ | ⟨g, cc, cur, e, -⟩⟩, -⟩ := hRx
              · injection e with e1
                rw [e1] at hq
                cases hq
              · injection e with e1
                rw [e1] at hq
                cases hq
                exact ⟨g, 0, rfl⟩
            have hSt := Hid.mk (fun X dat p c (hX : Below wr.heap.size wr X) (hl : dat.length ≤ 2097152) (hG : Gives (one dat) sum [] (R.take (if decide (m < 18) then 0 else n))) (hpc : p = none → c = 0) (hlc : dat.length ≤ c) (hB : Byts X p dat) => stands_any (lo := w1.heap.size) (n := n) (nn := decide (m < 18)) hsum (fit_of hl hB.1) rfl hn hR12 hrc hra hG p c hpc hlc X (Nat.le_trans hb14.out.size hX.size) ((ht1.next hb14.out).next (hX.mono hb14.out.size)) ((hX.block _ (wd_lt hr)).trans hr) (hRx.rc.at_.later hX) hB)
            have hsl := slice_to0 fp (szR R) fc' m (by omega)
            have hTk : Hid (Byts wr fp ((enc sum [] R).take m)) := ⟨byts_take hfB m⟩
            have hTl : ((enc sum [] R).take m).length = m := by rw [List.length_take, enc_sz]; omega
            have hEl := enc_sz sum R
            replace hTl := Hid.mk hTl
            replace hEl := Hid.mk hEl
            replace hfB := Hid.mk hfB
            have hK5 := Hid.mk (fun X (hX : Below wr.heap.size wr X) => And.intro ((hX.cell (p := ⟨fb, fo, none⟩) (World.block_lt_of_cell? _ _ g0)).trans g0) ((hX.cell (p := ⟨fb, fo + 1, none⟩) (World.block_lt_of_cell? _ _ g1)).trans g1))
            clear hr hRx hrn hrc hra hgood
            generalize hne : strB (Nm 1) = nm1 at *
            clear hne
            replace hcase := hcase.out
            obtain ⟨h18, hk⟩ := hcase
            obtain ⟨hl, hzm, -⟩ := pl2 (by omega)
            have h18d : decide ((m : Int) < 18) = false := decide_eq_false (by omega)
            have h18b : (18 : Int) ≤ (m : Int) := by omega
            rw [decide_eq_false (by omega : ¬ m < 18)] at hSt hG1 hG2
            obtain ⟨g, rfl, hcE⟩ := hgeE.out n hl
            have hl' : (n : Int) < (R.length : Int) := by omega
            have hgt : ¬ (szR (R.take (n + 1)) : Int) ≤ (m : Int) := by omega
            have hn0 : (0 : Int) ≤ (n : Int) := by omega
            obtain ⟨n', hn'⟩ : ∃ n', n = n' + 1 := ⟨n - 1, by
              rcases Nat.eq_zero_or_pos n with h0 | h0
              · subst h0
                omega
              · omega⟩
            obtain ⟨g', eg, hcP⟩ := hgeE.out n' (by omega)
            obtain rfl : g = g' := by injection eg with eg; injection eg
            rw [show n' + 1 = n from hn'.symm] at hcP
            have hsub : (n : Int) - 1 = (n' : Int) := by omega
            have hnp : (0 : Int) < (n : Int) := by omega
            have hp0 : (0 : Int) ≤ (n' : Int) := by omega
            have hpl' : (n' : Int) < (R.length : Int) := by omega
            have hzI : (szR (R.take n) : Int) ≤ (m : Int) := by omega
            have hz0 : (0 : Int) ≤ (szR (R.take n) : Int) := by omega
            replace pl1 := Hid.mk pl1
            replace hgo := Hid.mk hgo
            replace hl := Hid.mk hl
            replace hzm := Hid.mk hzm
            replace hn' := Hid.mk hn'
            replace hk := Hid.mk hk
            clear eg
            go_wp2_with (at_builtin; refine stopJ ?_)
            unfold StopJ
            refine wpList_copyN wr rfl _ _ rfl wr.heap.size (Nat.le_refl _) (.slice none 0 0) rfl (World.ownsRow_nil _ _ _ _) fp fc' ((enc sum [] R).take m) (by rw [hTl.out]; rfl) hfp hTk.out (by rw [hTl.out]; omega) ?_
            intro a5 c5 w5 ho5 hB5 hb5
            have hS5 := hSt.out w5 _ a5 c5 hb5 (by rw [hTl.out]; omega) hG1.out (own_none ho5) (own_pos ho5).2.1 hB5
            rw [hTl.out] at hS5 ⊢
            obtain ⟨y0, y1⟩ := hK5.out _ hb5
            replace hS5 := Hid.mk hS5
            clear ho5 hB5
            by_cases h9 : szR (R.take n) + 9 ≤ m ∧ m < szR (R.take n) + 13
            · have h9a : (9 : Int) ≤ (m : Int) - (szR (R.take n) : Int) := by omega
              have h9b : (m : Int) - (szR (R.take n) : Int) < 13 := by omega
              go_wp2_with (go_at_call 15; refine hS5.out.mono ?_; rintro e w6 ⟨rfl, hb6⟩; have hcP6 := ((below_step hb5 hb6).cell (p := ⟨g, n', none⟩) (World.block_lt_of_cell? _ _ hcP)).trans hcP)
              go_ret
              exact ⟨rfl, hb1.trans ((below_step (below_step hb14.out hb5) hb6).mono hb1.size)⟩
            · have hst := Hid.mk (fun x y => hG2.out x y (szR (R.take n)) (by rw [if_pos (by omega)]) (by omega))
              by_cases h9a : (9 : Int) ≤ (m : Int) - (szR (R.take n) : Int)
              · have h9b : ¬ (m : Int) - (szR (R.take n) : Int) < 13 := by omega
                go_upto_region 37 with (first | (go_at_call 15; refine hS5.out.mono ?_; rintro e w6 ⟨rfl, hb6⟩; have hcP6 := ((below_step hb5 hb6).cell (p := ⟨g, n', none⟩) (World.block_lt_of_cell? _ _ hcP)).trans hcP; obtain ⟨z0, z1⟩ := hK5.out _ (below_step hb5 hb6)) | (at_builtin; go_loud (refine wpList_copyN w6 rfl _ _ rfl w6.heap.size (Nat.le_refl _) (.slice none 0 0) rfl (World.ownsRow_nil _ _ _ _) fp fc' (enc sum [] R) (by rw [hEl.out]; rfl) hfp (hfB.out.later (below_step hb5 hb6)) (by rw [hEl.out]; omega) ?_); intro a7 c7 w7 ho7 hB7 hb7; rw [hEl.out] at ho7 ⊢))
                obtain ⟨g7, rfl⟩ := (own_pos ho7).2.2 (by omega)
                obtain ⟨x, hx⟩ : ∃ x, (enc sum [] R)[m]? = some x := ⟨_, List.getElem?_eq_getElem (by rw [hEl.out]; exact hml)⟩
                have r7 := (own_rowT ho7 rfl).2
                obtain ⟨cs7, r7⟩ := r7
                have f7 := frozen_of_row w7 g7 m _ _ r7
                have x7 : w7.cell? ⟨g7, m, none⟩ = some (.int .u8 (x : Int)) := (ho7.cellAt m (by omega)).trans (by simp [bysV, hx])
                have x7d : w7.drew.cell? ⟨g7, m, none⟩ = some (.int .u8 (x : Int)) := x7
                have f7d : w7.drew.frozen? ⟨g7, m, none⟩ = false := f7
                obtain ⟨q, hq⟩ : ∃ q : Nat, placeN by0 255 = (q : Int) := ⟨(placeN by0 255).toNat, by have := (placeN_ok by0 (n := 255) (by decide)).1; omega⟩
                have hq255 : (q : Int) < 255 := by have := (placeN_ok by0 (n := 255) (by decide)).2; omega
                have hq0 : (0 : Int) ≤ (q : Int) := by omega
                have hpl := Hid.mk (fun X => place_any by0 hby0 X)
                rw [hq] at hpl
                have hx256 : x < 256 := hB7.1 x (List.mem_of_getElem? hx)
                have hxI : (x : Int) < 256 := by omega
                have hx0 : (0 : Int) ≤ (x : Int) := by omega
                replace hx := Hid.mk hx
                replace hB7 := Hid.mk hB7
                clear r7
                go_region_law (go_simp; go_at_call 16; refine (hpl.out _).mono ?_; rintro e w8 ⟨rfl, rfl⟩)
                all_goals
                  obtain ⟨y, hy, hyx⟩ := turn_byte (x := x) (q := q) (by omega)
                  rw [hy]
                  have hg7 := (own_rowT ho7 rfl).1
                  have b67 : Below wr.heap.size wr w7 := below_step (below_step hb5 hb6) hb7
                  have bs9 : Below wr.heap.size wr (w7.setCell ⟨g7, m, none⟩ (.int .u8 (y : Int))).drew := (b67.trans ((grS_set w7 g7 m _).below b67.size (fun k e => by rw [e]; exact Nat.le_trans (below_step hb5 hb6).size hg7))).drew
                  have hB9 : Byts (w7.setCell ⟨g7, m, none⟩ (.int .u8 (y : Int))).drew (some ⟨g7, 0, none⟩) ((enc sum [] R).set m y) := (byts_turn hB7.out (by rw [hEl.out]; exact hml) hyx.1).later ((Below.refl _ _).drew)
                  have hl9 : ((enc sum [] R).set m y).length = szR R := by rw [List.length_set, hEl.out]
                  have hS9 := hSt.out _ _ (some ⟨g7, 0, none⟩) c7 bs9 (by rw [hl9]; omega) (hst.out x y hx.out hyx.1 hyx.2) (fun e => by cases e) (by rw [hl9]; exact (own_pos ho7).2.1) hB9
                  rw [hl9] at hS9
                  obtain ⟨v0, v1⟩ := hK5.out _ bs9
                  replace hS9 := Hid.mk hS9
                  have hbw : Hid (∀ X, Below (w7.setCell ⟨g7, m, none⟩ (.int .u8 (y : Int))).drew.heap.size (w7.setCell ⟨g7, m, none⟩ (.int .u8 (y : Int))).drew X → Below w.heap.size w X) := ⟨fun X hX => hb1.trans ((below_step (below_step hb14.out bs9) hX).mono hb1.size)⟩
                  clear x7 x7d f7 f7d y0 y1 z0 z1 hB9 hl9 ho7 b67 bs9 hg7 hy hyx
                  generalize (w7.setCell ⟨g7, m, none⟩ (.int .u8 (y : Int))).drew = w9 at *
                  go_wp2_with (go_at_call 15; refine hS9.out.mono ?_; rintro e w10 ⟨rfl, hb10⟩)
                  go_ret
                  exact ⟨rfl, hbw.out _ hb10⟩
              · clear h9
                go_upto_region 37 with (first | (go_at_call 15; refine hS5.out.mono ?_; rintro e w6 ⟨rfl, hb6⟩; have hcP6 := ((below_step hb5 hb6).cell (p := ⟨g, n', none⟩) (World.block_lt_of_cell? _ _ hcP)).trans hcP; obtain ⟨z0, z1⟩ := hK5.out _ (below_step hb5 hb6)) | (at_builtin; go_loud (refine wpList_copyN w6 rfl _ _ rfl w6.heap.size (Nat.le_refl _) (.slice none 0 0) rfl (World.ownsRow_nil _ _ _ _) fp fc' (enc sum [] R) (by rw [hEl.out]; rfl) hfp (hfB.out.later (below_step hb5 hb6)) (by rw [hEl.out]; omega) ?_); intro a7 c7 w7 ho7 hB7 hb7; rw [hEl.out] at ho7 ⊢))
                obtain ⟨g7, rfl⟩ := (own_pos ho7).2.2 (by omega)
                obtain ⟨x, hx⟩ : ∃ x, (enc sum [] R)[m]? = some x := ⟨_, List.getElem?_eq_getElem (by rw [hEl.out]; exact hml)⟩
                have r7 := (own_rowT ho7 rfl).2
                obtain ⟨cs7, r7⟩ := r7
                have f7 := frozen_of_row w7 g7 m _ _ r7
                have x7 : w7.cell? ⟨g7, m, none⟩ = some (.int .u8 (x : Int)) := (ho7.cellAt m (by omega)).trans (by simp [bysV, hx])
                have x7d : w7.drew.cell? ⟨g7, m, none⟩ = some (.int .u8 (x : Int)) := x7
                have f7d : w7.drew.frozen? ⟨g7, m, none⟩ = false := f7
                obtain ⟨q, hq⟩ : ∃ q : Nat, placeN by0 255 = (q : Int) := ⟨(placeN by0 255).toNat, by have := (placeN_ok by0 (n := 255) (by decide)).1; omega⟩
                have hq255 : (q : Int) < 255 := by have := (placeN_ok by0 (n := 255) (by decide)).2; omega
                have hq0 : (0 : Int) ≤ (q : Int) := by omega
                have hpl := Hid.mk (fun X => place_any by0 hby0 X)
                rw [hq] at hpl
                have hx256 : x < 256 := hB7.1 x (List.mem_of_getElem? hx)
                have hxI : (x : Int) < 256 := by omega
                have hx0 : (0 : Int) ≤ (x : Int) := by omega
                replace hx := Hid.mk hx
                replace hB7 := Hid.mk hB7
                clear r7
                go_region_law (go_simp; go_at_call 16; refine (hpl.out _).mono ?_; rintro e w8 ⟨rfl, rfl⟩)
                all_goals
                  obtain ⟨y, hy, hyx⟩ := turn_byte (x := x) (q := q) (by omega)
                  rw [hy]
                  have hg7 := (own_rowT ho7 rfl).1
                  have b67 : Below wr.heap.size wr w7 := below_step (below_step hb5 hb6) hb7
                  have bs9 : Below wr.heap.size wr (w7.setCell ⟨g7, m, none⟩ (.int .u8 (y : Int))).drew := (b67.trans ((grS_set w7 g7 m _).below b67.size (fun k e => by rw [e]; exact Nat.le_trans (below_step hb5 hb6).size hg7))).drew
                  have hB9 : Byts (w7.setCell ⟨g7, m, none⟩ (.int .u8 (y : Int))).drew (some ⟨g7, 0, none⟩) ((enc sum [] R).set m y) := (byts_turn hB7.out (by rw [hEl.out]; exact hml) hyx.1).later ((Below.refl _ _).drew)
                  have hl9 : ((enc sum [] R).set m y).length = szR R := by rw [List.length_set, hEl.out]
                  have hS9 := hSt.out _ _ (some ⟨g7, 0, none⟩) c7 bs9 (by rw [hl9]; omega) (hst.out x y hx.out hyx.1 hyx.2) (fun e => by cases e) (by rw [hl9]; exact (own_pos ho7).2.1) hB9
                  rw [hl9] at hS9
                  obtain ⟨v0, v1⟩ := hK5.out _ bs9
                  replace hS9 := Hid.mk hS9
                  have hbw : Hid (∀ X, Below (w7.setCell ⟨g7, m, none⟩ (.int .u8 (y : Int))).drew.heap.size (w7.setCell ⟨g7, m, none⟩ (.int .u8 (y : Int))).drew X → Below w.heap.size w X) := ⟨fun X hX => hb1.trans ((below_step (below_step hb14.out bs9) hX).mono hb1.size)⟩
                  clear x7 x7d f7 f7d y0 y1 z0 z1 hB9 hl9 ho7 b67 bs9 hg7 hy hyx
                  generalize (w7.setCell ⟨g7, m, none⟩ (.int .u8 (y : Int))).drew = w9 at *
                  go_wp2_with (go_at_call 15; refine hS9.out.mono ?_; rintro e w10 ⟨rfl, hb10⟩)
                  go_ret
                  exact ⟨rfl, hbw.out _ hb10⟩
end Go.Proofs.YtakcdgeanbpllaaGreatDoor.DJ
