import Derived.Test.YthnmjafoplfikaaGreatDoorTurnRmExpr
namespace Go.Proofs.YthnmjafoplfikaaGreatDoor
open Go.RowKit

theorem infoExprs : (Tryz.prog.info? 73).map (fun i => (i.zero, i.size, i.bytes)) = some (some (.agg #[.int .i64 0, .int .i64 0, .int .i64 0, .int .i64 0, .slice none 0 0]), 5, 56) := by kernel_rfl
theorem infoExprs2 : (Tryz.prog.info? 71).map (fun i => (i.zero, i.size, i.bytes)) = some (some (.slice none 0 0), 1, 24) := by kernel_rfl
set_option maxRecDepth 100000 in
set_option maxHeartbeats 4000000 in
theorem exprs_rm_s (xs : List Ex) (ih : ∀ ys : List Ex, cL ys < cL xs → ∀ (R lo N : Nat) (K : Nat → Value) (V : Nat → List Value) (a : Option Addr) (cap : Nat) (W : World), cL ys ≤ 1000000 → N + cL ys ≤ 1000000000 → RmAt W R lo K V N → RowR eE W (fun b => b < lo) ys a → Calls Tryz.prog 85 #[.pointer (some ⟨R, 0, none⟩), .slice a ys.length cap] W (RmC eE R lo K V (N + cL ys + 1) 8 ys W)) (R lo N : Nat) (K : Nat → Value) (V : Nat → List Value) (a : Option Addr) (cap : Nat) (W : World) (hxc : cL xs ≤ 1000000) (hN : N + cL xs ≤ 1000000000) (hR : RmAt W R lo K V N) (hrow : RowR eE W (fun b => b < lo) xs a) :
    Calls Tryz.prog 85 #[.pointer (some ⟨R, 0, none⟩), .slice a xs.length cap] W (RmC eE R lo K V (N + cL xs + 1) 8 xs W) := by
  have hx : xs.length ≤ 1000000 := Nat.le_trans (cL_len xs) hxc
  obtain ⟨i0, hi, hz0, hz1, hz2⟩ := info_parts infoExprs
  obtain ⟨j0, hj, hy0, hy1, hy2⟩ := info_parts infoExprs2
  have hT : (73 : TypeId) ≠ 55 ∧ ∀ j, j < 21 → (73 : TypeId) ≠ rmT j := by decide
  have hst : ∃ (k : Nat) (K1 : Nat → Value) (V1 : Nat → List Value), k ≤ xs.length ∧ (Value.int .i64 0) = .int .i64 (k : Int) ∧ RmAt (W.alloc (.cells #[] 73)) R lo K1 V1 (N + cL (xs.take k)) ∧ RmStep R K V K1 V1 W (W.alloc (.cells #[] 73)) ∧ GM eE 73 W.heap.size R K1 V1 (W.alloc (.cells #[] 73)) (.slice (some ⟨W.heap.size, 0, none⟩) 0 0) (xs.take k) 0 [] := ⟨0, K, V, Nat.zero_le _, rfl, hR.new (bel_alloc _ _), (RmStep.refl R K V W).after (gr_alloc _ _) (fun _ e => by cases e), gm_start eE 73 hR⟩
  go_enter Tryz.func85, Tryz.ntmps85
  go_wp2
  go_loopw [5, 6] (fun v x wr => ∃ (k : Nat) (K1 : Nat → Value) (V1 : Nat → List Value), k ≤ xs.length ∧ x = .int .i64 (k : Int) ∧ RmAt wr R lo K1 V1 (N + cL (xs.take k)) ∧ RmStep R K V K1 V1 W wr ∧ GM eE 73 W.heap.size R K1 V1 wr v (xs.take k) 0 []) (fun _ x _ => xs.length - (intOf x).toNat)
  case atStart => exact hst
  case round =>
    clear hst
    obtain ⟨k, K1, V1, hk, rfl, hRr, hs, hG⟩ := hrel
    by_cases hlt : k < xs.length
    · have hlt' : (k : Int) < (xs.length : Int) := by omega
      have hj0 : (0 : Int) ≤ (k : Int) := by omega
      obtain ⟨ga, oa, rfl⟩ : ∃ ga oa, a = some ⟨ga, oa, none⟩ := by
        rcases hrow with h0 | ⟨ga, oa, -, h1, -⟩
        · rw [h0] at hlt; simp at hlt
        · exact ⟨ga, oa, h1⟩
      obtain ⟨cx, hcl, hga, hE1, hcc⟩ := hrow.item hlt
      have htk : Hid (xs.take (k + 1) = xs.take k ++ [xs[k]]) := ⟨List.take_succ_eq_append_getElem hlt⟩
      have hyl : (xs.take k).length ≤ 1000000 := by rw [List.length_take]; omega
      have hwt : cL (xs.take (k + 1)) ≤ cL xs := cL_take xs (k + 1)
      rw [htk.out, cL_snoc] at hwt
      have hym : xs[k] ∈ xs := List.getElem_mem hlt
      have hBl : Below lo W wr := RmStep.below hR hs
      have hc0 := (bel_cell hBl hga (oa + k * 5 + 0)).trans (hcc 0 (by decide))
      have hc1 := (bel_cell hBl hga (oa + k * 5 + 1)).trans (hcc 1 (by decide))
      have hc2 := (bel_cell hBl hga (oa + k * 5 + 2)).trans (hcc 2 (by decide))
      have hc3 := (bel_cell hBl hga (oa + k * 5 + 3)).trans (hcc 3 (by decide))
      have hc4 := (bel_cell hBl hga (oa + k * 5 + 4)).trans (hcc 4 (by decide))
      generalize xs[k] = y at *
      generalize xs.take k = ys at *
      obtain ⟨a1, c1, rfl, hRg, hFo⟩ := hE1
      have hd0 : wr.cell? ⟨ga, oa + k * 5, none⟩ = some (.int .i64 (y.op)) := hc0
      have hd1 : wr.cell? ⟨ga, oa + k * 5 + 1, none⟩ = some (.int .i64 (y.num)) := hc1
      have hd2 : wr.cell? ⟨ga, oa + k * 5 + 2, none⟩ = some (.int .i64 (y.den)) := hc2
      have hd3 : wr.cell? ⟨ga, oa + k * 5 + 3, none⟩ = some (.int .i64 (y.mode)) := hc3
      have hd4 : wr.cell? ⟨ga, oa + k * 5 + 4, none⟩ = some (.slice a1 y.args.len c1) := hc4
      have hFr : FoAt wr (fun b => b < lo) y.args a1 := FoAt.fr hBl.size (fun b hb _ => hBl.block b hb) _ _ hFo
      have hle : lo ≤ wr.heap.size := by have := hRr.lt; have := hRr.low; omega
      have hcm := cL_mem xs y hym
      have hcall := expr_of R lo (N + cL ys) (N + cL ys + cL (toL y.args) + 1) K1 V1 y a1 c1 wr hRr (fun X hRX hbX => ih (toL y.args) (by rw [cL_toL]; omega) R lo (N + cL ys) K1 V1 a1 c1 X (by rw [cL_toL]; omega) (by rw [cL_toL]; omega) hRX (row_of_fo (FoAt.fr hbX.size (fun b hb _ => hbX.block b (Nat.lt_of_lt_of_le hb hle)) _ _ hFr)))
      rw [cL_toL] at hcall
      have hlv := Hid.mk (fun (g : Nat) e => hG.lt (g := g) e)
      clear hcc hc0 hc1 hc2 hc3 hc4 hcl
      go_wp2_with (go_at_call 66; fail)
      clear hd0 hd1 hd2 hd3 hd4
      refine hcall.mono ?_
      rintro e w3 ⟨g, K', V', rfl, hR3, hs3, hFo3⟩
      have hG3 := hG.room hRr hT hs3
      have hbA := bel_alloc w3 (.cells #[.int .i64 (y.op), .int .i64 (y.num), .int .i64 (y.den), .int .i64 (y.mode), .slice (some ⟨g, 0, none⟩) y.args.len (y.args.len + 8)] 73)
      have hRA := hR3.new hbA
      have hGA := hG3.new hbA
      obtain ⟨cs, ho, hE⟩ := hGA.ex
      simp only [List.append_nil, Nat.add_zero] at ho
      have hsz : W.heap.size ≤ (w3.alloc (.cells #[.int .i64 (y.op), .int .i64 (y.num), .int .i64 (y.den), .int .i64 (y.mode), .slice (some ⟨g, 0, none⟩) y.args.len (y.args.len + 8)] 73)).heap.size := Nat.le_trans hs.fm.size (Nat.le_trans hs3.fm.size hbA.size)
      have hxE : Hid (eE.E (w3.alloc (.cells #[.int .i64 (y.op), .int .i64 (y.num), .int .i64 (y.den), .int .i64 (y.mode), .slice (some ⟨g, 0, none⟩) y.args.len (y.args.len + 8)] 73)) (fun b => wr.heap.size ≤ b ∧ b < (w3.alloc (.cells #[.int .i64 (y.op), .int .i64 (y.num), .int .i64 (y.den), .int .i64 (y.mode), .slice (some ⟨g, 0, none⟩) y.args.len (y.args.len + 8)] 73)).heap.size ∧ b ≠ R ∧ ∀ i, i < 21 → (K' i).ownBlock ≠ some b) y [.int .i64 (y.op), .int .i64 (y.num), .int .i64 (y.den), .int .i64 (y.mode), .slice (some ⟨g, 0, none⟩) y.args.len (y.args.len + 8)]) := ⟨⟨_, _, rfl, hRg, FoAt.mo (fun b _ hb => ⟨hb.1, Nat.lt_of_lt_of_le hb.2.1 hbA.size, hb.2.2⟩) _ _ (FoAt.fr hbA.size (fun b _ hlt => hbA.block b hlt) _ _ hFo3)⟩⟩
      clear hcall
      go_wp2_with (at_builtin; refine wpList_append_own_at (P := Tryz.prog) _ rfl _ _ 71 rfl W.heap.size 73 i0 _ 5 56 Tryz.underlying71 hi hz0 hz1 hz2 rfl (by decide) _ ys.length cs rfl ho ⟨w3.heap.size, 0, none⟩ 1 1 [.int .i64 (y.op), .int .i64 (y.num), .int .i64 (y.den), .int .i64 (y.mode), .slice (some ⟨g, 0, none⟩) y.args.len (y.args.len + 8)] rfl rfl (lit_at w3 _ _) (by simp [Value.oneCell']) (by unfold maxLen; omega) (by omega) hsz ?_; intro v' w4 hown' hgrow _h hat; clear _h)
      go_roundw
      case rel =>
        have hgm := GM.step (n1 := wr.heap.size) hRA hT ho hE hGA.vs (x := y) hxE.out hs.fm.size (fun g e => (hlv.out g e).2) hgrow hat hown'
        refine ⟨k + 1, K', V', by omega, by go_num, ?_, ((hs.trans hs3).after (gr_alloc _ _) (fun _ e => by cases e)).after hgrow (fun g e => (hlv.out g e).1), by rw [htk.out]; exact hgm.1⟩
        have h := hgm.2
        rw [htk.out, cL_snoc]
        exact h.mono (by omega)
      case measure => simp [intOf]; omega
    · obtain rfl : k = xs.length := by omega
      rw [List.take_length] at hG hRr
      clear hrow
      go_wp2
      go_loopw [5, 7] (fun v x wr => ∃ k : Nat, k ≤ 4 ∧ x = .int .i64 ((2 * k : Nat) : Int) ∧ RmAt wr R lo K1 V1 (N + cL xs) ∧ RmStep R K V K1 V1 W wr ∧ GM eE 73 W.heap.size R K1 V1 wr v xs (2 * k) (mks 14 (2 * k))) (fun _ x _ => (9 - intOf x).toNat)
      case atStart => exact ⟨0, by omega, rfl, hRr, hs, hG⟩
      case round =>
        clear hRr hs hG
        obtain ⟨k, hk, rfl, hRr, hs, hG⟩ := hrel
        by_cases hk2 : k < 4
        · have hkk : ((2 * k : Nat) : Int) < 8 := by omega
          have hbA := bel_alloc wr (.cells #[.int .i64 (-7701), .int .i64 (0), .int .i64 (0), .int .i64 (0), .slice none 0 0, .int .i64 (-7702), .int .i64 (0), .int .i64 (0), .int .i64 (0), .slice none 0 0] 73)
          have hRA := hRr.new hbA
          have hGA := hG.new hbA
          have hlv := fun (g : Nat) e => hG.lt (g := g) e
          obtain ⟨cs, ho, hE⟩ := hGA.ex
          have hsz : W.heap.size ≤ (wr.alloc (.cells #[.int .i64 (-7701), .int .i64 (0), .int .i64 (0), .int .i64 (0), .slice none 0 0, .int .i64 (-7702), .int .i64 (0), .int .i64 (0), .int .i64 (0), .slice none 0 0] 73)).heap.size := Nat.le_trans hs.fm.size hbA.size
          go_wp2_with (at_builtin; refine wpList_append_own_at (P := Tryz.prog) _ rfl _ _ 71 rfl W.heap.size 73 i0 _ 5 56 Tryz.underlying71 hi hz0 hz1 hz2 rfl (by decide) _ (xs.length + 2 * k) (cs ++ mks 14 (2 * k)) rfl ho ⟨wr.heap.size, 0, none⟩ 2 2 [.int .i64 (-7701), .int .i64 (0), .int .i64 (0), .int .i64 (0), .slice none 0 0, .int .i64 (-7702), .int .i64 (0), .int .i64 (0), .int .i64 (0), .slice none 0 0] rfl rfl (lit_at wr _ _) (by simp [Value.oneCell']) (by unfold maxLen; omega) (by omega) hsz ?_; intro v' w2 hown' hgrow _h hat; clear _h)
          go_roundw
          case rel =>
            have hgm := GM.marks (k := 2) hRA hT ho hE hGA.vs hgrow hat hown'
            exact ⟨k + 1, by omega, by go_num, hgm.2, (hs.after (gr_alloc _ _) (fun _ e => by cases e)).after hgrow (fun g e => (hlv g e).1), by rw [show 2 * (k + 1) = 2 * k + 2 by omega, mks_two _ _ (by omega)]; exact hgm.1⟩
          case measure => simp [intOf]; omega
        · obtain rfl : k = 4 := by omega
          have hG : GM eE 73 W.heap.size R K1 V1 wr _ xs 8 (mks 14 8) := hG
          obtain ⟨cs, ho, hE⟩ := hG.ex
          obtain ⟨g, capN, rfl, hcN⟩ := own_lit2 ho (by omega)
          obtain ⟨ka, kc, hK⟩ := own_shape (hRr.own 14 (by decide))
          have q1 := (hRr.cell (j := 14) (by decide)).1
          have hVl := hRr.few 14 (by decide)
          have hbA := bel_alloc wr (.cells #[.slice (some ⟨g, 0, none⟩) (xs.length + 8) capN] 71)
          have hRA := hRr.new hbA
          have hoA := hRA.own 14 (by decide)
          have hsz : lo ≤ (wr.alloc (.cells #[.slice (some ⟨g, 0, none⟩) (xs.length + 8) capN] 71)).heap.size := by have := hRA.lt; have := hRA.low; omega
          have hcl := fun v' w2 h1 h2 h3 => rm_close (D := eE) (j := 14) (v' := v') (w2 := w2) (o := .cells #[.slice (some ⟨g, 0, none⟩) (xs.length + 8) capN] 71) (by decide) (by decide) rfl hx hRr hs hG h1 h2 h3
          rw [hK] at q1 hoA hcl
          have hclH := Hid.mk hcl
          have hN2 : (V1 14).length ≤ 2000000000 := by omega
          have hle : ((xs.length : Nat) : Int) ≤ (xs.length : Int) + 8 := by omega
          have hle2 : (xs.length : Int) + 8 ≤ (capN : Int) := by omega
          have hle0 : (0 : Int) ≤ (xs.length : Int) := by omega
          clear hcl ho hE hG hVl hN hK hR
          go_wp2_with (at_builtin; refine wpList_append_own_at (P := Tryz.prog) _ rfl _ _ 47 rfl lo 71 j0 _ 1 24 Tryz.underlying47 hj hy0 hy1 hy2 rfl (by decide) _ (V1 14).length (V1 14) rfl hoA ⟨wr.heap.size, 0, none⟩ 1 1 [.slice (some ⟨g, 0, none⟩) (xs.length + 8) capN] rfl rfl (cell_one_new _ _ _) (by simp [Value.oneCell']) (by unfold maxLen; omega) (by omega) hsz ?_; intro v' w2 hown' hgrow _h hat; clear _h; obtain ⟨g2, cap2, rfl, -⟩ := own_lit2 hown' (by omega); obtain ⟨s1, s2, s3, s4, s5⟩ := hclH.out _ _ hown' hgrow hat; have s3 := Hid.mk s3; have s4 := Hid.mk s4; have s5 := Hid.mk s5; clear hgrow hat hown')
          go_ret
          exact ⟨g, _, _, rfl, s3.out, s4.out, s5.out⟩

theorem exprs_all (m : Nat) : ∀ (xs : List Ex), cL xs < m → ∀ (R lo N : Nat) (K : Nat → Value) (V : Nat → List Value) (a : Option Addr) (cap : Nat) (W : World), cL xs ≤ 1000000 → N + cL xs ≤ 1000000000 → RmAt W R lo K V N → RowR eE W (fun b => b < lo) xs a → Calls Tryz.prog 85 #[.pointer (some ⟨R, 0, none⟩), .slice a xs.length cap] W (RmC eE R lo K V (N + cL xs + 1) 8 xs W) := by
  induction m with
  | zero => intro xs hm; omega
  | succ m ih => exact fun xs hm => exprs_rm_s xs (fun ys hy => ih ys (by omega))
theorem exprs_rm (xs : List Ex) : ∀ (R lo N : Nat) (K : Nat → Value) (V : Nat → List Value) (a : Option Addr) (cap : Nat) (W : World), cL xs ≤ 1000000 → N + cL xs ≤ 1000000000 → RmAt W R lo K V N → RowR eE W (fun b => b < lo) xs a → Calls Tryz.prog 85 #[.pointer (some ⟨R, 0, none⟩), .slice a xs.length cap] W (RmC eE R lo K V (N + cL xs + 1) 8 xs W) := exprs_all (cL xs + 1) xs (by omega)
theorem expr_rm (x : Ex) (R lo N : Nat) (K : Nat → Value) (V : Nat → List Value) (a : Option Addr) (cap : Nat) (W : World) (hc : cNf x.args ≤ 1000000) (hN : N + cNf x.args ≤ 1000000000) (hR : RmAt W R lo K V N) (hF : FoAt W (fun b => b < lo) x.args a) : Calls Tryz.prog 66 #[.pointer (some ⟨R, 0, none⟩), .agg #[.int .i64 x.op, .int .i64 x.num, .int .i64 x.den, .int .i64 x.mode, .slice a x.args.len cap]] W (RmX R lo K V (N + cNf x.args + 1) x W) := by
  have hle : lo ≤ W.heap.size := by have := hR.lt; have := hR.low; omega
  have h := expr_of R lo N (N + cL (toL x.args) + 1) K V x a cap W hR (fun X hRX hbX => exprs_rm (toL x.args) R lo N K V a cap X (by rw [cL_toL]; exact hc) (by rw [cL_toL]; exact hN) hRX (row_of_fo (FoAt.fr hbX.size (fun b hb _ => hbX.block b (Nat.lt_of_lt_of_le hb hle)) _ _ hF)))
  rw [cL_toL] at h
  exact h

end Go.Proofs.YthnmjafoplfikaaGreatDoor
