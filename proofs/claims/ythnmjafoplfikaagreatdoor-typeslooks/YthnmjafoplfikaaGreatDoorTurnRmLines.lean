import Derived.Test.YthnmjafoplfikaaGreatDoorTurnRmLine
namespace Go.Proofs.YthnmjafoplfikaaGreatDoor
open Go.RowKit

theorem infoLines : (Tryz.prog.info? 78).map (fun i => (i.zero, i.size, i.bytes)) = some (some (.agg #[.string ⟨#[]⟩, .bool false, .bool false, .int .i64 0, .int .i64 0, .int .i64 0, .slice none 0 0]), 7, 72) := by kernel_rfl
theorem infoLines2 : (Tryz.prog.info? 25).map (fun i => (i.zero, i.size, i.bytes)) = some (some (.slice none 0 0), 1, 24) := by kernel_rfl
set_option maxRecDepth 100000 in
set_option maxHeartbeats 4000000 in
theorem lines_rm (R lo N : Nat) (K : Nat → Value) (V : Nat → List Value) (xs : List (Ln)) (a : Option Addr) (cap : Nat) (W : World) (hx : xs.length ≤ 1000000) (hall : ∀ x ∈ xs, x.cls.length ≤ 1000000) (hxc : cLn xs ≤ 1000000) (hN : N + cLn xs ≤ 1000000000) (hR : RmAt W R lo K V N) (hrow : RowR eL W (fun b => b < lo) xs a) :
    Calls Tryz.prog 21 #[.pointer (some ⟨R, 0, none⟩), .slice a xs.length cap] W (RmC eL R lo K V (N + cLn xs + 1) 40 xs W) := by
  obtain ⟨i0, hi, hz0, hz1, hz2⟩ := info_parts infoLines
  obtain ⟨j0, hj, hy0, hy1, hy2⟩ := info_parts infoLines2
  have hT : (78 : TypeId) ≠ 55 ∧ ∀ j, j < 21 → (78 : TypeId) ≠ rmT j := by decide
  have hst : ∃ (k : Nat) (K1 : Nat → Value) (V1 : Nat → List Value), k ≤ xs.length ∧ (Value.int .i64 0) = .int .i64 (k : Int) ∧ RmAt (W.alloc (.cells #[] 78)) R lo K1 V1 (N + cLn (xs.take k)) ∧ RmStep R K V K1 V1 W (W.alloc (.cells #[] 78)) ∧ GM eL 78 W.heap.size R K1 V1 (W.alloc (.cells #[] 78)) (.slice (some ⟨W.heap.size, 0, none⟩) 0 0) (xs.take k) 0 [] := ⟨0, K, V, Nat.zero_le _, rfl, hR.new (bel_alloc _ _), (RmStep.refl R K V W).after (gr_alloc _ _) (fun _ e => by cases e), gm_start eL 78 hR⟩
  go_enter Tryz.func21, Tryz.ntmps21
  go_wp2
  go_loopw [5, 6] (fun v x wr => ∃ (k : Nat) (K1 : Nat → Value) (V1 : Nat → List Value), k ≤ xs.length ∧ x = .int .i64 (k : Int) ∧ RmAt wr R lo K1 V1 (N + cLn (xs.take k)) ∧ RmStep R K V K1 V1 W wr ∧ GM eL 78 W.heap.size R K1 V1 wr v (xs.take k) 0 []) (fun _ x _ => xs.length - (intOf x).toNat)
  case atStart => exact hst
  case round =>
    clear hst
    obtain ⟨k, K1, V1, hk, rfl, hRr, hs, hG⟩ := hrel
    by_cases hlt : k < xs.length
    · have hlt' : (k : Int) < (xs.length : Int) := by omega
      have hj0 : (0 : Int) ≤ (k : Int) := by omega
      obtain ⟨ga, oa, rfl⟩ : ∃ ga oa, a = some ⟨ga, oa, none⟩ := by
        rcases hrow with h0 | ⟨ga, oa, -, h1, -⟩
        · rw [h0] at hlt; simp at hlt
        · exact ⟨ga, oa, h1⟩
      obtain ⟨cx, hcl, hga, hE1, hcc⟩ := hrow.item hlt
      have htk : Hid (xs.take (k + 1) = xs.take k ++ [xs[k]]) := ⟨List.take_succ_eq_append_getElem hlt⟩
      have hyl : (xs.take k).length ≤ 1000000 := by rw [List.length_take]; omega
      have hwt : cLn (xs.take (k + 1)) ≤ cLn xs := cLn_take xs (k + 1)
      rw [htk.out, cLn_snoc] at hwt
      have hym : xs[k] ∈ xs := List.getElem_mem hlt
      have hBl : Below lo W wr := RmStep.below hR hs
      have hc0 := (bel_cell hBl hga (oa + k * 7 + 0)).trans (hcc 0 (by decide))
      have hc1 := (bel_cell hBl hga (oa + k * 7 + 1)).trans (hcc 1 (by decide))
      have hc2 := (bel_cell hBl hga (oa + k * 7 + 2)).trans (hcc 2 (by decide))
      have hc3 := (bel_cell hBl hga (oa + k * 7 + 3)).trans (hcc 3 (by decide))
      have hc4 := (bel_cell hBl hga (oa + k * 7 + 4)).trans (hcc 4 (by decide))
      have hc5 := (bel_cell hBl hga (oa + k * 7 + 5)).trans (hcc 5 (by decide))
      have hc6 := (bel_cell hBl hga (oa + k * 7 + 6)).trans (hcc 6 (by decide))
      generalize xs[k] = y at *
      generalize xs.take k = ys at *
      obtain ⟨a1, c1, rfl, hRg, hRw⟩ := hE1
      have hyn : y.cls.length ≤ 1000000 := hall y hym
      have hd0 : wr.cell? ⟨ga, oa + k * 7, none⟩ = some (.string ⟨y.name.toArray⟩) := hc0
      have hd1 : wr.cell? ⟨ga, oa + k * 7 + 1, none⟩ = some (.bool y.input) := hc1
      have hd2 : wr.cell? ⟨ga, oa + k * 7 + 2, none⟩ = some (.bool y.must) := hc2
      have hd3 : wr.cell? ⟨ga, oa + k * 7 + 3, none⟩ = some (.int .i64 (y.type)) := hc3
      have hd4 : wr.cell? ⟨ga, oa + k * 7 + 4, none⟩ = some (.int .i64 (y.opts)) := hc4
      have hd5 : wr.cell? ⟨ga, oa + k * 7 + 5, none⟩ = some (.int .i64 (y.group)) := hc5
      have hd6 : wr.cell? ⟨ga, oa + k * 7 + 6, none⟩ = some (.slice a1 y.cls.length c1) := hc6
      have hcall := line_rm y R lo (N + cLn ys) K1 V1 a1 c1 wr hyn (by omega) (by omega) hRr (hRw.fr hBl.size (fun b hb _ => hBl.block b hb))
      have hlv := Hid.mk (fun (g : Nat) e => hG.lt (g := g) e)
      clear hcc hc0 hc1 hc2 hc3 hc4 hc5 hc6 hcl
      go_wp2_with (go_at_call 65; fail)
      clear hd0 hd1 hd2 hd3 hd4 hd5 hd6
      refine hcall.mono ?_
      rintro e w3 ⟨g, K', V', rfl, hR3, hs3, hFo3⟩
      have hG3 := hG.room hRr hT hs3
      have hbA := bel_alloc w3 (.cells #[.string ⟨y.name.toArray⟩, .bool y.input, .bool y.must, .int .i64 (y.type), .int .i64 (y.opts), .int .i64 (y.group), .slice (some ⟨g, 0, none⟩) y.cls.length (y.cls.length + 40)] 78)
      have hRA := hR3.new hbA
      have hGA := hG3.new hbA
      obtain ⟨cs, ho, hE⟩ := hGA.ex
      simp only [List.append_nil, Nat.add_zero] at ho
      have hsz : W.heap.size ≤ (w3.alloc (.cells #[.string ⟨y.name.toArray⟩, .bool y.input, .bool y.must, .int .i64 (y.type), .int .i64 (y.opts), .int .i64 (y.group), .slice (some ⟨g, 0, none⟩) y.cls.length (y.cls.length + 40)] 78)).heap.size := Nat.le_trans hs.fm.size (Nat.le_trans hs3.fm.size hbA.size)
      have hxE : Hid (eL.E (w3.alloc (.cells #[.string ⟨y.name.toArray⟩, .bool y.input, .bool y.must, .int .i64 (y.type), .int .i64 (y.opts), .int .i64 (y.group), .slice (some ⟨g, 0, none⟩) y.cls.length (y.cls.length + 40)] 78)) (fun b => wr.heap.size ≤ b ∧ b < (w3.alloc (.cells #[.string ⟨y.name.toArray⟩, .bool y.input, .bool y.must, .int .i64 (y.type), .int .i64 (y.opts), .int .i64 (y.group), .slice (some ⟨g, 0, none⟩) y.cls.length (y.cls.length + 40)] 78)).heap.size ∧ b ≠ R ∧ ∀ i, i < 21 → (K' i).ownBlock ≠ some b) y [.string ⟨y.name.toArray⟩, .bool y.input, .bool y.must, .int .i64 (y.type), .int .i64 (y.opts), .int .i64 (y.group), .slice (some ⟨g, 0, none⟩) y.cls.length (y.cls.length + 40)]) := ⟨⟨_, _, rfl, hRg, (hFo3.fr hbA.size (fun b _ hlt => hbA.block b hlt)).mo (fun b _ hb => ⟨hb.1, Nat.lt_of_lt_of_le hb.2.1 hbA.size, hb.2.2⟩)⟩⟩
      clear hcall
      go_wp2_with (at_builtin; refine wpList_append_own_at (P := Tryz.prog) _ rfl _ _ 25 rfl W.heap.size 78 i0 _ 7 72 Tryz.underlying25 hi hz0 hz1 hz2 rfl (by decide) _ ys.length cs rfl ho ⟨w3.heap.size, 0, none⟩ 1 1 [.string ⟨y.name.toArray⟩, .bool y.input, .bool y.must, .int .i64 (y.type), .int .i64 (y.opts), .int .i64 (y.group), .slice (some ⟨g, 0, none⟩) y.cls.length (y.cls.length + 40)] rfl rfl (lit_at w3 _ _) (by simp [Value.oneCell']) (by unfold maxLen; omega) (by omega) hsz ?_; intro v' w4 hown' hgrow _h hat; clear _h)
      go_roundw
      case rel =>
        have hgm := GM.step (n1 := wr.heap.size) hRA hT ho hE hGA.vs (x := y) hxE.out hs.fm.size (fun g e => (hlv.out g e).2) hgrow hat hown'
        refine ⟨k + 1, K', V', by omega, by go_num, ?_, ((hs.trans hs3).after (gr_alloc _ _) (fun _ e => by cases e)).after hgrow (fun g e => (hlv.out g e).1), by rw [htk.out]; exact hgm.1⟩
        have h := hgm.2
        rw [htk.out, cLn_snoc]
        exact h.mono (by omega)
      case measure => simp [intOf]; omega
    · obtain rfl : k = xs.length := by omega
      rw [List.take_length] at hG hRr
      clear hrow
      go_wp2
      go_loopw [5, 7] (fun v x wr => ∃ k : Nat, k ≤ 20 ∧ x = .int .i64 ((2 * k : Nat) : Int) ∧ RmAt wr R lo K1 V1 (N + cLn xs) ∧ RmStep R K V K1 V1 W wr ∧ GM eL 78 W.heap.size R K1 V1 wr v xs (2 * k) (mks 16 (2 * k))) (fun _ x _ => (41 - intOf x).toNat)
      case atStart => exact ⟨0, by omega, rfl, hRr, hs, hG⟩
      case round =>
        clear hRr hs hG
        obtain ⟨k, hk, rfl, hRr, hs, hG⟩ := hrel
        by_cases hk2 : k < 20
        · have hkk : ((2 * k : Nat) : Int) < 40 := by omega
          have hbA := bel_alloc wr (.cells #[.string ⟨#[]⟩, .bool false, .bool false, .int .i64 (-7701), .int .i64 (0), .int .i64 (0), .slice none 0 0, .string ⟨#[]⟩, .bool false, .bool false, .int .i64 (-7702), .int .i64 (0), .int .i64 (0), .slice none 0 0] 78)
          have hRA := hRr.new hbA
          have hGA := hG.new hbA
          have hlv := fun (g : Nat) e => hG.lt (g := g) e
          obtain ⟨cs, ho, hE⟩ := hGA.ex
          have hsz : W.heap.size ≤ (wr.alloc (.cells #[.string ⟨#[]⟩, .bool false, .bool false, .int .i64 (-7701), .int .i64 (0), .int .i64 (0), .slice none 0 0, .string ⟨#[]⟩, .bool false, .bool false, .int .i64 (-7702), .int .i64 (0), .int .i64 (0), .slice none 0 0] 78)).heap.size := Nat.le_trans hs.fm.size hbA.size
          go_wp2_with (at_builtin; refine wpList_append_own_at (P := Tryz.prog) _ rfl _ _ 25 rfl W.heap.size 78 i0 _ 7 72 Tryz.underlying25 hi hz0 hz1 hz2 rfl (by decide) _ (xs.length + 2 * k) (cs ++ mks 16 (2 * k)) rfl ho ⟨wr.heap.size, 0, none⟩ 2 2 [.string ⟨#[]⟩, .bool false, .bool false, .int .i64 (-7701), .int .i64 (0), .int .i64 (0), .slice none 0 0, .string ⟨#[]⟩, .bool false, .bool false, .int .i64 (-7702), .int .i64 (0), .int .i64 (0), .slice none 0 0] rfl rfl (lit_at wr _ _) (by simp [Value.oneCell']) (by unfold maxLen; omega) (by omega) hsz ?_; intro v' w2 hown' hgrow _h hat; clear _h)
          go_roundw
          case rel =>
            have hgm := GM.marks (k := 2) hRA hT ho hE hGA.vs hgrow hat hown'
            exact ⟨k + 1, by omega, by go_num, hgm.2, (hs.after (gr_alloc _ _) (fun _ e => by cases e)).after hgrow (fun g e => (hlv g e).1), by rw [show 2 * (k + 1) = 2 * k + 2 by omega, mks_two _ _ (by omega)]; exact hgm.1⟩
          case measure => simp [intOf]; omega
        · obtain rfl : k = 20 := by omega
          have hG : GM eL 78 W.heap.size R K1 V1 wr _ xs 40 (mks 16 40) := hG
          obtain ⟨cs, ho, hE⟩ := hG.ex
          obtain ⟨g, capN, rfl, hcN⟩ := own_lit2 ho (by omega)
          obtain ⟨ka, kc, hK⟩ := own_shape (hRr.own 16 (by decide))
          have q1 := (hRr.cell (j := 16) (by decide)).1
          have hVl := hRr.few 16 (by decide)
          have hbA := bel_alloc wr (.cells #[.slice (some ⟨g, 0, none⟩) (xs.length + 40) capN] 25)
          have hRA := hRr.new hbA
          have hoA := hRA.own 16 (by decide)
          have hsz : lo ≤ (wr.alloc (.cells #[.slice (some ⟨g, 0, none⟩) (xs.length + 40) capN] 25)).heap.size := by have := hRA.lt; have := hRA.low; omega
          have hcl := fun v' w2 h1 h2 h3 => rm_close (D := eL) (j := 16) (v' := v') (w2 := w2) (o := .cells #[.slice (some ⟨g, 0, none⟩) (xs.length + 40) capN] 25) (by decide) (by decide) rfl hx hRr hs hG h1 h2 h3
          rw [hK] at q1 hoA hcl
          have hclH := Hid.mk hcl
          have hN2 : (V1 16).length ≤ 2000000000 := by omega
          have hle : ((xs.length : Nat) : Int) ≤ (xs.length : Int) + 40 := by omega
          have hle2 : (xs.length : Int) + 40 ≤ (capN : Int) := by omega
          have hle0 : (0 : Int) ≤ (xs.length : Int) := by omega
          clear hcl ho hE hG hVl hN hK hR
          go_wp2_with (at_builtin; refine wpList_append_own_at (P := Tryz.prog) _ rfl _ _ 49 rfl lo 25 j0 _ 1 24 Tryz.underlying49 hj hy0 hy1 hy2 rfl (by decide) _ (V1 16).length (V1 16) rfl hoA ⟨wr.heap.size, 0, none⟩ 1 1 [.slice (some ⟨g, 0, none⟩) (xs.length + 40) capN] rfl rfl (cell_one_new _ _ _) (by simp [Value.oneCell']) (by unfold maxLen; omega) (by omega) hsz ?_; intro v' w2 hown' hgrow _h hat; clear _h; obtain ⟨g2, cap2, rfl, -⟩ := own_lit2 hown' (by omega); obtain ⟨s1, s2, s3, s4, s5⟩ := hclH.out _ _ hown' hgrow hat; have s3 := Hid.mk s3; have s4 := Hid.mk s4; have s5 := Hid.mk s5; clear hgrow hat hown')
          go_ret
          exact ⟨g, _, _, rfl, s3.out, s4.out, s5.out⟩

end Go.Proofs.YthnmjafoplfikaaGreatDoor
