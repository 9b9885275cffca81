import Derived.Test.YthnmjafoplfikaaGreatDoorTurnRmR
namespace Go.Proofs.YthnmjafoplfikaaGreatDoor
open Go.RowKit

theorem infoTables : (Tryz.prog.info? 69).map (fun i => (i.zero, i.size, i.bytes)) = some (some (.agg #[.string ⟨#[]⟩, .slice none 0 0]), 2, 40) := by kernel_rfl
theorem infoTables2 : (Tryz.prog.info? 23).map (fun i => (i.zero, i.size, i.bytes)) = some (some (.slice none 0 0), 1, 24) := by kernel_rfl
set_option maxRecDepth 100000 in
set_option maxHeartbeats 4000000 in
theorem tables_rm (R lo N : Nat) (K : Nat → Value) (V : Nat → List Value) (xs : List (List UInt8 × List (Int × Int))) (a : Option Addr) (cap : Nat) (W : World) (hx : xs.length ≤ 1000000) (hall : ∀ x ∈ xs, x.2.length ≤ 1000000) (hN : N + cO xs ≤ 1000000000) (hR : RmAt W R lo K V N) (hrow : RowR eT W (fun b => b < lo) xs a) :
    Calls Tryz.prog 19 #[.pointer (some ⟨R, 0, none⟩), .slice a xs.length cap] W (RmC eT R lo K V (N + cO xs + 1) 40 xs W) := by
  obtain ⟨i0, hi, hz0, hz1, hz2⟩ := info_parts infoTables
  obtain ⟨j0, hj, hy0, hy1, hy2⟩ := info_parts infoTables2
  have hT : (69 : TypeId) ≠ 55 ∧ ∀ j, j < 21 → (69 : TypeId) ≠ rmT j := by decide
  have hst : ∃ (k : Nat) (K1 : Nat → Value) (V1 : Nat → List Value), k ≤ xs.length ∧ (Value.int .i64 0) = .int .i64 (k : Int) ∧ RmAt (W.alloc (.cells #[] 69)) R lo K1 V1 (N + cO (xs.take k)) ∧ RmStep R K V K1 V1 W (W.alloc (.cells #[] 69)) ∧ GM eT 69 W.heap.size R K1 V1 (W.alloc (.cells #[] 69)) (.slice (some ⟨W.heap.size, 0, none⟩) 0 0) (xs.take k) 0 [] := ⟨0, K, V, Nat.zero_le _, rfl, hR.new (bel_alloc _ _), (RmStep.refl R K V W).after (gr_alloc _ _) (fun _ e => by cases e), gm_start eT 69 hR⟩
  go_enter Tryz.func19, Tryz.ntmps19
  go_wp2
  go_loopw [5, 6] (fun v x wr => ∃ (k : Nat) (K1 : Nat → Value) (V1 : Nat → List Value), k ≤ xs.length ∧ x = .int .i64 (k : Int) ∧ RmAt wr R lo K1 V1 (N + cO (xs.take k)) ∧ RmStep R K V K1 V1 W wr ∧ GM eT 69 W.heap.size R K1 V1 wr v (xs.take k) 0 []) (fun _ x _ => xs.length - (intOf x).toNat)
  case atStart => exact hst
  case round =>
    clear hst
    obtain ⟨k, K1, V1, hk, rfl, hRr, hs, hG⟩ := hrel
    by_cases hlt : k < xs.length
    · have hlt' : (k : Int) < (xs.length : Int) := by omega
      have hj0 : (0 : Int) ≤ (k : Int) := by omega
      obtain ⟨ga, oa, rfl⟩ : ∃ ga oa, a = some ⟨ga, oa, none⟩ := by
        rcases hrow with h0 | ⟨ga, oa, -, h1, -⟩
        · rw [h0] at hlt; simp at hlt
        · exact ⟨ga, oa, h1⟩
      obtain ⟨cx, hcl, hga, hE1, hcc⟩ := hrow.item hlt
      have htk : Hid (xs.take (k + 1) = xs.take k ++ [xs[k]]) := ⟨List.take_succ_eq_append_getElem hlt⟩
      have hyl : (xs.take k).length ≤ 1000000 := by rw [List.length_take]; omega
      have hwt : cO (xs.take (k + 1)) ≤ cO xs := cO_take xs (k + 1)
      rw [htk.out, cO_snoc] at hwt
      have hym : xs[k] ∈ xs := List.getElem_mem hlt
      have hBl : Below lo W wr := RmStep.below hR hs
      have hle : lo ≤ wr.heap.size := by have := hRr.lt; have := hRr.low; omega
      generalize xs[k] = y at *
      generalize xs.take k = ys at *
      obtain ⟨a1, c1, rfl, hRw⟩ := hE1
      have hyn : y.2.length ≤ 1000000 := hall y hym
      have hRowD : RowR eBd wr.drew (fun b => b < lo) y.2 a1 := (hRw.fr hBl.size (fun b hb _ => hBl.block b hb)).fr (bel_drew wr).size (fun b hb _ => (bel_drew wr).block b (Nat.lt_of_lt_of_le hb hle))
      have hSs : Hid (∀ X, Below lo W X → X.cell? ⟨ga, oa + k * 2, none⟩ = some (.string ⟨y.1.toArray⟩) ∧ X.cell? ⟨ga, oa + k * 2 + 1, none⟩ = some (.slice a1 y.2.length c1)) := ⟨fun X hX => ⟨(bel_cell hX hga (oa + k * 2 + 0)).trans (hcc 0 (by decide)), (bel_cell hX hga (oa + k * 2 + 1)).trans (hcc 1 (by decide))⟩⟩
      have hbD := bel_drew wr
      have hRD := hRr.new hbD
      have hGD := hG.new hbD
      have hsD := hs.after (gr_drew1 wr) (fun _ e => by cases e)
      have hBD : Below lo W wr.drew := hBl.trans (hbD.mono hle)
      have hS0 := hSs.out _ hBD
      have hlv := Hid.mk (fun (g : Nat) e => hG.lt (g := g) e)

      clear hcc hcl
      go_wp2_with fail
      go_region_held_law (fun X => X.cell? ⟨ga, oa + k * 2, none⟩ = some (.string ⟨y.1.toArray⟩) ∧ X.cell? ⟨ga, oa + k * 2 + 1, none⟩ = some (.slice a1 y.2.length c1)) (with_reducible assumption)
        (first
          | (go_at_call 64; refine (bands_rm R lo (N + cO ys) K1 V1 y.2 a1 c1 _ hyn (by omega) hRD hRowD).mono ?_; rintro e w3 ⟨g, K', V', rfl, hR3, hs3, hRow3⟩; have hG3 := hGD.room hRD hT hs3; have hsA := hsD.trans hs3; have hbA := bel_alloc w3 (.cells #[.string ⟨y.1.toArray⟩, .slice (some ⟨g, 0, none⟩) y.2.length (y.2.length + 40)] 69); have hRA := hR3.new hbA; have hGA := hG3.new hbA; obtain ⟨cs, ho, hE⟩ := hGA.ex; simp only [List.append_nil, Nat.add_zero] at ho; have hsz : W.heap.size ≤ (w3.alloc (.cells #[.string ⟨y.1.toArray⟩, .slice (some ⟨g, 0, none⟩) y.2.length (y.2.length + 40)] 69)).heap.size := Nat.le_trans hsA.fm.size hbA.size; have hleW : lo ≤ W.heap.size := (by have := hR.lt; have := hR.low; omega); have hB3 : Below lo W w3 := RmStep.below hR hsA; have hle3 : lo ≤ w3.heap.size := Nat.le_trans hleW hsA.fm.size; have hS3 := hSs.out _ hB3; have hBA : Below lo W (w3.alloc (.cells #[.string ⟨y.1.toArray⟩, .slice (some ⟨g, 0, none⟩) y.2.length (y.2.length + 40)] 69)) := hB3.alloc hle3 _; have hleA : lo ≤ (w3.alloc (.cells #[.string ⟨y.1.toArray⟩, .slice (some ⟨g, 0, none⟩) y.2.length (y.2.length + 40)] 69)).heap.size := Nat.le_trans hle3 hbA.size; have hSA := hSs.out _ hBA; have hxE : Hid (eT.E (w3.alloc (.cells #[.string ⟨y.1.toArray⟩, .slice (some ⟨g, 0, none⟩) y.2.length (y.2.length + 40)] 69)) (fun b => wr.heap.size ≤ b ∧ b < (w3.alloc (.cells #[.string ⟨y.1.toArray⟩, .slice (some ⟨g, 0, none⟩) y.2.length (y.2.length + 40)] 69)).heap.size ∧ b ≠ R ∧ ∀ i, i < 21 → (K' i).ownBlock ≠ some b) y [.string ⟨y.1.toArray⟩, .slice (some ⟨g, 0, none⟩) y.2.length (y.2.length + 40)]) := ⟨⟨_, _, rfl, (hRow3.fr hbA.size (fun b _ hlt => hbA.block b hlt)).mo (fun b _ hb => ⟨Nat.le_trans hbD.size hb.1, Nat.lt_of_lt_of_le hb.2.1 hbA.size, hb.2.2⟩)⟩⟩)
          | (refine step_append_rm (P := Tryz.prog) _ rfl _ _ 23 rfl W.heap.size 69 i0 _ 2 40 Tryz.underlying23 hi hz0 hz1 hz2 rfl (by decide) _ ys.length cs rfl ho ⟨w3.heap.size, 0, none⟩ 1 1 [.string ⟨y.1.toArray⟩, .slice (some ⟨g, 0, none⟩) y.2.length (y.2.length + 40)] rfl rfl (lit_at w3 _ _) (by simp [Value.oneCell']) (by unfold maxLen; omega) (by omega) hsz ?_; intro v' w4 hown' hgrow hat; have hS4 := hSs.out _ (hBA.grown hgrow hleA (fun j hj => Nat.le_trans hleW (hlv.out j hj).1))))
      go_wp2
      go_roundw
      case rel =>
        have hgm := GM.step (n1 := wr.heap.size) hRA hT ho hE hGA.vs (x := y) hxE.out hs.fm.size (fun g e => (hlv.out g e).2) hgrow hat hown'
        refine ⟨k + 1, K', V', by omega, by go_num, ?_, (hsA.after (gr_alloc _ _) (fun _ e => by cases e)).after hgrow (fun g e => (hlv.out g e).1), by rw [htk.out]; exact hgm.1⟩
        have h := hgm.2
        rw [htk.out, cO_snoc]
        exact h.mono (by omega)
      case measure => simp [intOf]; omega
    · obtain rfl : k = xs.length := by omega
      rw [List.take_length] at hG hRr
      clear hrow
      go_wp2
      go_loopw [5, 7] (fun v x wr => ∃ k : Nat, k ≤ 20 ∧ x = .int .i64 ((2 * k : Nat) : Int) ∧ RmAt wr R lo K1 V1 (N + cO xs) ∧ RmStep R K V K1 V1 W wr ∧ GM eT 69 W.heap.size R K1 V1 wr v xs (2 * k) (mks 19 (2 * k))) (fun _ x _ => (41 - intOf x).toNat)
      case atStart => exact ⟨0, by omega, rfl, hRr, hs, hG⟩
      case round =>
        clear hRr hs hG
        obtain ⟨k, hk, rfl, hRr, hs, hG⟩ := hrel
        by_cases hk2 : k < 20
        · have hkk : ((2 * k : Nat) : Int) < 40 := by omega
          have hbA := bel_alloc wr (.cells #[.string ⟨#[60, 111, 110, 101, 62]⟩, .slice none 0 0, .string ⟨#[60, 116, 119, 111, 62]⟩, .slice none 0 0] 69)
          have hRA := hRr.new hbA
          have hGA := hG.new hbA
          have hlv := fun (g : Nat) e => hG.lt (g := g) e
          obtain ⟨cs, ho, hE⟩ := hGA.ex
          have hsz : W.heap.size ≤ (wr.alloc (.cells #[.string ⟨#[60, 111, 110, 101, 62]⟩, .slice none 0 0, .string ⟨#[60, 116, 119, 111, 62]⟩, .slice none 0 0] 69)).heap.size := Nat.le_trans hs.fm.size hbA.size
          go_wp2_with (at_builtin; refine wpList_append_own_at (P := Tryz.prog) _ rfl _ _ 23 rfl W.heap.size 69 i0 _ 2 40 Tryz.underlying23 hi hz0 hz1 hz2 rfl (by decide) _ (xs.length + 2 * k) (cs ++ mks 19 (2 * k)) rfl ho ⟨wr.heap.size, 0, none⟩ 2 2 [.string ⟨#[60, 111, 110, 101, 62]⟩, .slice none 0 0, .string ⟨#[60, 116, 119, 111, 62]⟩, .slice none 0 0] rfl rfl (lit_at wr _ _) (by simp [Value.oneCell']) (by unfold maxLen; omega) (by omega) hsz ?_; intro v' w2 hown' hgrow _h hat; clear _h)
          go_roundw
          case rel =>
            have hgm := GM.marks (k := 2) hRA hT ho hE hGA.vs hgrow hat hown'
            exact ⟨k + 1, by omega, by go_num, hgm.2, (hs.after (gr_alloc _ _) (fun _ e => by cases e)).after hgrow (fun g e => (hlv g e).1), by rw [show 2 * (k + 1) = 2 * k + 2 by omega, mks_two _ _ (by omega)]; exact hgm.1⟩
          case measure => simp [intOf]; omega
        · obtain rfl : k = 20 := by omega
          have hG : GM eT 69 W.heap.size R K1 V1 wr _ xs 40 (mks 19 40) := hG
          obtain ⟨cs, ho, hE⟩ := hG.ex
          obtain ⟨g, capN, rfl, hcN⟩ := own_lit2 ho (by omega)
          obtain ⟨ka, kc, hK⟩ := own_shape (hRr.own 19 (by decide))
          have q1 := (hRr.cell (j := 19) (by decide)).1
          have hVl := hRr.few 19 (by decide)
          have hbA := bel_alloc wr (.cells #[.slice (some ⟨g, 0, none⟩) (xs.length + 40) capN] 23)
          have hRA := hRr.new hbA
          have hoA := hRA.own 19 (by decide)
          have hsz : lo ≤ (wr.alloc (.cells #[.slice (some ⟨g, 0, none⟩) (xs.length + 40) capN] 23)).heap.size := by have := hRA.lt; have := hRA.low; omega
          have hcl := fun v' w2 h1 h2 h3 => rm_close (D := eT) (j := 19) (v' := v') (w2 := w2) (o := .cells #[.slice (some ⟨g, 0, none⟩) (xs.length + 40) capN] 23) (by decide) (by decide) rfl hx hRr hs hG h1 h2 h3
          rw [hK] at q1 hoA hcl
          have hclH := Hid.mk hcl
          have hN2 : (V1 19).length ≤ 2000000000 := by omega
          have hle : ((xs.length : Nat) : Int) ≤ (xs.length : Int) + 40 := by omega
          have hle2 : (xs.length : Int) + 40 ≤ (capN : Int) := by omega
          have hle0 : (0 : Int) ≤ (xs.length : Int) := by omega
          clear hcl ho hE hG hVl hN hK hR
          go_wp2_with (at_builtin; refine wpList_append_own_at (P := Tryz.prog) _ rfl _ _ 52 rfl lo 23 j0 _ 1 24 Tryz.underlying52 hj hy0 hy1 hy2 rfl (by decide) _ (V1 19).length (V1 19) rfl hoA ⟨wr.heap.size, 0, none⟩ 1 1 [.slice (some ⟨g, 0, none⟩) (xs.length + 40) capN] rfl rfl (cell_one_new _ _ _) (by simp [Value.oneCell']) (by unfold maxLen; omega) (by omega) hsz ?_; intro v' w2 hown' hgrow _h hat; clear _h; obtain ⟨g2, cap2, rfl, -⟩ := own_lit2 hown' (by omega); obtain ⟨s1, s2, s3, s4, s5⟩ := hclH.out _ _ hown' hgrow hat; have s3 := Hid.mk s3; have s4 := Hid.mk s4; have s5 := Hid.mk s5; clear hgrow hat hown')
          go_ret
          exact ⟨g, _, _, rfl, s3.out, s4.out, s5.out⟩

end Go.Proofs.YthnmjafoplfikaaGreatDoor
