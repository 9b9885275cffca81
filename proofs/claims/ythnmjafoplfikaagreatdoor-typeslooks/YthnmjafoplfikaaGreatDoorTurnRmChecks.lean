import Derived.Test.YthnmjafoplfikaaGreatDoorTurnRmR
namespace Go.Proofs.YthnmjafoplfikaaGreatDoor
open Go.RowKit

theorem infoChecks : (Tryz.prog.info? 75).map (fun i => (i.zero, i.size, i.bytes)) = some (some (.agg #[.string ⟨#[]⟩, .bool false, .int .i64 0, .int .i64 0, .int .i64 0, .int .i64 0, .int .i64 0, .slice none 0 0, .string ⟨#[]⟩]), 9, 104) := by kernel_rfl
theorem infoChecks2 : (Tryz.prog.info? 26).map (fun i => (i.zero, i.size, i.bytes)) = some (some (.slice none 0 0), 1, 24) := by kernel_rfl
set_option maxRecDepth 100000 in
set_option maxHeartbeats 4000000 in
theorem checks_rm (R lo N : Nat) (K : Nat → Value) (V : Nat → List Value) (xs : List (Ck)) (a : Option Addr) (cap : Nat) (W : World) (hx : xs.length ≤ 1000000) (hxc : cK xs ≤ 1000000) (hN : N + cK xs ≤ 1000000000) (hR : RmAt W R lo K V N) (hrow : RowR eK W (fun b => b < lo) xs a) :
    Calls Tryz.prog 22 #[.pointer (some ⟨R, 0, none⟩), .slice a xs.length cap] W (RmC eK R lo K V (N + cK xs + 1) 40 xs W) := by
  obtain ⟨i0, hi, hz0, hz1, hz2⟩ := info_parts infoChecks
  obtain ⟨j0, hj, hy0, hy1, hy2⟩ := info_parts infoChecks2
  have hT : (75 : TypeId) ≠ 55 ∧ ∀ j, j < 21 → (75 : TypeId) ≠ rmT j := by decide
  have hst : ∃ (k : Nat) (K1 : Nat → Value) (V1 : Nat → List Value), k ≤ xs.length ∧ (Value.int .i64 0) = .int .i64 (k : Int) ∧ RmAt (W.alloc (.cells #[] 75)) R lo K1 V1 (N + cK (xs.take k)) ∧ RmStep R K V K1 V1 W (W.alloc (.cells #[] 75)) ∧ GM eK 75 W.heap.size R K1 V1 (W.alloc (.cells #[] 75)) (.slice (some ⟨W.heap.size, 0, none⟩) 0 0) (xs.take k) 0 [] := ⟨0, K, V, Nat.zero_le _, rfl, hR.new (bel_alloc _ _), (RmStep.refl R K V W).after (gr_alloc _ _) (fun _ e => by cases e), gm_start eK 75 hR⟩
  go_enter Tryz.func22, Tryz.ntmps22
  go_wp2
  go_loopw [5, 6] (fun v x wr => ∃ (k : Nat) (K1 : Nat → Value) (V1 : Nat → List Value), k ≤ xs.length ∧ x = .int .i64 (k : Int) ∧ RmAt wr R lo K1 V1 (N + cK (xs.take k)) ∧ RmStep R K V K1 V1 W wr ∧ GM eK 75 W.heap.size R K1 V1 wr v (xs.take k) 0 []) (fun _ x _ => xs.length - (intOf x).toNat)
  case atStart => exact hst
  case round =>
    clear hst
    obtain ⟨k, K1, V1, hk, rfl, hRr, hs, hG⟩ := hrel
    by_cases hlt : k < xs.length
    · have hlt' : (k : Int) < (xs.length : Int) := by omega
      have hj0 : (0 : Int) ≤ (k : Int) := by omega
      obtain ⟨ga, oa, rfl⟩ : ∃ ga oa, a = some ⟨ga, oa, none⟩ := by
        rcases hrow with h0 | ⟨ga, oa, -, h1, -⟩
        · rw [h0] at hlt; simp at hlt
        · exact ⟨ga, oa, h1⟩
      obtain ⟨cx, hcl, hga, hE1, hcc⟩ := hrow.item hlt
      have htk : Hid (xs.take (k + 1) = xs.take k ++ [xs[k]]) := ⟨List.take_succ_eq_append_getElem hlt⟩
      have hyl : (xs.take k).length ≤ 1000000 := by rw [List.length_take]; omega
      have hwt : cK (xs.take (k + 1)) ≤ cK xs := cK_take xs (k + 1)
      rw [htk.out, cK_snoc] at hwt
      have hym : xs[k] ∈ xs := List.getElem_mem hlt
      have hBl : Below lo W wr := RmStep.below hR hs
      have hle : lo ≤ wr.heap.size := by have := hRr.lt; have := hRr.low; omega
      generalize xs[k] = y at *
      generalize xs.take k = ys at *
      obtain ⟨a1, c1, rfl, hRg, hRq, hFo⟩ := hE1
      have hFoD : FoAt wr.drew (fun b => b < lo) y.when_.args a1 := FoAt.fr (bel_drew wr).size (fun b hb _ => (bel_drew wr).block b (Nat.lt_of_lt_of_le hb hle)) _ _ (FoAt.fr hBl.size (fun b hb _ => hBl.block b hb) _ _ hFo)
      have hSs : Hid (∀ X, Below lo W X → X.cell? ⟨ga, oa + k * 9, none⟩ = some (.string ⟨y.name.toArray⟩) ∧ X.cell? ⟨ga, oa + k * 9 + 1, none⟩ = some (.bool y.hard) ∧ X.cell? ⟨ga, oa + k * 9 + 2, none⟩ = some (.int .i64 (y.group)) ∧ X.cell? ⟨ga, oa + k * 9 + 3, none⟩ = some (.int .i64 (y.when_.op)) ∧ X.cell? ⟨ga, oa + k * 9 + 4, none⟩ = some (.int .i64 (y.when_.num)) ∧ X.cell? ⟨ga, oa + k * 9 + 5, none⟩ = some (.int .i64 (y.when_.den)) ∧ X.cell? ⟨ga, oa + k * 9 + 6, none⟩ = some (.int .i64 (y.when_.mode)) ∧ X.cell? ⟨ga, oa + k * 9 + 7, none⟩ = some (.slice a1 y.when_.args.len c1) ∧ X.cell? ⟨ga, oa + k * 9 + 8, none⟩ = some (.string ⟨y.text.toArray⟩)) := ⟨fun X hX => ⟨(bel_cell hX hga (oa + k * 9 + 0)).trans (hcc 0 (by decide)), (bel_cell hX hga (oa + k * 9 + 1)).trans (hcc 1 (by decide)), (bel_cell hX hga (oa + k * 9 + 2)).trans (hcc 2 (by decide)), (bel_cell hX hga (oa + k * 9 + 3)).trans (hcc 3 (by decide)), (bel_cell hX hga (oa + k * 9 + 4)).trans (hcc 4 (by decide)), (bel_cell hX hga (oa + k * 9 + 5)).trans (hcc 5 (by decide)), (bel_cell hX hga (oa + k * 9 + 6)).trans (hcc 6 (by decide)), (bel_cell hX hga (oa + k * 9 + 7)).trans (hcc 7 (by decide)), (bel_cell hX hga (oa + k * 9 + 8)).trans (hcc 8 (by decide))⟩⟩
      have hbD := bel_drew wr
      have hRD := hRr.new hbD
      have hGD := hG.new hbD
      have hsD := hs.after (gr_drew1 wr) (fun _ e => by cases e)
      have hBD : Below lo W wr.drew := hBl.trans (hbD.mono hle)
      have hS0 := hSs.out _ hBD
      have hlv := Hid.mk (fun (g : Nat) e => hG.lt (g := g) e)

      clear hcc hcl
      go_wp2_with fail
      go_region_held_law (fun X => X.cell? ⟨ga, oa + k * 9, none⟩ = some (.string ⟨y.name.toArray⟩) ∧ X.cell? ⟨ga, oa + k * 9 + 1, none⟩ = some (.bool y.hard) ∧ X.cell? ⟨ga, oa + k * 9 + 2, none⟩ = some (.int .i64 (y.group)) ∧ X.cell? ⟨ga, oa + k * 9 + 3, none⟩ = some (.int .i64 (y.when_.op)) ∧ X.cell? ⟨ga, oa + k * 9 + 4, none⟩ = some (.int .i64 (y.when_.num)) ∧ X.cell? ⟨ga, oa + k * 9 + 5, none⟩ = some (.int .i64 (y.when_.den)) ∧ X.cell? ⟨ga, oa + k * 9 + 6, none⟩ = some (.int .i64 (y.when_.mode)) ∧ X.cell? ⟨ga, oa + k * 9 + 7, none⟩ = some (.slice a1 y.when_.args.len c1) ∧ X.cell? ⟨ga, oa + k * 9 + 8, none⟩ = some (.string ⟨y.text.toArray⟩)) (with_reducible assumption)
        (first
          | (go_at_call 66; refine (expr_rm y.when_ R lo (N + cK ys) K1 V1 a1 c1 _ (by omega) (by omega) hRD hFoD).mono ?_; rintro e w3 ⟨g, K', V', rfl, hR3, hs3, hFo3⟩; have hG3 := hGD.room hRD hT hs3; have hsA := hsD.trans hs3; have hbA := bel_alloc w3 (.cells #[.string ⟨y.name.toArray⟩, .bool y.hard, .int .i64 (y.group), .int .i64 (y.when_.op), .int .i64 (y.when_.num), .int .i64 (y.when_.den), .int .i64 (y.when_.mode), .slice (some ⟨g, 0, none⟩) y.when_.args.len (y.when_.args.len + 8), .string ⟨y.text.toArray⟩] 75); have hRA := hR3.new hbA; have hGA := hG3.new hbA; obtain ⟨cs, ho, hE⟩ := hGA.ex; simp only [List.append_nil, Nat.add_zero] at ho; have hsz : W.heap.size ≤ (w3.alloc (.cells #[.string ⟨y.name.toArray⟩, .bool y.hard, .int .i64 (y.group), .int .i64 (y.when_.op), .int .i64 (y.when_.num), .int .i64 (y.when_.den), .int .i64 (y.when_.mode), .slice (some ⟨g, 0, none⟩) y.when_.args.len (y.when_.args.len + 8), .string ⟨y.text.toArray⟩] 75)).heap.size := Nat.le_trans hsA.fm.size hbA.size; have hleW : lo ≤ W.heap.size := (by have := hR.lt; have := hR.low; omega); have hB3 : Below lo W w3 := RmStep.below hR hsA; have hle3 : lo ≤ w3.heap.size := Nat.le_trans hleW hsA.fm.size; have hS3 := hSs.out _ hB3; have hBA : Below lo W (w3.alloc (.cells #[.string ⟨y.name.toArray⟩, .bool y.hard, .int .i64 (y.group), .int .i64 (y.when_.op), .int .i64 (y.when_.num), .int .i64 (y.when_.den), .int .i64 (y.when_.mode), .slice (some ⟨g, 0, none⟩) y.when_.args.len (y.when_.args.len + 8), .string ⟨y.text.toArray⟩] 75)) := hB3.alloc hle3 _; have hleA : lo ≤ (w3.alloc (.cells #[.string ⟨y.name.toArray⟩, .bool y.hard, .int .i64 (y.group), .int .i64 (y.when_.op), .int .i64 (y.when_.num), .int .i64 (y.when_.den), .int .i64 (y.when_.mode), .slice (some ⟨g, 0, none⟩) y.when_.args.len (y.when_.args.len + 8), .string ⟨y.text.toArray⟩] 75)).heap.size := Nat.le_trans hle3 hbA.size; have hSA := hSs.out _ hBA; have hxE : Hid (eK.E (w3.alloc (.cells #[.string ⟨y.name.toArray⟩, .bool y.hard, .int .i64 (y.group), .int .i64 (y.when_.op), .int .i64 (y.when_.num), .int .i64 (y.when_.den), .int .i64 (y.when_.mode), .slice (some ⟨g, 0, none⟩) y.when_.args.len (y.when_.args.len + 8), .string ⟨y.text.toArray⟩] 75)) (fun b => wr.heap.size ≤ b ∧ b < (w3.alloc (.cells #[.string ⟨y.name.toArray⟩, .bool y.hard, .int .i64 (y.group), .int .i64 (y.when_.op), .int .i64 (y.when_.num), .int .i64 (y.when_.den), .int .i64 (y.when_.mode), .slice (some ⟨g, 0, none⟩) y.when_.args.len (y.when_.args.len + 8), .string ⟨y.text.toArray⟩] 75)).heap.size ∧ b ≠ R ∧ ∀ i, i < 21 → (K' i).ownBlock ≠ some b) y [.string ⟨y.name.toArray⟩, .bool y.hard, .int .i64 (y.group), .int .i64 (y.when_.op), .int .i64 (y.when_.num), .int .i64 (y.when_.den), .int .i64 (y.when_.mode), .slice (some ⟨g, 0, none⟩) y.when_.args.len (y.when_.args.len + 8), .string ⟨y.text.toArray⟩]) := ⟨⟨_, _, rfl, hRg, hRq, FoAt.mo (fun b _ hb => ⟨Nat.le_trans hbD.size hb.1, Nat.lt_of_lt_of_le hb.2.1 hbA.size, hb.2.2⟩) _ _ (FoAt.fr hbA.size (fun b _ hlt => hbA.block b hlt) _ _ hFo3)⟩⟩)
          | (refine step_append_rm (P := Tryz.prog) _ rfl _ _ 26 rfl W.heap.size 75 i0 _ 9 104 Tryz.underlying26 hi hz0 hz1 hz2 rfl (by decide) _ ys.length cs rfl ho ⟨w3.heap.size, 0, none⟩ 1 1 [.string ⟨y.name.toArray⟩, .bool y.hard, .int .i64 (y.group), .int .i64 (y.when_.op), .int .i64 (y.when_.num), .int .i64 (y.when_.den), .int .i64 (y.when_.mode), .slice (some ⟨g, 0, none⟩) y.when_.args.len (y.when_.args.len + 8), .string ⟨y.text.toArray⟩] rfl rfl (lit_at w3 _ _) (by simp [Value.oneCell']) (by unfold maxLen; omega) (by omega) hsz ?_; intro v' w4 hown' hgrow hat; have hS4 := hSs.out _ (hBA.grown hgrow hleA (fun j hj => Nat.le_trans hleW (hlv.out j hj).1))))
      go_wp2
      go_roundw
      case rel =>
        have hgm := GM.step (n1 := wr.heap.size) hRA hT ho hE hGA.vs (x := y) hxE.out hs.fm.size (fun g e => (hlv.out g e).2) hgrow hat hown'
        refine ⟨k + 1, K', V', by omega, by go_num, ?_, (hsA.after (gr_alloc _ _) (fun _ e => by cases e)).after hgrow (fun g e => (hlv.out g e).1), by rw [htk.out]; exact hgm.1⟩
        have h := hgm.2
        rw [htk.out, cK_snoc]
        exact h.mono (by omega)
      case measure => simp [intOf]; omega
    · obtain rfl : k = xs.length := by omega
      rw [List.take_length] at hG hRr
      clear hrow
      go_wp2
      go_loopw [5, 7] (fun v x wr => ∃ k : Nat, k ≤ 20 ∧ x = .int .i64 ((2 * k : Nat) : Int) ∧ RmAt wr R lo K1 V1 (N + cK xs) ∧ RmStep R K V K1 V1 W wr ∧ GM eK 75 W.heap.size R K1 V1 wr v xs (2 * k) (mks 17 (2 * k))) (fun _ x _ => (41 - intOf x).toNat)
      case atStart => exact ⟨0, by omega, rfl, hRr, hs, hG⟩
      case round =>
        clear hRr hs hG
        obtain ⟨k, hk, rfl, hRr, hs, hG⟩ := hrel
        by_cases hk2 : k < 20
        · have hkk : ((2 * k : Nat) : Int) < 40 := by omega
          have hbA := bel_alloc wr (.cells #[.string ⟨#[]⟩, .bool false, .int .i64 (-7701), .int .i64 (0), .int .i64 (0), .int .i64 (0), .int .i64 (0), .slice none 0 0, .string ⟨#[]⟩, .string ⟨#[]⟩, .bool false, .int .i64 (-7702), .int .i64 (0), .int .i64 (0), .int .i64 (0), .int .i64 (0), .slice none 0 0, .string ⟨#[]⟩] 75)
          have hRA := hRr.new hbA
          have hGA := hG.new hbA
          have hlv := fun (g : Nat) e => hG.lt (g := g) e
          obtain ⟨cs, ho, hE⟩ := hGA.ex
          have hsz : W.heap.size ≤ (wr.alloc (.cells #[.string ⟨#[]⟩, .bool false, .int .i64 (-7701), .int .i64 (0), .int .i64 (0), .int .i64 (0), .int .i64 (0), .slice none 0 0, .string ⟨#[]⟩, .string ⟨#[]⟩, .bool false, .int .i64 (-7702), .int .i64 (0), .int .i64 (0), .int .i64 (0), .int .i64 (0), .slice none 0 0, .string ⟨#[]⟩] 75)).heap.size := Nat.le_trans hs.fm.size hbA.size
          go_wp2_with (at_builtin; refine wpList_append_own_at (P := Tryz.prog) _ rfl _ _ 26 rfl W.heap.size 75 i0 _ 9 104 Tryz.underlying26 hi hz0 hz1 hz2 rfl (by decide) _ (xs.length + 2 * k) (cs ++ mks 17 (2 * k)) rfl ho ⟨wr.heap.size, 0, none⟩ 2 2 [.string ⟨#[]⟩, .bool false, .int .i64 (-7701), .int .i64 (0), .int .i64 (0), .int .i64 (0), .int .i64 (0), .slice none 0 0, .string ⟨#[]⟩, .string ⟨#[]⟩, .bool false, .int .i64 (-7702), .int .i64 (0), .int .i64 (0), .int .i64 (0), .int .i64 (0), .slice none 0 0, .string ⟨#[]⟩] rfl rfl (lit_at wr _ _) (by simp [Value.oneCell']) (by unfold maxLen; omega) (by omega) hsz ?_; intro v' w2 hown' hgrow _h hat; clear _h)
          go_roundw
          case rel =>
            have hgm := GM.marks (k := 2) hRA hT ho hE hGA.vs hgrow hat hown'
            exact ⟨k + 1, by omega, by go_num, hgm.2, (hs.after (gr_alloc _ _) (fun _ e => by cases e)).after hgrow (fun g e => (hlv g e).1), by rw [show 2 * (k + 1) = 2 * k + 2 by omega, mks_two _ _ (by omega)]; exact hgm.1⟩
          case measure => simp [intOf]; omega
        · obtain rfl : k = 20 := by omega
          have hG : GM eK 75 W.heap.size R K1 V1 wr _ xs 40 (mks 17 40) := hG
          obtain ⟨cs, ho, hE⟩ := hG.ex
          obtain ⟨g, capN, rfl, hcN⟩ := own_lit2 ho (by omega)
          obtain ⟨ka, kc, hK⟩ := own_shape (hRr.own 17 (by decide))
          have q1 := (hRr.cell (j := 17) (by decide)).1
          have hVl := hRr.few 17 (by decide)
          have hbA := bel_alloc wr (.cells #[.slice (some ⟨g, 0, none⟩) (xs.length + 40) capN] 26)
          have hRA := hRr.new hbA
          have hoA := hRA.own 17 (by decide)
          have hsz : lo ≤ (wr.alloc (.cells #[.slice (some ⟨g, 0, none⟩) (xs.length + 40) capN] 26)).heap.size := by have := hRA.lt; have := hRA.low; omega
          have hcl := fun v' w2 h1 h2 h3 => rm_close (D := eK) (j := 17) (v' := v') (w2 := w2) (o := .cells #[.slice (some ⟨g, 0, none⟩) (xs.length + 40) capN] 26) (by decide) (by decide) rfl hx hRr hs hG h1 h2 h3
          rw [hK] at q1 hoA hcl
          have hclH := Hid.mk hcl
          have hN2 : (V1 17).length ≤ 2000000000 := by omega
          have hle : ((xs.length : Nat) : Int) ≤ (xs.length : Int) + 40 := by omega
          have hle2 : (xs.length : Int) + 40 ≤ (capN : Int) := by omega
          have hle0 : (0 : Int) ≤ (xs.length : Int) := by omega
          clear hcl ho hE hG hVl hN hK hR
          go_wp2_with (at_builtin; refine wpList_append_own_at (P := Tryz.prog) _ rfl _ _ 50 rfl lo 26 j0 _ 1 24 Tryz.underlying50 hj hy0 hy1 hy2 rfl (by decide) _ (V1 17).length (V1 17) rfl hoA ⟨wr.heap.size, 0, none⟩ 1 1 [.slice (some ⟨g, 0, none⟩) (xs.length + 40) capN] rfl rfl (cell_one_new _ _ _) (by simp [Value.oneCell']) (by unfold maxLen; omega) (by omega) hsz ?_; intro v' w2 hown' hgrow _h hat; clear _h; obtain ⟨g2, cap2, rfl, -⟩ := own_lit2 hown' (by omega); obtain ⟨s1, s2, s3, s4, s5⟩ := hclH.out _ _ hown' hgrow hat; have s3 := Hid.mk s3; have s4 := Hid.mk s4; have s5 := Hid.mk s5; clear hgrow hat hown')
          go_ret
          exact ⟨g, _, _, rfl, s3.out, s4.out, s5.out⟩

end Go.Proofs.YthnmjafoplfikaaGreatDoor
