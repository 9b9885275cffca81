import Derived.Test.YthnmjafoplfikaaGreatDoorTurnRmR
namespace Go.Proofs.YthnmjafoplfikaaGreatDoor
open Go.RowKit

theorem infoClauses : (Tryz.prog.info? 80).map (fun i => (i.zero, i.size, i.bytes)) = some (some (.agg #[.int .i64 0, .bool false, .int .i64 0, .int .i64 0, .int .i64 0, .int .i64 0, .slice none 0 0, .int .i64 0, .int .i64 0, .int .i64 0, .int .i64 0, .slice none 0 0]), 12, 128) := by kernel_rfl
theorem infoClauses2 : (Tryz.prog.info? 76).map (fun i => (i.zero, i.size, i.bytes)) = some (some (.slice none 0 0), 1, 24) := by kernel_rfl
set_option maxRecDepth 100000 in
set_option maxHeartbeats 4000000 in
theorem clauses_rm (R lo N : Nat) (K : Nat → Value) (V : Nat → List Value) (xs : List (Cl)) (a : Option Addr) (cap : Nat) (W : World) (hx : xs.length ≤ 1000000) (hxc : cC xs ≤ 1000000) (hN : N + cC xs ≤ 1000000000) (hR : RmAt W R lo K V N) (hrow : RowR eC W (fun b => b < lo) xs a) :
    Calls Tryz.prog 84 #[.pointer (some ⟨R, 0, none⟩), .slice a xs.length cap] W (RmC eC R lo K V (N + cC xs + 1) 40 xs W) := by
  obtain ⟨i0, hi, hz0, hz1, hz2⟩ := info_parts infoClauses
  obtain ⟨j0, hj, hy0, hy1, hy2⟩ := info_parts infoClauses2
  have hT : (80 : TypeId) ≠ 55 ∧ ∀ j, j < 21 → (80 : TypeId) ≠ rmT j := by decide
  have hst : ∃ (k : Nat) (K1 : Nat → Value) (V1 : Nat → List Value), k ≤ xs.length ∧ (Value.int .i64 0) = .int .i64 (k : Int) ∧ RmAt (W.alloc (.cells #[] 80)) R lo K1 V1 (N + cC (xs.take k)) ∧ RmStep R K V K1 V1 W (W.alloc (.cells #[] 80)) ∧ GM eC 80 W.heap.size R K1 V1 (W.alloc (.cells #[] 80)) (.slice (some ⟨W.heap.size, 0, none⟩) 0 0) (xs.take k) 0 [] := ⟨0, K, V, Nat.zero_le _, rfl, hR.new (bel_alloc _ _), (RmStep.refl R K V W).after (gr_alloc _ _) (fun _ e => by cases e), gm_start eC 80 hR⟩
  go_enter Tryz.func84, Tryz.ntmps84
  go_wp2
  go_loopw [5, 6] (fun v x wr => ∃ (k : Nat) (K1 : Nat → Value) (V1 : Nat → List Value), k ≤ xs.length ∧ x = .int .i64 (k : Int) ∧ RmAt wr R lo K1 V1 (N + cC (xs.take k)) ∧ RmStep R K V K1 V1 W wr ∧ GM eC 80 W.heap.size R K1 V1 wr v (xs.take k) 0 []) (fun _ x _ => xs.length - (intOf x).toNat)
  case atStart => exact hst
  case round =>
    clear hst
    obtain ⟨k, K1, V1, hk, rfl, hRr, hs, hG⟩ := hrel
    by_cases hlt : k < xs.length
    · have hlt' : (k : Int) < (xs.length : Int) := by omega
      have hj0 : (0 : Int) ≤ (k : Int) := by omega
      obtain ⟨ga, oa, rfl⟩ : ∃ ga oa, a = some ⟨ga, oa, none⟩ := by
        rcases hrow with h0 | ⟨ga, oa, -, h1, -⟩
        · rw [h0] at hlt; simp at hlt
        · exact ⟨ga, oa, h1⟩
      obtain ⟨cx, hcl, hga, hE1, hcc⟩ := hrow.item hlt
      have htk : Hid (xs.take (k + 1) = xs.take k ++ [xs[k]]) := ⟨List.take_succ_eq_append_getElem hlt⟩
      have hyl : (xs.take k).length ≤ 1000000 := by rw [List.length_take]; omega
      have hwt : cC (xs.take (k + 1)) ≤ cC xs := cC_take xs (k + 1)
      rw [htk.out, cC_snoc] at hwt
      have hym : xs[k] ∈ xs := List.getElem_mem hlt
      have hBl : Below lo W wr := RmStep.below hR hs
      have hle : lo ≤ wr.heap.size := by have := hRr.lt; have := hRr.low; omega
      generalize xs[k] = y at *
      generalize xs.take k = ys at *
      obtain ⟨a1, c1, a2, c2, rfl, hRg, hRq, hFo, hFo2⟩ := hE1
      have hFoD : FoAt wr.drew (fun b => b < lo) y.guard.args a1 := FoAt.fr (bel_drew wr).size (fun b hb _ => (bel_drew wr).block b (Nat.lt_of_lt_of_le hb hle)) _ _ (FoAt.fr hBl.size (fun b hb _ => hBl.block b hb) _ _ hFo)
      have hSs : Hid (∀ X, Below lo W X → X.cell? ⟨ga, oa + k * 12, none⟩ = some (.int .i64 (y.pri)) ∧ X.cell? ⟨ga, oa + k * 12 + 1, none⟩ = some (.bool y.guarded) ∧ X.cell? ⟨ga, oa + k * 12 + 2, none⟩ = some (.int .i64 (y.guard.op)) ∧ X.cell? ⟨ga, oa + k * 12 + 3, none⟩ = some (.int .i64 (y.guard.num)) ∧ X.cell? ⟨ga, oa + k * 12 + 4, none⟩ = some (.int .i64 (y.guard.den)) ∧ X.cell? ⟨ga, oa + k * 12 + 5, none⟩ = some (.int .i64 (y.guard.mode)) ∧ X.cell? ⟨ga, oa + k * 12 + 6, none⟩ = some (.slice a1 y.guard.args.len c1) ∧ X.cell? ⟨ga, oa + k * 12 + 7, none⟩ = some (.int .i64 (y.body.op)) ∧ X.cell? ⟨ga, oa + k * 12 + 8, none⟩ = some (.int .i64 (y.body.num)) ∧ X.cell? ⟨ga, oa + k * 12 + 9, none⟩ = some (.int .i64 (y.body.den)) ∧ X.cell? ⟨ga, oa + k * 12 + 10, none⟩ = some (.int .i64 (y.body.mode)) ∧ X.cell? ⟨ga, oa + k * 12 + 11, none⟩ = some (.slice a2 y.body.args.len c2)) := ⟨fun X hX => ⟨(bel_cell hX hga (oa + k * 12 + 0)).trans (hcc 0 (by decide)), (bel_cell hX hga (oa + k * 12 + 1)).trans (hcc 1 (by decide)), (bel_cell hX hga (oa + k * 12 + 2)).trans (hcc 2 (by decide)), (bel_cell hX hga (oa + k * 12 + 3)).trans (hcc 3 (by decide)), (bel_cell hX hga (oa + k * 12 + 4)).trans (hcc 4 (by decide)), (bel_cell hX hga (oa + k * 12 + 5)).trans (hcc 5 (by decide)), (bel_cell hX hga (oa + k * 12 + 6)).trans (hcc 6 (by decide)), (bel_cell hX hga (oa + k * 12 + 7)).trans (hcc 7 (by decide)), (bel_cell hX hga (oa + k * 12 + 8)).trans (hcc 8 (by decide)), (bel_cell hX hga (oa + k * 12 + 9)).trans (hcc 9 (by decide)), (bel_cell hX hga (oa + k * 12 + 10)).trans (hcc 10 (by decide)), (bel_cell hX hga (oa + k * 12 + 11)).trans (hcc 11 (by decide))⟩⟩
      have hbD := bel_drew wr
      have hRD := hRr.new hbD
      have hGD := hG.new hbD
      have hsD := hs.after (gr_drew1 wr) (fun _ e => by cases e)
      have hBD : Below lo W wr.drew := hBl.trans (hbD.mono hle)
      have hS0 := hSs.out _ hBD
      have hlv := Hid.mk (fun (g : Nat) e => hG.lt (g := g) e)
      have tok0 : True := trivial
      have tok1 : True := trivial
      clear hcc hcl
      go_wp2_with fail
      go_region_held_law (fun X => X.cell? ⟨ga, oa + k * 12, none⟩ = some (.int .i64 (y.pri)) ∧ X.cell? ⟨ga, oa + k * 12 + 1, none⟩ = some (.bool y.guarded) ∧ X.cell? ⟨ga, oa + k * 12 + 2, none⟩ = some (.int .i64 (y.guard.op)) ∧ X.cell? ⟨ga, oa + k * 12 + 3, none⟩ = some (.int .i64 (y.guard.num)) ∧ X.cell? ⟨ga, oa + k * 12 + 4, none⟩ = some (.int .i64 (y.guard.den)) ∧ X.cell? ⟨ga, oa + k * 12 + 5, none⟩ = some (.int .i64 (y.guard.mode)) ∧ X.cell? ⟨ga, oa + k * 12 + 6, none⟩ = some (.slice a1 y.guard.args.len c1) ∧ X.cell? ⟨ga, oa + k * 12 + 7, none⟩ = some (.int .i64 (y.body.op)) ∧ X.cell? ⟨ga, oa + k * 12 + 8, none⟩ = some (.int .i64 (y.body.num)) ∧ X.cell? ⟨ga, oa + k * 12 + 9, none⟩ = some (.int .i64 (y.body.den)) ∧ X.cell? ⟨ga, oa + k * 12 + 10, none⟩ = some (.int .i64 (y.body.mode)) ∧ X.cell? ⟨ga, oa + k * 12 + 11, none⟩ = some (.slice a2 y.body.args.len c2)) (with_reducible assumption)
        (first
          | (go_at_call 66; have _u := tok0; clear tok0; refine (expr_rm y.guard R lo (N + cC ys) K1 V1 a1 c1 _ (by omega) (by omega) hRD hFoD).mono ?_; rintro e w3 ⟨g3, K2, V2, rfl, hR3, hs3, hFo3⟩; have hB3 : Below lo W w3 := RmStep.below hR (hsD.trans hs3); have hS3a := hSs.out _ hB3; have hFo3b : FoAt w3 (fun b => b < lo) y.body.args a2 := FoAt.fr hB3.size (fun b hb _ => hB3.block b hb) _ _ hFo2)
          | (go_at_call 66; have _u := tok1; clear tok1; refine (expr_rm y.body R lo (N + cC ys + cNf y.guard.args + 1) K2 V2 a2 c2 _ (by omega) (by omega) hR3 hFo3b).mono ?_; rintro e w5 ⟨g, K', V', rfl, hR5, hs5, hFo5⟩; have hG3 := (hGD.room hRD hT hs3).room hR3 hT hs5; have hsA := (hsD.trans hs3).trans hs5; have hbA := bel_alloc w5 (.cells #[.int .i64 (y.pri), .bool y.guarded, .int .i64 (y.guard.op), .int .i64 (y.guard.num), .int .i64 (y.guard.den), .int .i64 (y.guard.mode), .slice (some ⟨g3, 0, none⟩) y.guard.args.len (y.guard.args.len + 8), .int .i64 (y.body.op), .int .i64 (y.body.num), .int .i64 (y.body.den), .int .i64 (y.body.mode), .slice (some ⟨g, 0, none⟩) y.body.args.len (y.body.args.len + 8)] 80); have hRA := hR5.new hbA; have hGA := hG3.new hbA; obtain ⟨cs, ho, hE⟩ := hGA.ex; simp only [List.append_nil, Nat.add_zero] at ho; have hsz : W.heap.size ≤ (w5.alloc (.cells #[.int .i64 (y.pri), .bool y.guarded, .int .i64 (y.guard.op), .int .i64 (y.guard.num), .int .i64 (y.guard.den), .int .i64 (y.guard.mode), .slice (some ⟨g3, 0, none⟩) y.guard.args.len (y.guard.args.len + 8), .int .i64 (y.body.op), .int .i64 (y.body.num), .int .i64 (y.body.den), .int .i64 (y.body.mode), .slice (some ⟨g, 0, none⟩) y.body.args.len (y.body.args.len + 8)] 80)).heap.size := Nat.le_trans hsA.fm.size hbA.size; have hleW : lo ≤ W.heap.size := (by have := hR.lt; have := hR.low; omega); have hB3 : Below lo W w5 := RmStep.below hR hsA; have hle3 : lo ≤ w5.heap.size := Nat.le_trans hleW hsA.fm.size; have hS3 := hSs.out _ hB3; have hBA : Below lo W (w5.alloc (.cells #[.int .i64 (y.pri), .bool y.guarded, .int .i64 (y.guard.op), .int .i64 (y.guard.num), .int .i64 (y.guard.den), .int .i64 (y.guard.mode), .slice (some ⟨g3, 0, none⟩) y.guard.args.len (y.guard.args.len + 8), .int .i64 (y.body.op), .int .i64 (y.body.num), .int .i64 (y.body.den), .int .i64 (y.body.mode), .slice (some ⟨g, 0, none⟩) y.body.args.len (y.body.args.len + 8)] 80)) := hB3.alloc hle3 _; have hleA : lo ≤ (w5.alloc (.cells #[.int .i64 (y.pri), .bool y.guarded, .int .i64 (y.guard.op), .int .i64 (y.guard.num), .int .i64 (y.guard.den), .int .i64 (y.guard.mode), .slice (some ⟨g3, 0, none⟩) y.guard.args.len (y.guard.args.len + 8), .int .i64 (y.body.op), .int .i64 (y.body.num), .int .i64 (y.body.den), .int .i64 (y.body.mode), .slice (some ⟨g, 0, none⟩) y.body.args.len (y.body.args.len + 8)] 80)).heap.size := Nat.le_trans hle3 hbA.size; have hSA := hSs.out _ hBA; have hFa : FoAt w5 (SnR wr.heap.size R K' w5) y.guard.args (some ⟨g3, 0, none⟩) := FoAt.mo (fun b _ hb => sn_step hb hs5) _ _ (FoAt.fr hs5.fm.size (fun b hb hlt => hs5.fm.block b hlt hb.2.2.1 hb.2.2.2) _ _ hFo3); have hFb : FoAt w5 (SnR wr.heap.size R K' w5) y.body.args (some ⟨g, 0, none⟩) := FoAt.mo (fun b _ hb => ⟨Nat.le_trans hs3.fm.size hb.1, hb.2⟩) _ _ hFo5; have hxE : Hid (eC.E (w5.alloc (.cells #[.int .i64 (y.pri), .bool y.guarded, .int .i64 (y.guard.op), .int .i64 (y.guard.num), .int .i64 (y.guard.den), .int .i64 (y.guard.mode), .slice (some ⟨g3, 0, none⟩) y.guard.args.len (y.guard.args.len + 8), .int .i64 (y.body.op), .int .i64 (y.body.num), .int .i64 (y.body.den), .int .i64 (y.body.mode), .slice (some ⟨g, 0, none⟩) y.body.args.len (y.body.args.len + 8)] 80)) (fun b => wr.heap.size ≤ b ∧ b < (w5.alloc (.cells #[.int .i64 (y.pri), .bool y.guarded, .int .i64 (y.guard.op), .int .i64 (y.guard.num), .int .i64 (y.guard.den), .int .i64 (y.guard.mode), .slice (some ⟨g3, 0, none⟩) y.guard.args.len (y.guard.args.len + 8), .int .i64 (y.body.op), .int .i64 (y.body.num), .int .i64 (y.body.den), .int .i64 (y.body.mode), .slice (some ⟨g, 0, none⟩) y.body.args.len (y.body.args.len + 8)] 80)).heap.size ∧ b ≠ R ∧ ∀ i, i < 21 → (K' i).ownBlock ≠ some b) y [.int .i64 (y.pri), .bool y.guarded, .int .i64 (y.guard.op), .int .i64 (y.guard.num), .int .i64 (y.guard.den), .int .i64 (y.guard.mode), .slice (some ⟨g3, 0, none⟩) y.guard.args.len (y.guard.args.len + 8), .int .i64 (y.body.op), .int .i64 (y.body.num), .int .i64 (y.body.den), .int .i64 (y.body.mode), .slice (some ⟨g, 0, none⟩) y.body.args.len (y.body.args.len + 8)]) := ⟨⟨_, _, _, _, rfl, hRg, hRq, FoAt.mo (fun b _ hb => ⟨hb.1, Nat.lt_of_lt_of_le hb.2.1 hbA.size, hb.2.2⟩) _ _ (FoAt.fr hbA.size (fun b _ hlt => hbA.block b hlt) _ _ hFa), FoAt.mo (fun b _ hb => ⟨hb.1, Nat.lt_of_lt_of_le hb.2.1 hbA.size, hb.2.2⟩) _ _ (FoAt.fr hbA.size (fun b _ hlt => hbA.block b hlt) _ _ hFb)⟩⟩)
          | (refine step_append_rm (P := Tryz.prog) _ rfl _ _ 76 rfl W.heap.size 80 i0 _ 12 128 Tryz.underlying76 hi hz0 hz1 hz2 rfl (by decide) _ ys.length cs rfl ho ⟨w5.heap.size, 0, none⟩ 1 1 [.int .i64 (y.pri), .bool y.guarded, .int .i64 (y.guard.op), .int .i64 (y.guard.num), .int .i64 (y.guard.den), .int .i64 (y.guard.mode), .slice (some ⟨g3, 0, none⟩) y.guard.args.len (y.guard.args.len + 8), .int .i64 (y.body.op), .int .i64 (y.body.num), .int .i64 (y.body.den), .int .i64 (y.body.mode), .slice (some ⟨g, 0, none⟩) y.body.args.len (y.body.args.len + 8)] rfl rfl (lit_at w5 _ _) (by simp [Value.oneCell']) (by unfold maxLen; omega) (by omega) hsz ?_; intro v' w4 hown' hgrow hat; have hS4 := hSs.out _ (hBA.grown hgrow hleA (fun j hj => Nat.le_trans hleW (hlv.out j hj).1))))
      go_wp2
      go_roundw
      case rel =>
        have hgm := GM.step (n1 := wr.heap.size) hRA hT ho hE hGA.vs (x := y) hxE.out hs.fm.size (fun g e => (hlv.out g e).2) hgrow hat hown'
        refine ⟨k + 1, K', V', by omega, by go_num, ?_, (hsA.after (gr_alloc _ _) (fun _ e => by cases e)).after hgrow (fun g e => (hlv.out g e).1), by rw [htk.out]; exact hgm.1⟩
        have h := hgm.2
        rw [htk.out, cC_snoc]
        exact h.mono (by omega)
      case measure => simp [intOf]; omega
    · obtain rfl : k = xs.length := by omega
      rw [List.take_length] at hG hRr
      clear hrow
      go_wp2
      go_loopw [5, 7] (fun v x wr => ∃ k : Nat, k ≤ 20 ∧ x = .int .i64 ((2 * k : Nat) : Int) ∧ RmAt wr R lo K1 V1 (N + cC xs) ∧ RmStep R K V K1 V1 W wr ∧ GM eC 80 W.heap.size R K1 V1 wr v xs (2 * k) (mks 15 (2 * k))) (fun _ x _ => (41 - intOf x).toNat)
      case atStart => exact ⟨0, by omega, rfl, hRr, hs, hG⟩
      case round =>
        clear hRr hs hG
        obtain ⟨k, hk, rfl, hRr, hs, hG⟩ := hrel
        by_cases hk2 : k < 20
        · have hkk : ((2 * k : Nat) : Int) < 40 := by omega
          have hbA := bel_alloc wr (.cells #[.int .i64 (-7701), .bool false, .int .i64 (0), .int .i64 (0), .int .i64 (0), .int .i64 (0), .slice none 0 0, .int .i64 (0), .int .i64 (0), .int .i64 (0), .int .i64 (0), .slice none 0 0, .int .i64 (-7702), .bool false, .int .i64 (0), .int .i64 (0), .int .i64 (0), .int .i64 (0), .slice none 0 0, .int .i64 (0), .int .i64 (0), .int .i64 (0), .int .i64 (0), .slice none 0 0] 80)
          have hRA := hRr.new hbA
          have hGA := hG.new hbA
          have hlv := fun (g : Nat) e => hG.lt (g := g) e
          obtain ⟨cs, ho, hE⟩ := hGA.ex
          have hsz : W.heap.size ≤ (wr.alloc (.cells #[.int .i64 (-7701), .bool false, .int .i64 (0), .int .i64 (0), .int .i64 (0), .int .i64 (0), .slice none 0 0, .int .i64 (0), .int .i64 (0), .int .i64 (0), .int .i64 (0), .slice none 0 0, .int .i64 (-7702), .bool false, .int .i64 (0), .int .i64 (0), .int .i64 (0), .int .i64 (0), .slice none 0 0, .int .i64 (0), .int .i64 (0), .int .i64 (0), .int .i64 (0), .slice none 0 0] 80)).heap.size := Nat.le_trans hs.fm.size hbA.size
          go_wp2_with (at_builtin; refine wpList_append_own_at (P := Tryz.prog) _ rfl _ _ 76 rfl W.heap.size 80 i0 _ 12 128 Tryz.underlying76 hi hz0 hz1 hz2 rfl (by decide) _ (xs.length + 2 * k) (cs ++ mks 15 (2 * k)) rfl ho ⟨wr.heap.size, 0, none⟩ 2 2 [.int .i64 (-7701), .bool false, .int .i64 (0), .int .i64 (0), .int .i64 (0), .int .i64 (0), .slice none 0 0, .int .i64 (0), .int .i64 (0), .int .i64 (0), .int .i64 (0), .slice none 0 0, .int .i64 (-7702), .bool false, .int .i64 (0), .int .i64 (0), .int .i64 (0), .int .i64 (0), .slice none 0 0, .int .i64 (0), .int .i64 (0), .int .i64 (0), .int .i64 (0), .slice none 0 0] rfl rfl (lit_at wr _ _) (by simp [Value.oneCell']) (by unfold maxLen; omega) (by omega) hsz ?_; intro v' w2 hown' hgrow _h hat; clear _h)
          go_roundw
          case rel =>
            have hgm := GM.marks (k := 2) hRA hT ho hE hGA.vs hgrow hat hown'
            exact ⟨k + 1, by omega, by go_num, hgm.2, (hs.after (gr_alloc _ _) (fun _ e => by cases e)).after hgrow (fun g e => (hlv g e).1), by rw [show 2 * (k + 1) = 2 * k + 2 by omega, mks_two _ _ (by omega)]; exact hgm.1⟩
          case measure => simp [intOf]; omega
        · obtain rfl : k = 20 := by omega
          have hG : GM eC 80 W.heap.size R K1 V1 wr _ xs 40 (mks 15 40) := hG
          obtain ⟨cs, ho, hE⟩ := hG.ex
          obtain ⟨g, capN, rfl, hcN⟩ := own_lit2 ho (by omega)
          obtain ⟨ka, kc, hK⟩ := own_shape (hRr.own 15 (by decide))
          have q1 := (hRr.cell (j := 15) (by decide)).1
          have hVl := hRr.few 15 (by decide)
          have hbA := bel_alloc wr (.cells #[.slice (some ⟨g, 0, none⟩) (xs.length + 40) capN] 76)
          have hRA := hRr.new hbA
          have hoA := hRA.own 15 (by decide)
          have hsz : lo ≤ (wr.alloc (.cells #[.slice (some ⟨g, 0, none⟩) (xs.length + 40) capN] 76)).heap.size := by have := hRA.lt; have := hRA.low; omega
          have hcl := fun v' w2 h1 h2 h3 => rm_close (D := eC) (j := 15) (v' := v') (w2 := w2) (o := .cells #[.slice (some ⟨g, 0, none⟩) (xs.length + 40) capN] 76) (by decide) (by decide) rfl hx hRr hs hG h1 h2 h3
          rw [hK] at q1 hoA hcl
          have hclH := Hid.mk hcl
          have hN2 : (V1 15).length ≤ 2000000000 := by omega
          have hle : ((xs.length : Nat) : Int) ≤ (xs.length : Int) + 40 := by omega
          have hle2 : (xs.length : Int) + 40 ≤ (capN : Int) := by omega
          have hle0 : (0 : Int) ≤ (xs.length : Int) := by omega
          clear hcl ho hE hG hVl hN hK hR
          go_wp2_with (at_builtin; refine wpList_append_own_at (P := Tryz.prog) _ rfl _ _ 48 rfl lo 76 j0 _ 1 24 Tryz.underlying48 hj hy0 hy1 hy2 rfl (by decide) _ (V1 15).length (V1 15) rfl hoA ⟨wr.heap.size, 0, none⟩ 1 1 [.slice (some ⟨g, 0, none⟩) (xs.length + 40) capN] rfl rfl (cell_one_new _ _ _) (by simp [Value.oneCell']) (by unfold maxLen; omega) (by omega) hsz ?_; intro v' w2 hown' hgrow _h hat; clear _h; obtain ⟨g2, cap2, rfl, -⟩ := own_lit2 hown' (by omega); obtain ⟨s1, s2, s3, s4, s5⟩ := hclH.out _ _ hown' hgrow hat; have s3 := Hid.mk s3; have s4 := Hid.mk s4; have s5 := Hid.mk s5; clear hgrow hat hown')
          go_ret
          exact ⟨g, _, _, rfl, s3.out, s4.out, s5.out⟩

end Go.Proofs.YthnmjafoplfikaaGreatDoor
