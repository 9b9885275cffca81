import Derived.Test.YtjgkjdalnjlefaaJoin54
import Derived.Test.YtjgkjdalnjlefaaJoin52
import Derived.Test.YtjgkjdalnjlefaaPoC
import Derived.Laws.Closers25b
import Derived.Test.YtjgkjdalnjlefaaPoT
namespace Go.Proofs.Ytjgkjdalnjlefaa
open Go.RowKit

theorem infoChecks : (Try.prog.info? 85).map (fun i => (i.zero, i.size, i.bytes)) = some (some (.agg #[.string ⟨#[]⟩, .bool false, .int .i64 0, .int .i64 0, .int .i64 0, .int .i64 0, .int .i64 0, .slice none 0 0, .string ⟨#[]⟩]), 9, 104) := by kernel_rfl
theorem infoChecks2 : (Try.prog.info? 27).map (fun i => (i.zero, i.size, i.bytes)) = some (some (.slice none 0 0), 1, 24) := by kernel_rfl
set_option maxRecDepth 100000 in
set_option maxHeartbeats 4000000 in
theorem checksQ_rm (R lo N : Nat) (K : Nat → Value) (V : Nat → List Value) (xs : List (Ck)) (a : Option Addr) (cap : Nat) (W : World) (hx : xs.length ≤ 1048576) (hxc : cK xs ≤ 1048576) (hN : N + cK xs ≤ 1000000000) (hR : RmAt W R lo K V N) (hrow : RowR eK W (fun b => b < lo) xs a) :
    Calls Try.prog 65 #[.pointer (some ⟨R, 0, none⟩), .slice a xs.length cap] W (RmCQ eK R lo K V (N + cK xs + 1) 40 xs W) := by
  obtain ⟨i0, hi, hz0, hz1, hz2⟩ := info_parts infoChecks
  obtain ⟨j0, hj, hy0, hy1, hy2⟩ := info_parts infoChecks2
  have hT : (85 : TypeId) ≠ 55 ∧ ∀ j, j < 21 → (85 : TypeId) ≠ rmT j := by decide
  have hst : ∃ (k : Nat) (K1 : Nat → Value) (V1 : Nat → List Value), k ≤ xs.length ∧ (Value.int .i64 0) = .int .i64 (k : Int) ∧ RmAt (W.alloc (.cells #[] 85)) R lo K1 V1 (N + cK (xs.take k)) ∧ RmStep R K V K1 V1 W (W.alloc (.cells #[] 85)) ∧ GM eK 85 W.heap.size R K1 V1 (W.alloc (.cells #[] 85)) (.slice (some ⟨W.heap.size, 0, none⟩) 0 0) (xs.take k) 0 [] := ⟨0, K, V, Nat.zero_le _, rfl, hR.new (bel_alloc _ _), (RmStep.refl R K V W).after (gr_alloc _ _) (fun _ e => by cases e), gm_start eK 85 hR⟩
  go_enter Try.func65, Try.ntmps65
  go_wp2
  go_loopw [5, 6] (fun v x wr => ∃ (k : Nat) (K1 : Nat → Value) (V1 : Nat → List Value), k ≤ xs.length ∧ x = .int .i64 (k : Int) ∧ RmAt wr R lo K1 V1 (N + cK (xs.take k)) ∧ RmStep R K V K1 V1 W wr ∧ GM eK 85 W.heap.size R K1 V1 wr v (xs.take k) 0 []) (fun _ x _ => xs.length - (intOf x).toNat)
  case atStart => exact hst
  case round =>
    clear hst
    obtain ⟨k, K1, V1, hk, rfl, hRr, hs, hG⟩ := hrel
    by_cases hlt : k < xs.length
    · have hlt' : (k : Int) < (xs.length : Int) := by omega
      have hj0 : (0 : Int) ≤ (k : Int) := by omega
      obtain ⟨ga, oa, rfl⟩ : ∃ ga oa, a = some ⟨ga, oa, none⟩ := by
        rcases hrow with h0 | ⟨ga, oa, -, h1, -⟩
        · rw [h0] at hlt; simp at hlt
        · exact ⟨ga, oa, h1⟩
      obtain ⟨cx, hcl, hga, hE1, hcc⟩ := hrow.item hlt
      have htk : Hid (xs.take (k + 1) = xs.take k ++ [xs[k]]) := ⟨List.take_succ_eq_append_getElem hlt⟩
      have hyl : (xs.take k).length ≤ 1048576 := by rw [List.length_take]; omega
      have hwt : cK (xs.take (k + 1)) ≤ cK xs := cK_take xs (k + 1)
      rw [htk.out, cK_snoc] at hwt
      have hym : xs[k] ∈ xs := List.getElem_mem hlt
      have hBl : Below lo W wr := RmStep.below hR hs
      have hle : lo ≤ wr.heap.size := by have := hRr.lt; have := hRr.low; omega
      generalize xs[k] = y at *
      generalize xs.take k = ys at *
      obtain ⟨a1, c1, rfl, hRg, hRq, hFo⟩ := hE1
      have hFoD : FoAt wr.drew (fun b => b < lo) y.when_.args a1 := FoAt.fr (bel_drew wr).size (fun b hb _ => (bel_drew wr).block b (Nat.lt_of_lt_of_le hb hle)) _ _ (FoAt.fr hBl.size (fun b hb _ => hBl.block b hb) _ _ hFo)
      have hSs : Hid (∀ X, Below lo W X → X.cell? ⟨ga, oa + k * 9, none⟩ = some (.string ⟨y.name.toArray⟩) ∧ X.cell? ⟨ga, oa + k * 9 + 1, none⟩ = some (.bool y.hard) ∧ X.cell? ⟨ga, oa + k * 9 + 2, none⟩ = some (.int .i64 (y.group)) ∧ X.cell? ⟨ga, oa + k * 9 + 3, none⟩ = some (.int .i64 (y.when_.op)) ∧ X.cell? ⟨ga, oa + k * 9 + 4, none⟩ = some (.int .i64 (y.when_.num)) ∧ X.cell? ⟨ga, oa + k * 9 + 5, none⟩ = some (.int .i64 (y.when_.den)) ∧ X.cell? ⟨ga, oa + k * 9 + 6, none⟩ = some (.int .i64 (y.when_.mode)) ∧ X.cell? ⟨ga, oa + k * 9 + 7, none⟩ = some (.slice a1 y.when_.args.len c1) ∧ X.cell? ⟨ga, oa + k * 9 + 8, none⟩ = some (.string ⟨y.text.toArray⟩)) := ⟨fun X hX => ⟨(bel_cell hX hga (oa + k * 9 + 0)).trans (hcc 0 (by decide)), (bel_cell hX hga (oa + k * 9 + 1)).trans (hcc 1 (by decide)), (bel_cell hX hga (oa + k * 9 + 2)).trans (hcc 2 (by decide)), (bel_cell hX hga (oa + k * 9 + 3)).trans (hcc 3 (by decide)), (bel_cell hX hga (oa + k * 9 + 4)).trans (hcc 4 (by decide)), (bel_cell hX hga (oa + k * 9 + 5)).trans (hcc 5 (by decide)), (bel_cell hX hga (oa + k * 9 + 6)).trans (hcc 6 (by decide)), (bel_cell hX hga (oa + k * 9 + 7)).trans (hcc 7 (by decide)), (bel_cell hX hga (oa + k * 9 + 8)).trans (hcc 8 (by decide))⟩⟩
      have hbD := bel_drew wr
      have hRD := hRr.new hbD
      have hGD := hG.new hbD
      have hsD := hs.after (gr_drew1 wr) (fun _ e => by cases e)
      have hBD : Below lo W wr.drew := hBl.trans (hbD.mono hle)
      have hS0 := hSs.out _ hBD
      have hlv := Hid.mk (fun (g : Nat) e => hG.lt (g := g) e)

      clear hcc hcl
      go_wp2_with fail
      go_region_held_law (fun X => X.cell? ⟨ga, oa + k * 9, none⟩ = some (.string ⟨y.name.toArray⟩) ∧ X.cell? ⟨ga, oa + k * 9 + 1, none⟩ = some (.bool y.hard) ∧ X.cell? ⟨ga, oa + k * 9 + 2, none⟩ = some (.int .i64 (y.group)) ∧ X.cell? ⟨ga, oa + k * 9 + 3, none⟩ = some (.int .i64 (y.when_.op)) ∧ X.cell? ⟨ga, oa + k * 9 + 4, none⟩ = some (.int .i64 (y.when_.num)) ∧ X.cell? ⟨ga, oa + k * 9 + 5, none⟩ = some (.int .i64 (y.when_.den)) ∧ X.cell? ⟨ga, oa + k * 9 + 6, none⟩ = some (.int .i64 (y.when_.mode)) ∧ X.cell? ⟨ga, oa + k * 9 + 7, none⟩ = some (.slice a1 y.when_.args.len c1) ∧ X.cell? ⟨ga, oa + k * 9 + 8, none⟩ = some (.string ⟨y.text.toArray⟩)) (with_reducible assumption)
        (first
          | (go_at_call 88; refine (expr_rm y.when_ R lo (N + cK ys) K1 V1 a1 c1 _ (by omega) (by omega) hRD hFoD).mono ?_; rintro e w3 ⟨g, K', V', rfl, hR3, hs3, hFo3⟩; have hG3 := hGD.room hRD hT hs3; have hsA := hsD.trans hs3; have hbA := bel_alloc w3 (.cells #[.string ⟨y.name.toArray⟩, .bool y.hard, .int .i64 (y.group), .int .i64 (y.when_.op), .int .i64 (y.when_.num), .int .i64 (y.when_.den), .int .i64 (y.when_.mode), .slice (some ⟨g, 0, none⟩) y.when_.args.len (y.when_.args.len + 8), .string ⟨y.text.toArray⟩] 85); have hRA := hR3.new hbA; have hGA := hG3.new hbA; obtain ⟨cs, ho, hE⟩ := hGA.ex; simp only [List.append_nil, Nat.add_zero] at ho; have hsz : W.heap.size ≤ (w3.alloc (.cells #[.string ⟨y.name.toArray⟩, .bool y.hard, .int .i64 (y.group), .int .i64 (y.when_.op), .int .i64 (y.when_.num), .int .i64 (y.when_.den), .int .i64 (y.when_.mode), .slice (some ⟨g, 0, none⟩) y.when_.args.len (y.when_.args.len + 8), .string ⟨y.text.toArray⟩] 85)).heap.size := Nat.le_trans hsA.fm.size hbA.size; have hleW : lo ≤ W.heap.size := (by have := hR.lt; have := hR.low; omega); have hB3 : Below lo W w3 := RmStep.below hR hsA; have hle3 : lo ≤ w3.heap.size := Nat.le_trans hleW hsA.fm.size; have hS3 := hSs.out _ hB3; have hBA : Below lo W (w3.alloc (.cells #[.string ⟨y.name.toArray⟩, .bool y.hard, .int .i64 (y.group), .int .i64 (y.when_.op), .int .i64 (y.when_.num), .int .i64 (y.when_.den), .int .i64 (y.when_.mode), .slice (some ⟨g, 0, none⟩) y.when_.args.len (y.when_.args.len + 8), .string ⟨y.text.toArray⟩] 85)) := hB3.alloc hle3 _; have hleA : lo ≤ (w3.alloc (.cells #[.string ⟨y.name.toArray⟩, .bool y.hard, .int .i64 (y.group), .int .i64 (y.when_.op), .int .i64 (y.when_.num), .int .i64 (y.when_.den), .int .i64 (y.when_.mode), .slice (some ⟨g, 0, none⟩) y.when_.args.len (y.when_.args.len + 8), .string ⟨y.text.toArray⟩] 85)).heap.size := Nat.le_trans hle3 hbA.size; have hSA := hSs.out _ hBA; have hxE : Hid (eK.E (w3.alloc (.cells #[.string ⟨y.name.toArray⟩, .bool y.hard, .int .i64 (y.group), .int .i64 (y.when_.op), .int .i64 (y.when_.num), .int .i64 (y.when_.den), .int .i64 (y.when_.mode), .slice (some ⟨g, 0, none⟩) y.when_.args.len (y.when_.args.len + 8), .string ⟨y.text.toArray⟩] 85)) (fun b => wr.heap.size ≤ b ∧ b < (w3.alloc (.cells #[.string ⟨y.name.toArray⟩, .bool y.hard, .int .i64 (y.group), .int .i64 (y.when_.op), .int .i64 (y.when_.num), .int .i64 (y.when_.den), .int .i64 (y.when_.mode), .slice (some ⟨g, 0, none⟩) y.when_.args.len (y.when_.args.len + 8), .string ⟨y.text.toArray⟩] 85)).heap.size ∧ b ≠ R ∧ ∀ i, i < 21 → (K' i).ownBlock ≠ some b) y [.string ⟨y.name.toArray⟩, .bool y.hard, .int .i64 (y.group), .int .i64 (y.when_.op), .int .i64 (y.when_.num), .int .i64 (y.when_.den), .int .i64 (y.when_.mode), .slice (some ⟨g, 0, none⟩) y.when_.args.len (y.when_.args.len + 8), .string ⟨y.text.toArray⟩]) := ⟨⟨_, _, rfl, hRg, hRq, FoAt.mo (fun b _ hb => ⟨Nat.le_trans hbD.size hb.1, Nat.lt_of_lt_of_le hb.2.1 hbA.size, hb.2.2⟩) _ _ (FoAt.fr hbA.size (fun b _ hlt => hbA.block b hlt) _ _ hFo3)⟩⟩)
          | (refine step_append_rm (P := Try.prog) _ rfl _ _ 27 rfl W.heap.size 85 i0 _ 9 104 Try.underlying27 hi hz0 hz1 hz2 rfl (by decide) _ ys.length cs rfl ho ⟨w3.heap.size, 0, none⟩ 1 1 [.string ⟨y.name.toArray⟩, .bool y.hard, .int .i64 (y.group), .int .i64 (y.when_.op), .int .i64 (y.when_.num), .int .i64 (y.when_.den), .int .i64 (y.when_.mode), .slice (some ⟨g, 0, none⟩) y.when_.args.len (y.when_.args.len + 8), .string ⟨y.text.toArray⟩] rfl rfl (lit_at w3 _ _) (by simp [Value.oneCell']) (by unfold maxLen; omega) (by omega) hsz ?_; intro v' w4 hown' hgrow hat; have hS4 := hSs.out _ (hBA.grown hgrow hleA (fun j hj => Nat.le_trans hleW (hlv.out j hj).1))))
      go_wp2
      go_roundw
      case rel =>
        have hgm := GM.step (n1 := wr.heap.size) hRA hT ho hE hGA.vs (x := y) hxE.out hs.fm.size (fun g e => (hlv.out g e).2) hgrow hat hown'
        refine ⟨k + 1, K', V', by omega, by go_num, ?_, (hsA.after (gr_alloc _ _) (fun _ e => by cases e)).after hgrow (fun g e => (hlv.out g e).1), by rw [htk.out]; exact hgm.1⟩
        have h := hgm.2
        rw [htk.out, cK_snoc]
        exact h.mono (by omega)
      case measure => simp [intOf]; omega
    · obtain rfl : k = xs.length := by omega
      rw [List.take_length] at hG hRr
      clear hrow
      go_wp2
      go_loopw [5, 7] (fun v x wr => ∃ k : Nat, k ≤ 20 ∧ x = .int .i64 ((2 * k : Nat) : Int) ∧ RmAt wr R lo K1 V1 (N + cK xs) ∧ RmStep R K V K1 V1 W wr ∧ GM eK 85 W.heap.size R K1 V1 wr v xs (2 * k) (mks 17 (2 * k))) (fun _ x _ => (41 - intOf x).toNat)
      case atStart => exact ⟨0, by omega, rfl, hRr, hs, hG⟩
      case round =>
        clear hRr hs hG
        obtain ⟨k, hk, rfl, hRr, hs, hG⟩ := hrel
        by_cases hk2 : k < 20
        · have hkk : ((2 * k : Nat) : Int) < 40 := by omega
          have hbA := bel_alloc wr (.cells #[.string ⟨#[]⟩, .bool false, .int .i64 (-7701), .int .i64 (0), .int .i64 (0), .int .i64 (0), .int .i64 (0), .slice none 0 0, .string ⟨#[]⟩, .string ⟨#[]⟩, .bool false, .int .i64 (-7702), .int .i64 (0), .int .i64 (0), .int .i64 (0), .int .i64 (0), .slice none 0 0, .string ⟨#[]⟩] 85)
          have hRA := hRr.new hbA
          have hGA := hG.new hbA
          have hlv := fun (g : Nat) e => hG.lt (g := g) e
          obtain ⟨cs, ho, hE⟩ := hGA.ex
          have hsz : W.heap.size ≤ (wr.alloc (.cells #[.string ⟨#[]⟩, .bool false, .int .i64 (-7701), .int .i64 (0), .int .i64 (0), .int .i64 (0), .int .i64 (0), .slice none 0 0, .string ⟨#[]⟩, .string ⟨#[]⟩, .bool false, .int .i64 (-7702), .int .i64 (0), .int .i64 (0), .int .i64 (0), .int .i64 (0), .slice none 0 0, .string ⟨#[]⟩] 85)).heap.size := Nat.le_trans hs.fm.size hbA.size
          go_wp2_with (at_builtin; refine wpList_append_own_at (P := Try.prog) _ rfl _ _ 27 rfl W.heap.size 85 i0 _ 9 104 Try.underlying27 hi hz0 hz1 hz2 rfl (by decide) _ (xs.length + 2 * k) (cs ++ mks 17 (2 * k)) rfl ho ⟨wr.heap.size, 0, none⟩ 2 2 [.string ⟨#[]⟩, .bool false, .int .i64 (-7701), .int .i64 (0), .int .i64 (0), .int .i64 (0), .int .i64 (0), .slice none 0 0, .string ⟨#[]⟩, .string ⟨#[]⟩, .bool false, .int .i64 (-7702), .int .i64 (0), .int .i64 (0), .int .i64 (0), .int .i64 (0), .slice none 0 0, .string ⟨#[]⟩] rfl rfl (lit_at wr _ _) (by simp [Value.oneCell']) (by unfold maxLen; omega) (by omega) hsz ?_; intro v' w2 hown' hgrow _h hat; clear _h)
          go_roundw
          case rel =>
            have hgm := GM.marks (k := 2) hRA hT ho hE hGA.vs hgrow hat hown'
            exact ⟨k + 1, by omega, by go_num, hgm.2, (hs.after (gr_alloc _ _) (fun _ e => by cases e)).after hgrow (fun g e => (hlv g e).1), by rw [show 2 * (k + 1) = 2 * k + 2 by omega, mks_two _ _ (by omega)]; exact hgm.1⟩
          case measure => simp [intOf]; omega
        · obtain rfl : k = 20 := by omega
          have hG : GM eK 85 W.heap.size R K1 V1 wr _ xs 40 (mks 17 40) := hG
          obtain ⟨cs, ho, hE⟩ := hG.ex
          obtain ⟨g, capN, rfl, hcN⟩ := own_lit2 ho (by omega)
          obtain ⟨ka, kc, hK⟩ := own_shape (hRr.own 17 (by decide))
          have q1 := (hRr.cell (j := 17) (by decide)).1
          have hVl := hRr.few 17 (by decide)
          have hbA := bel_alloc wr (.cells #[.slice (some ⟨g, 0, none⟩) (xs.length + 40) capN] 27)
          have hRA := hRr.new hbA
          have hoA := hRA.own 17 (by decide)
          have hsz : lo ≤ (wr.alloc (.cells #[.slice (some ⟨g, 0, none⟩) (xs.length + 40) capN] 27)).heap.size := by have := hRA.lt; have := hRA.low; omega
          have hcl := fun v' w2 h1 h2 h3 => rm_close (D := eK) (j := 17) (v' := v') (w2 := w2) (o := .cells #[.slice (some ⟨g, 0, none⟩) (xs.length + 40) capN] 27) (by decide) (by decide) rfl hx hRr hs hG h1 h2 h3
          have hfz := fun (w2 : World) (v' : Value) h => rm_fz (j := 17) (v' := v') (w2 := w2) (o := .cells #[.slice (some ⟨g, 0, none⟩) (xs.length + 40) capN] 27) (by decide) hRr hT ho (by omega) h
          rw [hK] at q1 hoA hcl hfz
          have hfzH := Hid.mk hfz
          clear hfz
          have hclH := Hid.mk hcl
          have hN2 : (V1 17).length ≤ 2000000000 := by omega
          have hle : ((xs.length : Nat) : Int) ≤ (xs.length : Int) + 40 := by omega
          have hle2 : (xs.length : Int) + 40 ≤ (capN : Int) := by omega
          have hle0 : (0 : Int) ≤ (xs.length : Int) := by omega
          have hbig : Hid (0 < xs.length → Big (upd V1 17 (V1 17 ++ [.slice (some ⟨g, 0, none⟩) (xs.length + 40) capN])) g) := ⟨fun hp => big_close (j := 17) (n := xs.length) (cap := capN) (fun i hi v hv => hG.vs i hi v hv g rfl) hp⟩
          clear hcl ho hE hG hVl hN hK hR
          go_wp2_with (at_builtin; refine wpList_append_own_at (P := Try.prog) _ rfl _ _ 50 rfl lo 27 j0 _ 1 24 Try.underlying50 hj hy0 hy1 hy2 rfl (by decide) _ (V1 17).length (V1 17) rfl hoA ⟨wr.heap.size, 0, none⟩ 1 1 [.slice (some ⟨g, 0, none⟩) (xs.length + 40) capN] rfl rfl (cell_one_new _ _ _) (by simp [Value.oneCell']) (by unfold maxLen; omega) (by omega) hsz ?_; intro v' w2 hown' hgrow _h hat; clear _h; obtain ⟨g2, cap2, rfl, -⟩ := own_lit2 hown' (by omega); obtain ⟨s1, s2, s3, s4, s5⟩ := hclH.out _ _ hown' hgrow hat; have s7 := hfzH.out _ (.slice (some ⟨g2, 0, none⟩) ((V1 17).length + 1) cap2) hgrow; have s7 := Hid.mk s7; have s3 := Hid.mk s3; have s4 := Hid.mk s4; have s5 := Hid.mk s5; clear hgrow hat hown')
          go_ret
          exact ⟨g, _, _, rfl, s3.out, s4.out, s5.out, fun hp => ⟨hbig.out hp, s7.out⟩⟩

end Go.Proofs.Ytjgkjdalnjlefaa


namespace Go.Proofs.Ytjgkjdalnjlefaa
open Go.RowKit

theorem infoClauses : (Try.prog.info? 108).map (fun i => (i.zero, i.size, i.bytes)) = some (some (.agg #[.int .i64 0, .bool false, .int .i64 0, .int .i64 0, .int .i64 0, .int .i64 0, .slice none 0 0, .int .i64 0, .int .i64 0, .int .i64 0, .int .i64 0, .slice none 0 0]), 12, 128) := by kernel_rfl
theorem infoClauses2 : (Try.prog.info? 78).map (fun i => (i.zero, i.size, i.bytes)) = some (some (.slice none 0 0), 1, 24) := by kernel_rfl
set_option maxRecDepth 100000 in
set_option maxHeartbeats 4000000 in
theorem clauses_rm (R lo N : Nat) (K : Nat → Value) (V : Nat → List Value) (xs : List (Cl)) (a : Option Addr) (cap : Nat) (W : World) (hx : xs.length ≤ 1048576) (hxc : cC xs ≤ 1048576) (hN : N + cC xs ≤ 1000000000) (hR : RmAt W R lo K V N) (hrow : RowR eC W (fun b => b < lo) xs a) :
    Calls Try.prog 115 #[.pointer (some ⟨R, 0, none⟩), .slice a xs.length cap] W (RmC eC R lo K V (N + cC xs + 1) 40 xs W) := by
  obtain ⟨i0, hi, hz0, hz1, hz2⟩ := info_parts infoClauses
  obtain ⟨j0, hj, hy0, hy1, hy2⟩ := info_parts infoClauses2
  have hT : (108 : TypeId) ≠ 55 ∧ ∀ j, j < 21 → (108 : TypeId) ≠ rmT j := by decide
  have hst : ∃ (k : Nat) (K1 : Nat → Value) (V1 : Nat → List Value), k ≤ xs.length ∧ (Value.int .i64 0) = .int .i64 (k : Int) ∧ RmAt (W.alloc (.cells #[] 108)) R lo K1 V1 (N + cC (xs.take k)) ∧ RmStep R K V K1 V1 W (W.alloc (.cells #[] 108)) ∧ GM eC 108 W.heap.size R K1 V1 (W.alloc (.cells #[] 108)) (.slice (some ⟨W.heap.size, 0, none⟩) 0 0) (xs.take k) 0 [] := ⟨0, K, V, Nat.zero_le _, rfl, hR.new (bel_alloc _ _), (RmStep.refl R K V W).after (gr_alloc _ _) (fun _ e => by cases e), gm_start eC 108 hR⟩
  go_enter Try.func115, Try.ntmps115
  go_wp2
  go_loopw [5, 6] (fun v x wr => ∃ (k : Nat) (K1 : Nat → Value) (V1 : Nat → List Value), k ≤ xs.length ∧ x = .int .i64 (k : Int) ∧ RmAt wr R lo K1 V1 (N + cC (xs.take k)) ∧ RmStep R K V K1 V1 W wr ∧ GM eC 108 W.heap.size R K1 V1 wr v (xs.take k) 0 []) (fun _ x _ => xs.length - (intOf x).toNat)
  case atStart => exact hst
  case round =>
    clear hst
    obtain ⟨k, K1, V1, hk, rfl, hRr, hs, hG⟩ := hrel
    by_cases hlt : k < xs.length
    · have hlt' : (k : Int) < (xs.length : Int) := by omega
      have hj0 : (0 : Int) ≤ (k : Int) := by omega
      obtain ⟨ga, oa, rfl⟩ : ∃ ga oa, a = some ⟨ga, oa, none⟩ := by
        rcases hrow with h0 | ⟨ga, oa, -, h1, -⟩
        · rw [h0] at hlt; simp at hlt
        · exact ⟨ga, oa, h1⟩
      obtain ⟨cx, hcl, hga, hE1, hcc⟩ := hrow.item hlt
      have htk : Hid (xs.take (k + 1) = xs.take k ++ [xs[k]]) := ⟨List.take_succ_eq_append_getElem hlt⟩
      have hyl : (xs.take k).length ≤ 1048576 := by rw [List.length_take]; omega
      have hwt : cC (xs.take (k + 1)) ≤ cC xs := cC_take xs (k + 1)
      rw [htk.out, cC_snoc] at hwt
      have hym : xs[k] ∈ xs := List.getElem_mem hlt
      have hBl : Below lo W wr := RmStep.below hR hs
      have hle : lo ≤ wr.heap.size := by have := hRr.lt; have := hRr.low; omega
      generalize xs[k] = y at *
      generalize xs.take k = ys at *
      obtain ⟨a1, c1, a2, c2, rfl, hRg, hRq, hFo, hFo2⟩ := hE1
      have hFoD : FoAt wr.drew (fun b => b < lo) y.guard.args a1 := FoAt.fr (bel_drew wr).size (fun b hb _ => (bel_drew wr).block b (Nat.lt_of_lt_of_le hb hle)) _ _ (FoAt.fr hBl.size (fun b hb _ => hBl.block b hb) _ _ hFo)
      have hSs : Hid (∀ X, Below lo W X → X.cell? ⟨ga, oa + k * 12, none⟩ = some (.int .i64 (y.pri)) ∧ X.cell? ⟨ga, oa + k * 12 + 1, none⟩ = some (.bool y.guarded) ∧ X.cell? ⟨ga, oa + k * 12 + 2, none⟩ = some (.int .i64 (y.guard.op)) ∧ X.cell? ⟨ga, oa + k * 12 + 3, none⟩ = some (.int .i64 (y.guard.num)) ∧ X.cell? ⟨ga, oa + k * 12 + 4, none⟩ = some (.int .i64 (y.guard.den)) ∧ X.cell? ⟨ga, oa + k * 12 + 5, none⟩ = some (.int .i64 (y.guard.mode)) ∧ X.cell? ⟨ga, oa + k * 12 + 6, none⟩ = some (.slice a1 y.guard.args.len c1) ∧ X.cell? ⟨ga, oa + k * 12 + 7, none⟩ = some (.int .i64 (y.body.op)) ∧ X.cell? ⟨ga, oa + k * 12 + 8, none⟩ = some (.int .i64 (y.body.num)) ∧ X.cell? ⟨ga, oa + k * 12 + 9, none⟩ = some (.int .i64 (y.body.den)) ∧ X.cell? ⟨ga, oa + k * 12 + 10, none⟩ = some (.int .i64 (y.body.mode)) ∧ X.cell? ⟨ga, oa + k * 12 + 11, none⟩ = some (.slice a2 y.body.args.len c2)) := ⟨fun X hX => ⟨(bel_cell hX hga (oa + k * 12 + 0)).trans (hcc 0 (by decide)), (bel_cell hX hga (oa + k * 12 + 1)).trans (hcc 1 (by decide)), (bel_cell hX hga (oa + k * 12 + 2)).trans (hcc 2 (by decide)), (bel_cell hX hga (oa + k * 12 + 3)).trans (hcc 3 (by decide)), (bel_cell hX hga (oa + k * 12 + 4)).trans (hcc 4 (by decide)), (bel_cell hX hga (oa + k * 12 + 5)).trans (hcc 5 (by decide)), (bel_cell hX hga (oa + k * 12 + 6)).trans (hcc 6 (by decide)), (bel_cell hX hga (oa + k * 12 + 7)).trans (hcc 7 (by decide)), (bel_cell hX hga (oa + k * 12 + 8)).trans (hcc 8 (by decide)), (bel_cell hX hga (oa + k * 12 + 9)).trans (hcc 9 (by decide)), (bel_cell hX hga (oa + k * 12 + 10)).trans (hcc 10 (by decide)), (bel_cell hX hga (oa + k * 12 + 11)).trans (hcc 11 (by decide))⟩⟩
      have hbD := bel_drew wr
      have hRD := hRr.new hbD
      have hGD := hG.new hbD
      have hsD := hs.after (gr_drew1 wr) (fun _ e => by cases e)
      have hBD : Below lo W wr.drew := hBl.trans (hbD.mono hle)
      have hS0 := hSs.out _ hBD
      have hlv := Hid.mk (fun (g : Nat) e => hG.lt (g := g) e)
      have tok0 : True := trivial
      have tok1 : True := trivial
      clear hcc hcl
      go_wp2_with fail
      go_region_held_law (fun X => X.cell? ⟨ga, oa + k * 12, none⟩ = some (.int .i64 (y.pri)) ∧ X.cell? ⟨ga, oa + k * 12 + 1, none⟩ = some (.bool y.guarded) ∧ X.cell? ⟨ga, oa + k * 12 + 2, none⟩ = some (.int .i64 (y.guard.op)) ∧ X.cell? ⟨ga, oa + k * 12 + 3, none⟩ = some (.int .i64 (y.guard.num)) ∧ X.cell? ⟨ga, oa + k * 12 + 4, none⟩ = some (.int .i64 (y.guard.den)) ∧ X.cell? ⟨ga, oa + k * 12 + 5, none⟩ = some (.int .i64 (y.guard.mode)) ∧ X.cell? ⟨ga, oa + k * 12 + 6, none⟩ = some (.slice a1 y.guard.args.len c1) ∧ X.cell? ⟨ga, oa + k * 12 + 7, none⟩ = some (.int .i64 (y.body.op)) ∧ X.cell? ⟨ga, oa + k * 12 + 8, none⟩ = some (.int .i64 (y.body.num)) ∧ X.cell? ⟨ga, oa + k * 12 + 9, none⟩ = some (.int .i64 (y.body.den)) ∧ X.cell? ⟨ga, oa + k * 12 + 10, none⟩ = some (.int .i64 (y.body.mode)) ∧ X.cell? ⟨ga, oa + k * 12 + 11, none⟩ = some (.slice a2 y.body.args.len c2)) (with_reducible assumption)
        (first
          | (go_at_call 88; have _u := tok0; clear tok0; refine (expr_rm y.guard R lo (N + cC ys) K1 V1 a1 c1 _ (by omega) (by omega) hRD hFoD).mono ?_; rintro e w3 ⟨g3, K2, V2, rfl, hR3, hs3, hFo3⟩; have hB3 : Below lo W w3 := RmStep.below hR (hsD.trans hs3); have hS3a := hSs.out _ hB3; have hFo3b : FoAt w3 (fun b => b < lo) y.body.args a2 := FoAt.fr hB3.size (fun b hb _ => hB3.block b hb) _ _ hFo2)
          | (go_at_call 88; have _u := tok1; clear tok1; refine (expr_rm y.body R lo (N + cC ys + cNf y.guard.args + 1) K2 V2 a2 c2 _ (by omega) (by omega) hR3 hFo3b).mono ?_; rintro e w5 ⟨g, K', V', rfl, hR5, hs5, hFo5⟩; have hG3 := (hGD.room hRD hT hs3).room hR3 hT hs5; have hsA := (hsD.trans hs3).trans hs5; have hbA := bel_alloc w5 (.cells #[.int .i64 (y.pri), .bool y.guarded, .int .i64 (y.guard.op), .int .i64 (y.guard.num), .int .i64 (y.guard.den), .int .i64 (y.guard.mode), .slice (some ⟨g3, 0, none⟩) y.guard.args.len (y.guard.args.len + 8), .int .i64 (y.body.op), .int .i64 (y.body.num), .int .i64 (y.body.den), .int .i64 (y.body.mode), .slice (some ⟨g, 0, none⟩) y.body.args.len (y.body.args.len + 8)] 108); have hRA := hR5.new hbA; have hGA := hG3.new hbA; obtain ⟨cs, ho, hE⟩ := hGA.ex; simp only [List.append_nil, Nat.add_zero] at ho; have hsz : W.heap.size ≤ (w5.alloc (.cells #[.int .i64 (y.pri), .bool y.guarded, .int .i64 (y.guard.op), .int .i64 (y.guard.num), .int .i64 (y.guard.den), .int .i64 (y.guard.mode), .slice (some ⟨g3, 0, none⟩) y.guard.args.len (y.guard.args.len + 8), .int .i64 (y.body.op), .int .i64 (y.body.num), .int .i64 (y.body.den), .int .i64 (y.body.mode), .slice (some ⟨g, 0, none⟩) y.body.args.len (y.body.args.len + 8)] 108)).heap.size := Nat.le_trans hsA.fm.size hbA.size; have hleW : lo ≤ W.heap.size := (by have := hR.lt; have := hR.low; omega); have hB3 : Below lo W w5 := RmStep.below hR hsA; have hle3 : lo ≤ w5.heap.size := Nat.le_trans hleW hsA.fm.size; have hS3 := hSs.out _ hB3; have hBA : Below lo W (w5.alloc (.cells #[.int .i64 (y.pri), .bool y.guarded, .int .i64 (y.guard.op), .int .i64 (y.guard.num), .int .i64 (y.guard.den), .int .i64 (y.guard.mode), .slice (some ⟨g3, 0, none⟩) y.guard.args.len (y.guard.args.len + 8), .int .i64 (y.body.op), .int .i64 (y.body.num), .int .i64 (y.body.den), .int .i64 (y.body.mode), .slice (some ⟨g, 0, none⟩) y.body.args.len (y.body.args.len + 8)] 108)) := hB3.alloc hle3 _; have hleA : lo ≤ (w5.alloc (.cells #[.int .i64 (y.pri), .bool y.guarded, .int .i64 (y.guard.op), .int .i64 (y.guard.num), .int .i64 (y.guard.den), .int .i64 (y.guard.mode), .slice (some ⟨g3, 0, none⟩) y.guard.args.len (y.guard.args.len + 8), .int .i64 (y.body.op), .int .i64 (y.body.num), .int .i64 (y.body.den), .int .i64 (y.body.mode), .slice (some ⟨g, 0, none⟩) y.body.args.len (y.body.args.len + 8)] 108)).heap.size := Nat.le_trans hle3 hbA.size; have hSA := hSs.out _ hBA; have hFa : FoAt w5 (SnR wr.heap.size R K' w5) y.guard.args (some ⟨g3, 0, none⟩) := FoAt.mo (fun b _ hb => sn_step hb hs5) _ _ (FoAt.fr hs5.fm.size (fun b hb hlt => hs5.fm.block b hlt hb.2.2.1 hb.2.2.2) _ _ hFo3); have hFb : FoAt w5 (SnR wr.heap.size R K' w5) y.body.args (some ⟨g, 0, none⟩) := FoAt.mo (fun b _ hb => ⟨Nat.le_trans hs3.fm.size hb.1, hb.2⟩) _ _ hFo5; have hxE : Hid (eC.E (w5.alloc (.cells #[.int .i64 (y.pri), .bool y.guarded, .int .i64 (y.guard.op), .int .i64 (y.guard.num), .int .i64 (y.guard.den), .int .i64 (y.guard.mode), .slice (some ⟨g3, 0, none⟩) y.guard.args.len (y.guard.args.len + 8), .int .i64 (y.body.op), .int .i64 (y.body.num), .int .i64 (y.body.den), .int .i64 (y.body.mode), .slice (some ⟨g, 0, none⟩) y.body.args.len (y.body.args.len + 8)] 108)) (fun b => wr.heap.size ≤ b ∧ b < (w5.alloc (.cells #[.int .i64 (y.pri), .bool y.guarded, .int .i64 (y.guard.op), .int .i64 (y.guard.num), .int .i64 (y.guard.den), .int .i64 (y.guard.mode), .slice (some ⟨g3, 0, none⟩) y.guard.args.len (y.guard.args.len + 8), .int .i64 (y.body.op), .int .i64 (y.body.num), .int .i64 (y.body.den), .int .i64 (y.body.mode), .slice (some ⟨g, 0, none⟩) y.body.args.len (y.body.args.len + 8)] 108)).heap.size ∧ b ≠ R ∧ ∀ i, i < 21 → (K' i).ownBlock ≠ some b) y [.int .i64 (y.pri), .bool y.guarded, .int .i64 (y.guard.op), .int .i64 (y.guard.num), .int .i64 (y.guard.den), .int .i64 (y.guard.mode), .slice (some ⟨g3, 0, none⟩) y.guard.args.len (y.guard.args.len + 8), .int .i64 (y.body.op), .int .i64 (y.body.num), .int .i64 (y.body.den), .int .i64 (y.body.mode), .slice (some ⟨g, 0, none⟩) y.body.args.len (y.body.args.len + 8)]) := ⟨⟨_, _, _, _, rfl, hRg, hRq, FoAt.mo (fun b _ hb => ⟨hb.1, Nat.lt_of_lt_of_le hb.2.1 hbA.size, hb.2.2⟩) _ _ (FoAt.fr hbA.size (fun b _ hlt => hbA.block b hlt) _ _ hFa), FoAt.mo (fun b _ hb => ⟨hb.1, Nat.lt_of_lt_of_le hb.2.1 hbA.size, hb.2.2⟩) _ _ (FoAt.fr hbA.size (fun b _ hlt => hbA.block b hlt) _ _ hFb)⟩⟩)
          | (refine step_append_rm (P := Try.prog) _ rfl _ _ 78 rfl W.heap.size 108 i0 _ 12 128 Try.underlying78 hi hz0 hz1 hz2 rfl (by decide) _ ys.length cs rfl ho ⟨w5.heap.size, 0, none⟩ 1 1 [.int .i64 (y.pri), .bool y.guarded, .int .i64 (y.guard.op), .int .i64 (y.guard.num), .int .i64 (y.guard.den), .int .i64 (y.guard.mode), .slice (some ⟨g3, 0, none⟩) y.guard.args.len (y.guard.args.len + 8), .int .i64 (y.body.op), .int .i64 (y.body.num), .int .i64 (y.body.den), .int .i64 (y.body.mode), .slice (some ⟨g, 0, none⟩) y.body.args.len (y.body.args.len + 8)] rfl rfl (lit_at w5 _ _) (by simp [Value.oneCell']) (by unfold maxLen; omega) (by omega) hsz ?_; intro v' w4 hown' hgrow hat; have hS4 := hSs.out _ (hBA.grown hgrow hleA (fun j hj => Nat.le_trans hleW (hlv.out j hj).1))))
      go_wp2
      go_roundw
      case rel =>
        have hgm := GM.step (n1 := wr.heap.size) hRA hT ho hE hGA.vs (x := y) hxE.out hs.fm.size (fun g e => (hlv.out g e).2) hgrow hat hown'
        refine ⟨k + 1, K', V', by omega, by go_num, ?_, (hsA.after (gr_alloc _ _) (fun _ e => by cases e)).after hgrow (fun g e => (hlv.out g e).1), by rw [htk.out]; exact hgm.1⟩
        have h := hgm.2
        rw [htk.out, cC_snoc]
        exact h.mono (by omega)
      case measure => simp [intOf]; omega
    · obtain rfl : k = xs.length := by omega
      rw [List.take_length] at hG hRr
      clear hrow
      go_wp2
      go_loopw [5, 7] (fun v x wr => ∃ k : Nat, k ≤ 20 ∧ x = .int .i64 ((2 * k : Nat) : Int) ∧ RmAt wr R lo K1 V1 (N + cC xs) ∧ RmStep R K V K1 V1 W wr ∧ GM eC 108 W.heap.size R K1 V1 wr v xs (2 * k) (mks 15 (2 * k))) (fun _ x _ => (41 - intOf x).toNat)
      case atStart => exact ⟨0, by omega, rfl, hRr, hs, hG⟩
      case round =>
        clear hRr hs hG
        obtain ⟨k, hk, rfl, hRr, hs, hG⟩ := hrel
        by_cases hk2 : k < 20
        · have hkk : ((2 * k : Nat) : Int) < 40 := by omega
          have hbA := bel_alloc wr (.cells #[.int .i64 (-7701), .bool false, .int .i64 (0), .int .i64 (0), .int .i64 (0), .int .i64 (0), .slice none 0 0, .int .i64 (0), .int .i64 (0), .int .i64 (0), .int .i64 (0), .slice none 0 0, .int .i64 (-7702), .bool false, .int .i64 (0), .int .i64 (0), .int .i64 (0), .int .i64 (0), .slice none 0 0, .int .i64 (0), .int .i64 (0), .int .i64 (0), .int .i64 (0), .slice none 0 0] 108)
          have hRA := hRr.new hbA
          have hGA := hG.new hbA
          have hlv := fun (g : Nat) e => hG.lt (g := g) e
          obtain ⟨cs, ho, hE⟩ := hGA.ex
          have hsz : W.heap.size ≤ (wr.alloc (.cells #[.int .i64 (-7701), .bool false, .int .i64 (0), .int .i64 (0), .int .i64 (0), .int .i64 (0), .slice none 0 0, .int .i64 (0), .int .i64 (0), .int .i64 (0), .int .i64 (0), .slice none 0 0, .int .i64 (-7702), .bool false, .int .i64 (0), .int .i64 (0), .int .i64 (0), .int .i64 (0), .slice none 0 0, .int .i64 (0), .int .i64 (0), .int .i64 (0), .int .i64 (0), .slice none 0 0] 108)).heap.size := Nat.le_trans hs.fm.size hbA.size
          go_wp2_with (at_builtin; refine wpList_append_own_at (P := Try.prog) _ rfl _ _ 78 rfl W.heap.size 108 i0 _ 12 128 Try.underlying78 hi hz0 hz1 hz2 rfl (by decide) _ (xs.length + 2 * k) (cs ++ mks 15 (2 * k)) rfl ho ⟨wr.heap.size, 0, none⟩ 2 2 [.int .i64 (-7701), .bool false, .int .i64 (0), .int .i64 (0), .int .i64 (0), .int .i64 (0), .slice none 0 0, .int .i64 (0), .int .i64 (0), .int .i64 (0), .int .i64 (0), .slice none 0 0, .int .i64 (-7702), .bool false, .int .i64 (0), .int .i64 (0), .int .i64 (0), .int .i64 (0), .slice none 0 0, .int .i64 (0), .int .i64 (0), .int .i64 (0), .int .i64 (0), .slice none 0 0] rfl rfl (lit_at wr _ _) (by simp [Value.oneCell']) (by unfold maxLen; omega) (by omega) hsz ?_; intro v' w2 hown' hgrow _h hat; clear _h)
          go_roundw
          case rel =>
            have hgm := GM.marks (k := 2) hRA hT ho hE hGA.vs hgrow hat hown'
            exact ⟨k + 1, by omega, by go_num, hgm.2, (hs.after (gr_alloc _ _) (fun _ e => by cases e)).after hgrow (fun g e => (hlv g e).1), by rw [show 2 * (k + 1) = 2 * k + 2 by omega, mks_two _ _ (by omega)]; exact hgm.1⟩
          case measure => simp [intOf]; omega
        · obtain rfl : k = 20 := by omega
          have hG : GM eC 108 W.heap.size R K1 V1 wr _ xs 40 (mks 15 40) := hG
          obtain ⟨cs, ho, hE⟩ := hG.ex
          obtain ⟨g, capN, rfl, hcN⟩ := own_lit2 ho (by omega)
          obtain ⟨ka, kc, hK⟩ := own_shape (hRr.own 15 (by decide))
          have q1 := (hRr.cell (j := 15) (by decide)).1
          have hVl := hRr.few 15 (by decide)
          have hbA := bel_alloc wr (.cells #[.slice (some ⟨g, 0, none⟩) (xs.length + 40) capN] 78)
          have hRA := hRr.new hbA
          have hoA := hRA.own 15 (by decide)
          have hsz : lo ≤ (wr.alloc (.cells #[.slice (some ⟨g, 0, none⟩) (xs.length + 40) capN] 78)).heap.size := by have := hRA.lt; have := hRA.low; omega
          have hcl := fun v' w2 h1 h2 h3 => rm_close (D := eC) (j := 15) (v' := v') (w2 := w2) (o := .cells #[.slice (some ⟨g, 0, none⟩) (xs.length + 40) capN] 78) (by decide) (by decide) rfl hx hRr hs hG h1 h2 h3
          rw [hK] at q1 hoA hcl
          have hclH := Hid.mk hcl
          have hN2 : (V1 15).length ≤ 2000000000 := by omega
          have hle : ((xs.length : Nat) : Int) ≤ (xs.length : Int) + 40 := by omega
          have hle2 : (xs.length : Int) + 40 ≤ (capN : Int) := by omega
          have hle0 : (0 : Int) ≤ (xs.length : Int) := by omega
          clear hcl ho hE hG hVl hN hK hR
          go_wp2_with (at_builtin; refine wpList_append_own_at (P := Try.prog) _ rfl _ _ 48 rfl lo 78 j0 _ 1 24 Try.underlying48 hj hy0 hy1 hy2 rfl (by decide) _ (V1 15).length (V1 15) rfl hoA ⟨wr.heap.size, 0, none⟩ 1 1 [.slice (some ⟨g, 0, none⟩) (xs.length + 40) capN] rfl rfl (cell_one_new _ _ _) (by simp [Value.oneCell']) (by unfold maxLen; omega) (by omega) hsz ?_; intro v' w2 hown' hgrow _h hat; clear _h; obtain ⟨g2, cap2, rfl, -⟩ := own_lit2 hown' (by omega); obtain ⟨s1, s2, s3, s4, s5⟩ := hclH.out _ _ hown' hgrow hat; have s3 := Hid.mk s3; have s4 := Hid.mk s4; have s5 := Hid.mk s5; clear hgrow hat hown')
          go_ret
          exact ⟨g, _, _, rfl, s3.out, s4.out, s5.out⟩

end Go.Proofs.Ytjgkjdalnjlefaa


namespace Go.Proofs.Ytjgkjdalnjlefaa
open Go.RowKit

/-- What the copy of a line is. -/
def RmL (R lo : Nat) (K : Nat → Value) (V : Nat → List Value) (N' : Nat) (x : Ln) (W : World) (e : Ending) (W' : World) : Prop := ∃ g K' V', e = .returned (.agg #[.string ⟨x.name.toArray⟩, .bool x.input, .bool x.must, .int .i64 (x.type), .int .i64 (x.opts), .int .i64 (x.group), .slice (some ⟨g, 0, none⟩) x.cls.length (x.cls.length + 40)]) ∧ RmAt W' R lo K' V' N' ∧ RmStep R K V K' V' W W' ∧ RowR eC W' (SnR W.heap.size R K' W') x.cls (some ⟨g, 0, none⟩)
set_option maxRecDepth 4000 in
set_option maxHeartbeats 4000000 in
theorem line_rm (x : Ln) (R lo N : Nat) (K : Nat → Value) (V : Nat → List Value) (a : Option Addr) (cap : Nat) (W : World) (hx : x.cls.length ≤ 1048576) (hc : cC x.cls ≤ 1048576) (hN : N + cC x.cls ≤ 1000000000) (hR : RmAt W R lo K V N) (hrow : RowR eC W (fun b => b < lo) x.cls a) :
    Calls Try.prog 87 #[.pointer (some ⟨R, 0, none⟩), .agg #[.string ⟨x.name.toArray⟩, .bool x.input, .bool x.must, .int .i64 (x.type), .int .i64 (x.opts), .int .i64 (x.group), .slice a x.cls.length cap]] W (RmL R lo K V (N + cC x.cls + 1) x W) := by
  obtain ⟨A, hA⟩ : ∃ A, A = Obj.cells #[.string ⟨x.name.toArray⟩, .bool x.input, .bool x.must, .int .i64 (x.type), .int .i64 (x.opts), .int .i64 (x.group), .slice a x.cls.length cap] 80 := ⟨_, rfl⟩
  obtain ⟨B, hB⟩ : ∃ B, B = Obj.cells #[.string ⟨#[]⟩, .bool false, .bool false, .int .i64 (0), .int .i64 (0), .int .i64 (0), .slice none 0 0] 80 := ⟨_, rfl⟩
  have hb1 := bel_alloc W A
  have hb2 := bel_alloc (W.alloc A) B
  have hs1 : (W.alloc A).heap.size = W.heap.size + 1 := by simp
  have hs2 : ((W.alloc A).alloc B).heap.size = W.heap.size + 1 + 1 := by simp
  obtain ⟨X, hX⟩ : ∃ X, X = (W.alloc A).alloc B := ⟨_, rfl⟩
  have hr0 : X.heap[W.heap.size]? = some A := by rw [hX]; exact bel_cells hb2 (by omega) (heap_alloc_new W A)
  have hr1 : X.heap[W.heap.size + 1]? = some B := by rw [hX, ← hs1]; exact heap_alloc_new (W.alloc A) B
  have hWX : Below W.heap.size W X := by rw [hX]; exact hb1.trans (hb2.mono hb1.size)
  have hXs : X.heap.size = W.heap.size + 1 + 1 := by rw [hX]; exact hs2
  have hRX := hR.new hWX
  have hle : lo ≤ W.heap.size := by have := hR.lt; have := hR.low; omega
  have hex := clauses_rm R lo N K V x.cls a cap X hx hc hN hRX (hrow.fr hWX.size (fun b hb _ => hWX.block b (Nat.lt_of_lt_of_le hb hle)))
  have hsX : RmStep R K V K V W X := (RmStep.refl R K V W).after (r := none) ⟨hWX.os, hWX.tape, hWX.output, hWX.size, fun k hk _ => hWX.block k hk⟩ (fun _ e => by cases e)
  have hc6 : X.cell? ⟨W.heap.size, 6, none⟩ = some (.slice a x.cls.length cap) := by rw [hA] at hr0; exact cell_of_row _ _ 6 _ _ _ hr0
  have hXe : (W.alloc (.cells #[.string ⟨x.name.toArray⟩, .bool x.input, .bool x.must, .int .i64 (x.type), .int .i64 (x.opts), .int .i64 (x.group), .slice a x.cls.length cap] 80)).alloc (.cells #[.string ⟨#[]⟩, .bool false, .bool false, .int .i64 (0), .int .i64 (0), .int .i64 (0), .slice none 0 0] 80) = X := by rw [hX, hA, hB]
  rw [hA] at hr0
  rw [hB] at hr1
  have hRH := Hid.mk hR
  have hXsH := Hid.mk hXs
  have hsXH := Hid.mk hsX
  clear hX hA hB hb1 hb2 hs1 hs2 hR hRX hXs hsX hrow hle
  go_enter Try.func87, Try.ntmps87
  go_wp2_with (go_at_call 115; fail)
  clear hXe
  refine hex.mono ?_
  rintro e w3 ⟨g, K', V', rfl, hR3, hs3, hF⟩
  have hXs := hXsH.out
  obtain ⟨o0, o1, o2, o3⟩ := rm_box_off (b := W.heap.size) hRH.out hs3 (Nat.le_refl _) (by omega)
  obtain ⟨p0, p1, p2, p3⟩ := rm_box_off (b := W.heap.size + 1) hRH.out hs3 (by omega) (by omega)
  have t0 := (hs3.fm.block _ (by omega) o0 o3).trans hr0
  have t1 := (hs3.fm.block _ (by omega) p0 p3).trans hr1
  have hW3 := hs3.fm.size
  have hS0 : ¬ SnR X.heap.size R K' w3 W.heap.size := fun h => by have := h.1; omega
  have hS1 : ¬ SnR X.heap.size R K' w3 (W.heap.size + 1) := fun h => by have := h.1; omega
  have hFr : Frm (SnR X.heap.size R K' w3) (fun Z => RowR eC Z (SnR X.heap.size R K' w3) x.cls (some ⟨g, 0, none⟩) ∧ w3.heap.size ≤ Z.heap.size) := fun Z Z' h hs hb => ⟨h.1.fr hs hb, Nat.le_trans h.2 hs⟩
  have hZ : RmZ R lo (N + cC x.cls + 1) K V K' V' W (fun Z => RowR eC Z (SnR X.heap.size R K' w3) x.cls (some ⟨g, 0, none⟩) ∧ w3.heap.size ≤ Z.heap.size) w3 := ⟨hR3, hsXH.out.trans hs3, hF, Nat.le_refl _⟩
  have hY0 := hZ.set hFr (b := W.heap.size) (Nat.le_refl _) hS0 ⟨o0, o1, o2⟩ 6 (.slice (some ⟨g, 0, none⟩) x.cls.length (x.cls.length + 40))
  have u0 := heap_setCell_same w3 W.heap.size 6 _ _ (.slice (some ⟨g, 0, none⟩) x.cls.length (x.cls.length + 40)) t0
  have u1 := ((gr_set w3 W.heap.size 6 (.slice (some ⟨g, 0, none⟩) x.cls.length (x.cls.length + 40))).block (W.heap.size + 1) (by omega) (fun e => by have := Option.some.inj e; omega)).trans t1
  have q6 : w3.cell? ⟨W.heap.size, 6, none⟩ = some (.slice a x.cls.length cap) := cell_of_row _ _ 6 _ _ _ t0
  have f6 := frozen_of_row _ _ 6 _ _ t0
  obtain ⟨Y, hY⟩ : ∃ Y, w3.setCell ⟨W.heap.size, 6, none⟩ (.slice (some ⟨g, 0, none⟩) x.cls.length (x.cls.length + 40)) = Y := ⟨_, rfl⟩
  rw [hY] at u0 hY0 u1
  have y0 : Y.cell? ⟨W.heap.size, 0, none⟩ = some (.string ⟨x.name.toArray⟩) := cell_of_row _ _ 0 _ _ _ u0
  have y1 : Y.cell? ⟨W.heap.size, 1, none⟩ = some (.bool x.input) := cell_of_row _ _ 1 _ _ _ u0
  have y2 : Y.cell? ⟨W.heap.size, 2, none⟩ = some (.bool x.must) := cell_of_row _ _ 2 _ _ _ u0
  have y3 : Y.cell? ⟨W.heap.size, 3, none⟩ = some (.int .i64 (x.type)) := cell_of_row _ _ 3 _ _ _ u0
  have y4 : Y.cell? ⟨W.heap.size, 4, none⟩ = some (.int .i64 (x.opts)) := cell_of_row _ _ 4 _ _ _ u0
  have y5 : Y.cell? ⟨W.heap.size, 5, none⟩ = some (.int .i64 (x.group)) := cell_of_row _ _ 5 _ _ _ u0
  have y6 : Y.cell? ⟨W.heap.size, 6, none⟩ = some (.slice (some ⟨g, 0, none⟩) x.cls.length (x.cls.length + 40)) := cell_of_row _ _ 6 _ _ _ u0
  have z0 : Y.cell? ⟨W.heap.size + 1, 0, none⟩ = some (.string ⟨#[]⟩) := cell_of_row _ _ 0 _ _ _ u1
  have z1 : Y.cell? ⟨W.heap.size + 1, 1, none⟩ = some (.bool false) := cell_of_row _ _ 1 _ _ _ u1
  have z2 : Y.cell? ⟨W.heap.size + 1, 2, none⟩ = some (.bool false) := cell_of_row _ _ 2 _ _ _ u1
  have z3 : Y.cell? ⟨W.heap.size + 1, 3, none⟩ = some (.int .i64 (0)) := cell_of_row _ _ 3 _ _ _ u1
  have z4 : Y.cell? ⟨W.heap.size + 1, 4, none⟩ = some (.int .i64 (0)) := cell_of_row _ _ 4 _ _ _ u1
  have z5 : Y.cell? ⟨W.heap.size + 1, 5, none⟩ = some (.int .i64 (0)) := cell_of_row _ _ 5 _ _ _ u1
  have z6 : Y.cell? ⟨W.heap.size + 1, 6, none⟩ = some (.slice none 0 0) := cell_of_row _ _ 6 _ _ _ u1
  have k0 := frozen_of_row _ _ 0 _ _ u1
  have k1 := frozen_of_row _ _ 1 _ _ u1
  have k2 := frozen_of_row _ _ 2 _ _ u1
  have k3 := frozen_of_row _ _ 3 _ _ u1
  have k4 := frozen_of_row _ _ 4 _ _ u1
  have k5 := frozen_of_row _ _ 5 _ _ u1
  have k6 := frozen_of_row _ _ 6 _ _ u1
  have hp : (W.heap.size + 1) ≠ R ∧ (∀ j, j < 21 → (K' j).ownBlock ≠ some (W.heap.size + 1)) ∧ ∀ j, j < 21 → ∀ v ∈ V' j, v.ownBlock ≠ some (W.heap.size + 1) := ⟨p0, p1, p2⟩
  have hZ5 := Hid.mk (((((((hY0.set hFr (b := W.heap.size + 1) (by omega) hS1 hp 0 (.string ⟨x.name.toArray⟩)).set hFr (b := W.heap.size + 1) (by omega) hS1 hp 1 (.bool x.input)).set hFr (b := W.heap.size + 1) (by omega) hS1 hp 2 (.bool x.must)).set hFr (b := W.heap.size + 1) (by omega) hS1 hp 3 (.int .i64 (x.type))).set hFr (b := W.heap.size + 1) (by omega) hS1 hp 4 (.int .i64 (x.opts))).set hFr (b := W.heap.size + 1) (by omega) hS1 hp 5 (.int .i64 (x.group))).set hFr (b := W.heap.size + 1) (by omega) hS1 hp 6 (.slice (some ⟨g, 0, none⟩) x.cls.length (x.cls.length + 40)))
  have v1 := heap_setCell_same Y (W.heap.size + 1) 0 _ _ (.string ⟨x.name.toArray⟩) u1
  have v2 := heap_setCell_same _ (W.heap.size + 1) 1 _ _ (.bool x.input) v1
  have v3 := heap_setCell_same _ (W.heap.size + 1) 2 _ _ (.bool x.must) v2
  have v4 := heap_setCell_same _ (W.heap.size + 1) 3 _ _ (.int .i64 (x.type)) v3
  have v5 := heap_setCell_same _ (W.heap.size + 1) 4 _ _ (.int .i64 (x.opts)) v4
  have v6 := heap_setCell_same _ (W.heap.size + 1) 5 _ _ (.int .i64 (x.group)) v5
  have v7 := heap_setCell_same _ (W.heap.size + 1) 6 _ _ (.slice (some ⟨g, 0, none⟩) x.cls.length (x.cls.length + 40)) v6
  have v9 := Hid.mk v7
  have hne : W.heap.size + 1 ≠ W.heap.size := by omega
  clear v1 v2 v3 v4 v5 v6 v7 u0 u1 t0 t1 hr0 hr1 hZ hY0 hFr hS0 hS1 hp o0 o1 o2 o3 p0 p1 p2 p3 hF hR3 hex hWX hXs hW3
  go_wp2
  have d9 := v9.out
  have hZ := hZ5.out
  clear v9 hZ5
  generalize (((((((Y.setCell ⟨W.heap.size + 1, 0, none⟩ (.string ⟨x.name.toArray⟩)).setCell ⟨W.heap.size + 1, 1, none⟩ (.bool x.input)).setCell ⟨W.heap.size + 1, 2, none⟩ (.bool x.must)).setCell ⟨W.heap.size + 1, 3, none⟩ (.int .i64 (x.type))).setCell ⟨W.heap.size + 1, 4, none⟩ (.int .i64 (x.opts))).setCell ⟨W.heap.size + 1, 5, none⟩ (.int .i64 (x.group))).setCell ⟨W.heap.size + 1, 6, none⟩ (.slice (some ⟨g, 0, none⟩) x.cls.length (x.cls.length + 40))) = Z at *
  have d0 : Z.cell? ⟨W.heap.size + 1, 0, none⟩ = some (.string ⟨x.name.toArray⟩) := cell_of_row _ _ 0 _ _ _ d9
  have d1 : Z.cell? ⟨W.heap.size + 1, 1, none⟩ = some (.bool x.input) := cell_of_row _ _ 1 _ _ _ d9
  have d2 : Z.cell? ⟨W.heap.size + 1, 2, none⟩ = some (.bool x.must) := cell_of_row _ _ 2 _ _ _ d9
  have d3 : Z.cell? ⟨W.heap.size + 1, 3, none⟩ = some (.int .i64 (x.type)) := cell_of_row _ _ 3 _ _ _ d9
  have d4 : Z.cell? ⟨W.heap.size + 1, 4, none⟩ = some (.int .i64 (x.opts)) := cell_of_row _ _ 4 _ _ _ d9
  have d5 : Z.cell? ⟨W.heap.size + 1, 5, none⟩ = some (.int .i64 (x.group)) := cell_of_row _ _ 5 _ _ _ d9
  have d6 : Z.cell? ⟨W.heap.size + 1, 6, none⟩ = some (.slice (some ⟨g, 0, none⟩) x.cls.length (x.cls.length + 40)) := cell_of_row _ _ 6 _ _ _ d9
  refine bodyPost_ret (v := .agg #[.string ⟨x.name.toArray⟩, .bool x.input, .bool x.must, .int .i64 (x.type), .int .i64 (x.opts), .int .i64 (x.group), .slice (some ⟨g, 0, none⟩) x.cls.length (x.cls.length + 40)]) ?_ rfl ⟨g, K', V', rfl, hZ.at_, hZ.st, hZ.c.1.mo (fun b _ hb => ⟨by have := hb.1; have := hXsH.out; omega, Nat.lt_of_lt_of_le hb.2.1 hZ.c.2, hb.2.2⟩)⟩
  simp [results, Try.results87, go_sem, d0, d1, d2, d3, d4, d5, d6]

end Go.Proofs.Ytjgkjdalnjlefaa


namespace Go.Proofs.Ytjgkjdalnjlefaa
open Go.RowKit

theorem infoLines : (Try.prog.info? 80).map (fun i => (i.zero, i.size, i.bytes)) = some (some (.agg #[.string ⟨#[]⟩, .bool false, .bool false, .int .i64 0, .int .i64 0, .int .i64 0, .slice none 0 0]), 7, 72) := by kernel_rfl
theorem infoLines2 : (Try.prog.info? 26).map (fun i => (i.zero, i.size, i.bytes)) = some (some (.slice none 0 0), 1, 24) := by kernel_rfl
set_option maxRecDepth 100000 in
set_option maxHeartbeats 4000000 in
theorem linesQ_rm (R lo N : Nat) (K : Nat → Value) (V : Nat → List Value) (xs : List (Ln)) (a : Option Addr) (cap : Nat) (W : World) (hx : xs.length ≤ 1048576) (hall : ∀ x ∈ xs, x.cls.length ≤ 1048576) (hxc : cLn xs ≤ 1048576) (hN : N + cLn xs ≤ 1000000000) (hR : RmAt W R lo K V N) (hrow : RowR eL W (fun b => b < lo) xs a) :
    Calls Try.prog 64 #[.pointer (some ⟨R, 0, none⟩), .slice a xs.length cap] W (RmCQ eL R lo K V (N + cLn xs + 1) 40 xs W) := by
  obtain ⟨i0, hi, hz0, hz1, hz2⟩ := info_parts infoLines
  obtain ⟨j0, hj, hy0, hy1, hy2⟩ := info_parts infoLines2
  have hT : (80 : TypeId) ≠ 55 ∧ ∀ j, j < 21 → (80 : TypeId) ≠ rmT j := by decide
  have hst : ∃ (k : Nat) (K1 : Nat → Value) (V1 : Nat → List Value), k ≤ xs.length ∧ (Value.int .i64 0) = .int .i64 (k : Int) ∧ RmAt (W.alloc (.cells #[] 80)) R lo K1 V1 (N + cLn (xs.take k)) ∧ RmStep R K V K1 V1 W (W.alloc (.cells #[] 80)) ∧ GM eL 80 W.heap.size R K1 V1 (W.alloc (.cells #[] 80)) (.slice (some ⟨W.heap.size, 0, none⟩) 0 0) (xs.take k) 0 [] := ⟨0, K, V, Nat.zero_le _, rfl, hR.new (bel_alloc _ _), (RmStep.refl R K V W).after (gr_alloc _ _) (fun _ e => by cases e), gm_start eL 80 hR⟩
  go_enter Try.func64, Try.ntmps64
  go_wp2
  go_loopw [5, 6] (fun v x wr => ∃ (k : Nat) (K1 : Nat → Value) (V1 : Nat → List Value), k ≤ xs.length ∧ x = .int .i64 (k : Int) ∧ RmAt wr R lo K1 V1 (N + cLn (xs.take k)) ∧ RmStep R K V K1 V1 W wr ∧ GM eL 80 W.heap.size R K1 V1 wr v (xs.take k) 0 []) (fun _ x _ => xs.length - (intOf x).toNat)
  case atStart => exact hst
  case round =>
    clear hst
    obtain ⟨k, K1, V1, hk, rfl, hRr, hs, hG⟩ := hrel
    by_cases hlt : k < xs.length
    · have hlt' : (k : Int) < (xs.length : Int) := by omega
      have hj0 : (0 : Int) ≤ (k : Int) := by omega
      obtain ⟨ga, oa, rfl⟩ : ∃ ga oa, a = some ⟨ga, oa, none⟩ := by
        rcases hrow with h0 | ⟨ga, oa, -, h1, -⟩
        · rw [h0] at hlt; simp at hlt
        · exact ⟨ga, oa, h1⟩
      obtain ⟨cx, hcl, hga, hE1, hcc⟩ := hrow.item hlt
      have htk : Hid (xs.take (k + 1) = xs.take k ++ [xs[k]]) := ⟨List.take_succ_eq_append_getElem hlt⟩
      have hyl : (xs.take k).length ≤ 1048576 := by rw [List.length_take]; omega
      have hwt : cLn (xs.take (k + 1)) ≤ cLn xs := cLn_take xs (k + 1)
      rw [htk.out, cLn_snoc] at hwt
      have hym : xs[k] ∈ xs := List.getElem_mem hlt
      have hBl : Below lo W wr := RmStep.below hR hs
      have hc0 := (bel_cell hBl hga (oa + k * 7 + 0)).trans (hcc 0 (by decide))
      have hc1 := (bel_cell hBl hga (oa + k * 7 + 1)).trans (hcc 1 (by decide))
      have hc2 := (bel_cell hBl hga (oa + k * 7 + 2)).trans (hcc 2 (by decide))
      have hc3 := (bel_cell hBl hga (oa + k * 7 + 3)).trans (hcc 3 (by decide))
      have hc4 := (bel_cell hBl hga (oa + k * 7 + 4)).trans (hcc 4 (by decide))
      have hc5 := (bel_cell hBl hga (oa + k * 7 + 5)).trans (hcc 5 (by decide))
      have hc6 := (bel_cell hBl hga (oa + k * 7 + 6)).trans (hcc 6 (by decide))
      generalize xs[k] = y at *
      generalize xs.take k = ys at *
      obtain ⟨a1, c1, rfl, hRg, hRw⟩ := hE1
      have hyn : y.cls.length ≤ 1048576 := hall y hym
      have hd0 : wr.cell? ⟨ga, oa + k * 7, none⟩ = some (.string ⟨y.name.toArray⟩) := hc0
      have hd1 : wr.cell? ⟨ga, oa + k * 7 + 1, none⟩ = some (.bool y.input) := hc1
      have hd2 : wr.cell? ⟨ga, oa + k * 7 + 2, none⟩ = some (.bool y.must) := hc2
      have hd3 : wr.cell? ⟨ga, oa + k * 7 + 3, none⟩ = some (.int .i64 (y.type)) := hc3
      have hd4 : wr.cell? ⟨ga, oa + k * 7 + 4, none⟩ = some (.int .i64 (y.opts)) := hc4
      have hd5 : wr.cell? ⟨ga, oa + k * 7 + 5, none⟩ = some (.int .i64 (y.group)) := hc5
      have hd6 : wr.cell? ⟨ga, oa + k * 7 + 6, none⟩ = some (.slice a1 y.cls.length c1) := hc6
      have hcall := line_rm y R lo (N + cLn ys) K1 V1 a1 c1 wr hyn (by omega) (by omega) hRr (hRw.fr hBl.size (fun b hb _ => hBl.block b hb))
      have hlv := Hid.mk (fun (g : Nat) e => hG.lt (g := g) e)
      clear hcc hc0 hc1 hc2 hc3 hc4 hc5 hc6 hcl
      go_wp2_with (go_at_call 87; fail)
      clear hd0 hd1 hd2 hd3 hd4 hd5 hd6
      refine hcall.mono ?_
      rintro e w3 ⟨g, K', V', rfl, hR3, hs3, hFo3⟩
      have hG3 := hG.room hRr hT hs3
      have hbA := bel_alloc w3 (.cells #[.string ⟨y.name.toArray⟩, .bool y.input, .bool y.must, .int .i64 (y.type), .int .i64 (y.opts), .int .i64 (y.group), .slice (some ⟨g, 0, none⟩) y.cls.length (y.cls.length + 40)] 80)
      have hRA := hR3.new hbA
      have hGA := hG3.new hbA
      obtain ⟨cs, ho, hE⟩ := hGA.ex
      simp only [List.append_nil, Nat.add_zero] at ho
      have hsz : W.heap.size ≤ (w3.alloc (.cells #[.string ⟨y.name.toArray⟩, .bool y.input, .bool y.must, .int .i64 (y.type), .int .i64 (y.opts), .int .i64 (y.group), .slice (some ⟨g, 0, none⟩) y.cls.length (y.cls.length + 40)] 80)).heap.size := Nat.le_trans hs.fm.size (Nat.le_trans hs3.fm.size hbA.size)
      have hxE : Hid (eL.E (w3.alloc (.cells #[.string ⟨y.name.toArray⟩, .bool y.input, .bool y.must, .int .i64 (y.type), .int .i64 (y.opts), .int .i64 (y.group), .slice (some ⟨g, 0, none⟩) y.cls.length (y.cls.length + 40)] 80)) (fun b => wr.heap.size ≤ b ∧ b < (w3.alloc (.cells #[.string ⟨y.name.toArray⟩, .bool y.input, .bool y.must, .int .i64 (y.type), .int .i64 (y.opts), .int .i64 (y.group), .slice (some ⟨g, 0, none⟩) y.cls.length (y.cls.length + 40)] 80)).heap.size ∧ b ≠ R ∧ ∀ i, i < 21 → (K' i).ownBlock ≠ some b) y [.string ⟨y.name.toArray⟩, .bool y.input, .bool y.must, .int .i64 (y.type), .int .i64 (y.opts), .int .i64 (y.group), .slice (some ⟨g, 0, none⟩) y.cls.length (y.cls.length + 40)]) := ⟨⟨_, _, rfl, hRg, (hFo3.fr hbA.size (fun b _ hlt => hbA.block b hlt)).mo (fun b _ hb => ⟨hb.1, Nat.lt_of_lt_of_le hb.2.1 hbA.size, hb.2.2⟩)⟩⟩
      clear hcall
      go_wp2_with (at_builtin; refine wpList_append_own_at (P := Try.prog) _ rfl _ _ 26 rfl W.heap.size 80 i0 _ 7 72 Try.underlying26 hi hz0 hz1 hz2 rfl (by decide) _ ys.length cs rfl ho ⟨w3.heap.size, 0, none⟩ 1 1 [.string ⟨y.name.toArray⟩, .bool y.input, .bool y.must, .int .i64 (y.type), .int .i64 (y.opts), .int .i64 (y.group), .slice (some ⟨g, 0, none⟩) y.cls.length (y.cls.length + 40)] rfl rfl (lit_at w3 _ _) (by simp [Value.oneCell']) (by unfold maxLen; omega) (by omega) hsz ?_; intro v' w4 hown' hgrow _h hat; clear _h)
      go_roundw
      case rel =>
        have hgm := GM.step (n1 := wr.heap.size) hRA hT ho hE hGA.vs (x := y) hxE.out hs.fm.size (fun g e => (hlv.out g e).2) hgrow hat hown'
        refine ⟨k + 1, K', V', by omega, by go_num, ?_, ((hs.trans hs3).after (gr_alloc _ _) (fun _ e => by cases e)).after hgrow (fun g e => (hlv.out g e).1), by rw [htk.out]; exact hgm.1⟩
        have h := hgm.2
        rw [htk.out, cLn_snoc]
        exact h.mono (by omega)
      case measure => simp [intOf]; omega
    · obtain rfl : k = xs.length := by omega
      rw [List.take_length] at hG hRr
      clear hrow
      go_wp2
      go_loopw [5, 7] (fun v x wr => ∃ k : Nat, k ≤ 20 ∧ x = .int .i64 ((2 * k : Nat) : Int) ∧ RmAt wr R lo K1 V1 (N + cLn xs) ∧ RmStep R K V K1 V1 W wr ∧ GM eL 80 W.heap.size R K1 V1 wr v xs (2 * k) (mks 16 (2 * k))) (fun _ x _ => (41 - intOf x).toNat)
      case atStart => exact ⟨0, by omega, rfl, hRr, hs, hG⟩
      case round =>
        clear hRr hs hG
        obtain ⟨k, hk, rfl, hRr, hs, hG⟩ := hrel
        by_cases hk2 : k < 20
        · have hkk : ((2 * k : Nat) : Int) < 40 := by omega
          have hbA := bel_alloc wr (.cells #[.string ⟨#[]⟩, .bool false, .bool false, .int .i64 (-7701), .int .i64 (0), .int .i64 (0), .slice none 0 0, .string ⟨#[]⟩, .bool false, .bool false, .int .i64 (-7702), .int .i64 (0), .int .i64 (0), .slice none 0 0] 80)
          have hRA := hRr.new hbA
          have hGA := hG.new hbA
          have hlv := fun (g : Nat) e => hG.lt (g := g) e
          obtain ⟨cs, ho, hE⟩ := hGA.ex
          have hsz : W.heap.size ≤ (wr.alloc (.cells #[.string ⟨#[]⟩, .bool false, .bool false, .int .i64 (-7701), .int .i64 (0), .int .i64 (0), .slice none 0 0, .string ⟨#[]⟩, .bool false, .bool false, .int .i64 (-7702), .int .i64 (0), .int .i64 (0), .slice none 0 0] 80)).heap.size := Nat.le_trans hs.fm.size hbA.size
          go_wp2_with (at_builtin; refine wpList_append_own_at (P := Try.prog) _ rfl _ _ 26 rfl W.heap.size 80 i0 _ 7 72 Try.underlying26 hi hz0 hz1 hz2 rfl (by decide) _ (xs.length + 2 * k) (cs ++ mks 16 (2 * k)) rfl ho ⟨wr.heap.size, 0, none⟩ 2 2 [.string ⟨#[]⟩, .bool false, .bool false, .int .i64 (-7701), .int .i64 (0), .int .i64 (0), .slice none 0 0, .string ⟨#[]⟩, .bool false, .bool false, .int .i64 (-7702), .int .i64 (0), .int .i64 (0), .slice none 0 0] rfl rfl (lit_at wr _ _) (by simp [Value.oneCell']) (by unfold maxLen; omega) (by omega) hsz ?_; intro v' w2 hown' hgrow _h hat; clear _h)
          go_roundw
          case rel =>
            have hgm := GM.marks (k := 2) hRA hT ho hE hGA.vs hgrow hat hown'
            exact ⟨k + 1, by omega, by go_num, hgm.2, (hs.after (gr_alloc _ _) (fun _ e => by cases e)).after hgrow (fun g e => (hlv g e).1), by rw [show 2 * (k + 1) = 2 * k + 2 by omega, mks_two _ _ (by omega)]; exact hgm.1⟩
          case measure => simp [intOf]; omega
        · obtain rfl : k = 20 := by omega
          have hG : GM eL 80 W.heap.size R K1 V1 wr _ xs 40 (mks 16 40) := hG
          obtain ⟨cs, ho, hE⟩ := hG.ex
          obtain ⟨g, capN, rfl, hcN⟩ := own_lit2 ho (by omega)
          obtain ⟨ka, kc, hK⟩ := own_shape (hRr.own 16 (by decide))
          have q1 := (hRr.cell (j := 16) (by decide)).1
          have hVl := hRr.few 16 (by decide)
          have hbA := bel_alloc wr (.cells #[.slice (some ⟨g, 0, none⟩) (xs.length + 40) capN] 26)
          have hRA := hRr.new hbA
          have hoA := hRA.own 16 (by decide)
          have hsz : lo ≤ (wr.alloc (.cells #[.slice (some ⟨g, 0, none⟩) (xs.length + 40) capN] 26)).heap.size := by have := hRA.lt; have := hRA.low; omega
          have hcl := fun v' w2 h1 h2 h3 => rm_close (D := eL) (j := 16) (v' := v') (w2 := w2) (o := .cells #[.slice (some ⟨g, 0, none⟩) (xs.length + 40) capN] 26) (by decide) (by decide) rfl hx hRr hs hG h1 h2 h3
          have hfz := fun (w2 : World) (v' : Value) h => rm_fz (j := 16) (v' := v') (w2 := w2) (o := .cells #[.slice (some ⟨g, 0, none⟩) (xs.length + 40) capN] 26) (by decide) hRr hT ho (by omega) h
          rw [hK] at q1 hoA hcl hfz
          have hfzH := Hid.mk hfz
          clear hfz
          have hclH := Hid.mk hcl
          have hN2 : (V1 16).length ≤ 2000000000 := by omega
          have hle : ((xs.length : Nat) : Int) ≤ (xs.length : Int) + 40 := by omega
          have hle2 : (xs.length : Int) + 40 ≤ (capN : Int) := by omega
          have hle0 : (0 : Int) ≤ (xs.length : Int) := by omega
          have hbig : Hid (0 < xs.length → Big (upd V1 16 (V1 16 ++ [.slice (some ⟨g, 0, none⟩) (xs.length + 40) capN])) g) := ⟨fun hp => big_close (j := 16) (n := xs.length) (cap := capN) (fun i hi v hv => hG.vs i hi v hv g rfl) hp⟩
          clear hcl ho hE hG hVl hN hK hR
          go_wp2_with (at_builtin; refine wpList_append_own_at (P := Try.prog) _ rfl _ _ 49 rfl lo 26 j0 _ 1 24 Try.underlying49 hj hy0 hy1 hy2 rfl (by decide) _ (V1 16).length (V1 16) rfl hoA ⟨wr.heap.size, 0, none⟩ 1 1 [.slice (some ⟨g, 0, none⟩) (xs.length + 40) capN] rfl rfl (cell_one_new _ _ _) (by simp [Value.oneCell']) (by unfold maxLen; omega) (by omega) hsz ?_; intro v' w2 hown' hgrow _h hat; clear _h; obtain ⟨g2, cap2, rfl, -⟩ := own_lit2 hown' (by omega); obtain ⟨s1, s2, s3, s4, s5⟩ := hclH.out _ _ hown' hgrow hat; have s7 := hfzH.out _ (.slice (some ⟨g2, 0, none⟩) ((V1 16).length + 1) cap2) hgrow; have s7 := Hid.mk s7; have s3 := Hid.mk s3; have s4 := Hid.mk s4; have s5 := Hid.mk s5; clear hgrow hat hown')
          go_ret
          exact ⟨g, _, _, rfl, s3.out, s4.out, s5.out, fun hp => ⟨hbig.out hp, s7.out⟩⟩

end Go.Proofs.Ytjgkjdalnjlefaa


namespace Go.Proofs.Ytjgkjdalnjlefaa
open Go.RowKit

/-- A pack whose lists are not too long. -/
structure SzR (p : Pk) : Prop where
  o1 : p.opts.length ≤ 1048576
  o2 : ∀ x ∈ p.opts, x.2.length ≤ 1048576
  t1 : p.tabs.length ≤ 1048576
  t2 : ∀ x ∈ p.tabs, x.2.length ≤ 1048576
  g1 : p.grps.length ≤ 1048576
  l1 : p.lns.length ≤ 1048576
  l2 : ∀ x ∈ p.lns, x.cls.length ≤ 1048576
  l3 : cLn p.lns ≤ 1048576
  k1 : p.cks.length ≤ 1048576
  k2 : cK p.cks ≤ 1048576
def cP (p : Pk) : Nat := cO p.opts + 1 + (cO p.tabs + 1) + 1 + (cLn p.lns + 1) + (cK p.cks + 1)
/-- What the copy of a pack is. -/
def RmPkQ (R lo : Nat) (K : Nat → Value) (V : Nat → List Value) (N' : Nat) (p : Pk) (W : World) (e : Ending) (W' : World) : Prop := ∃ g0 g1 g2 g3 g4 K' V' VT BT, e = .returned (.agg #[.string ⟨p.name.toArray⟩, .int .i64 (p.year), .slice (some ⟨g0, 0, none⟩) p.opts.length (p.opts.length + 40), .slice (some ⟨g1, 0, none⟩) p.tabs.length (p.tabs.length + 40), .slice (some ⟨g2, 0, none⟩) p.grps.length (p.grps.length + 40), .slice (some ⟨g3, 0, none⟩) p.lns.length (p.lns.length + 40), .slice (some ⟨g4, 0, none⟩) p.cks.length (p.cks.length + 40)]) ∧ RmAt W' R lo K' V' N' ∧ RmStep R K V K' V' W W' ∧ RowR eO W' (SnR W.heap.size R K' W') p.opts (some ⟨g0, 0, none⟩) ∧ RowR (eTc VT BT) W' (SnR W.heap.size R K' W') p.tabs (some ⟨g1, 0, none⟩) ∧ RowR eG W' (SnR W.heap.size R K' W') p.grps (some ⟨g2, 0, none⟩) ∧ RowR eL W' (SnR W.heap.size R K' W') p.lns (some ⟨g3, 0, none⟩) ∧ RowR eK W' (SnR W.heap.size R K' W') p.cks (some ⟨g4, 0, none⟩) ∧ (∀ g, g < BT → Big VT g → Big V' g) ∧ (0 < p.grps.length → Big V' g2 ∧ Fz W' g2) ∧ (0 < p.lns.length → Big V' g3 ∧ Fz W' g3) ∧ (0 < p.cks.length → Big V' g4 ∧ Fz W' g4)
theorem row_step {α : Type} {D : Elt α} {n R : Nat} {K K' : Nat → Value} {V V' : Nat → List Value} {W W' : World} {xs : List α} {a : Option Addr} (h : RowR D W (SnR n R K W) xs a) (hs : RmStep R K V K' V' W W') : RowR D W' (SnR n R K' W') xs a :=
  (h.fr hs.fm.size (fun b hb hlt => hs.fm.block b hlt hb.2.2.1 hb.2.2.2)).mo (fun _ _ hb => sn_step hb hs)
theorem row_set {α : Type} {D : Elt α} {n R b i : Nat} {K : Nat → Value} {W : World} {xs : List α} {a : Option Addr} {u : Value} (h : RowR D W (SnR n R K W) xs a) (hb : b < n) : RowR D (W.setCell ⟨b, i, none⟩ u) (SnR n R K (W.setCell ⟨b, i, none⟩ u)) xs a :=
  (h.fr (gr_set W b i u).size (fun c hc hlt => (gr_set W b i u).block c hlt (fun e => by have := Option.some.inj e; have := hc.1; omega))).mo (fun c _ hc => ⟨hc.1, Nat.lt_of_lt_of_le hc.2.1 (gr_set W b i u).size, hc.2.2⟩)
theorem row_low {α : Type} {D : Elt α} {n n' R : Nat} {K : Nat → Value} {W : World} {xs : List α} {a : Option Addr} (h : RowR D W (SnR n R K W) xs a) (hn : n' ≤ n) : RowR D W (SnR n' R K W) xs a := h.mo (fun _ _ hb => ⟨Nat.le_trans hn hb.1, hb.2⟩)
structure RowF {α : Type} (D : Elt α) (W : World) (S : Nat → Prop) (xs : List α) (g : Nat) : Prop where
  r : RowR D W S xs (some ⟨g, 0, none⟩)
  z : 0 < xs.length → Fz W g
theorem row_own {α : Type} {D : Elt α} {W : World} {S : Nat → Prop} {xs : List α} {g o : Nat} (h : RowR D W S xs (some ⟨g, o, none⟩)) (hp : 0 < xs.length) : S g := by
  rcases h with h | ⟨g', o', cs, e, hS, _⟩
  · rw [h] at hp; simp at hp
  · cases e; exact hS
theorem rowF_step {α : Type} {D : Elt α} {n R g : Nat} {K K' : Nat → Value} {V V' : Nat → List Value} {W W' : World} {xs : List α} (h : RowF D W (SnR n R K W) xs g) (hs : RmStep R K V K' V' W W') : RowF D W' (SnR n R K' W') xs g := ⟨row_step h.r hs, fun hp => (h.z hp).same (hs.fm.block g (row_lt h.r hp) (row_own h.r hp).2.2.1 (row_own h.r hp).2.2.2)⟩
theorem rowF_set {α : Type} {D : Elt α} {n R b i g : Nat} {K : Nat → Value} {W : World} {xs : List α} {u : Value} (h : RowF D W (SnR n R K W) xs g) (hb : b < n) : RowF D (W.setCell ⟨b, i, none⟩ u) (SnR n R K (W.setCell ⟨b, i, none⟩ u)) xs g := ⟨row_set h.r hb, fun hp => (h.z hp).same ((gr_set W b i u).block g (row_lt h.r hp) (fun e => by have := Option.some.inj e; have := (row_own h.r hp).1; omega))⟩
theorem rowF_low {α : Type} {D : Elt α} {n n' R g : Nat} {K : Nat → Value} {W : World} {xs : List α} (h : RowF D W (SnR n R K W) xs g) (hn : n' ≤ n) : RowF D W (SnR n' R K W) xs g := ⟨row_low h.r hn, h.z⟩
/-- A world on the way: the room, the two boxes. -/
structure PkW (R lo : Nat) (K0 : Nat → Value) (V0 : Nat → List Value) (W X : World) (N : Nat) (K : Nat → Value) (V : Nat → List Value) (A B : Array Value) (Y : World) : Prop where
  at_ : RmAt Y R lo K V N
  st : RmStep R K0 V0 K V W Y
  o0 : W.heap.size ≠ R ∧ (∀ j, j < 21 → (K j).ownBlock ≠ some W.heap.size) ∧ ∀ j, j < 21 → ∀ v ∈ V j, v.ownBlock ≠ some W.heap.size
  o1 : W.heap.size + 1 ≠ R ∧ (∀ j, j < 21 → (K j).ownBlock ≠ some (W.heap.size + 1)) ∧ ∀ j, j < 21 → ∀ v ∈ V j, v.ownBlock ≠ some (W.heap.size + 1)
  b0 : Y.heap[W.heap.size]? = some (.cells A 29 (0, 0))
  b1 : Y.heap[W.heap.size + 1]? = some (.cells B 29 (0, 0))
  sz : X.heap.size ≤ Y.heap.size
theorem off_call {R b : Nat} {K K' : Nat → Value} {V V' : Nat → List Value} {Y Y' : World} (h : b ≠ R ∧ (∀ j, j < 21 → (K j).ownBlock ≠ some b) ∧ ∀ j, j < 21 → ∀ v ∈ V j, v.ownBlock ≠ some b) (hs : RmStep R K V K' V' Y Y') (hb : b < Y.heap.size) : b ≠ R ∧ (∀ j, j < 21 → (K' j).ownBlock ≠ some b) ∧ ∀ j, j < 21 → ∀ v ∈ V' j, v.ownBlock ≠ some b := by
  refine ⟨h.1, fun j hj e => ?_, fun j hj v hv e => ?_⟩
  · rcases hs.ks j hj with e' | ⟨g, e', hg⟩
    · exact h.2.1 j hj (e'.symm.trans e)
    · rw [e'] at e
      have := Option.some.inj e
      omega
  · rcases hs.vs j hj v hv with e' | ⟨g, e', hg⟩
    · exact h.2.2 j hj v e' e
    · rw [e'] at e
      have := Option.some.inj e
      omega
theorem PkW.call {R lo : Nat} {K0 : Nat → Value} {V0 : Nat → List Value} {W X : World} {N N' : Nat} {K K' : Nat → Value} {V V' : Nat → List Value} {A B : Array Value} {Y Y' : World} (h : PkW R lo K0 V0 W X N K V A B Y) (h1 : RmAt Y' R lo K' V' N') (h2 : RmStep R K V K' V' Y Y') : PkW R lo K0 V0 W X N' K' V' A B Y' := by
  have l0 := (Array.getElem?_eq_some_iff.1 h.b0).1
  have l1 := (Array.getElem?_eq_some_iff.1 h.b1).1
  exact ⟨h1, h.st.trans h2, off_call h.o0 h2 l0, off_call h.o1 h2 l1, (h2.fm.block _ l0 h.o0.1 h.o0.2.1).trans h.b0, (h2.fm.block _ l1 h.o1.1 h.o1.2.1).trans h.b1, Nat.le_trans h.sz h2.fm.size⟩
theorem PkW.set0 {R lo : Nat} {K0 : Nat → Value} {V0 : Nat → List Value} {W X : World} {N : Nat} {K : Nat → Value} {V : Nat → List Value} {A B : Array Value} {Y : World} (h : PkW R lo K0 V0 W X N K V A B Y) (i : Nat) (u : Value) : PkW R lo K0 V0 W X N K V (A.setIfInBounds i u) B (Y.setCell ⟨W.heap.size, i, none⟩ u) := by
  have g := gr_set Y W.heap.size i u
  exact ⟨rm_set h.at_ h.o0 i u, h.st.after g (fun k e => by rw [← Option.some.inj e]; exact Nat.le_refl _), h.o0, h.o1, heap_setCell_same Y W.heap.size i _ _ u h.b0, (g.block _ (Array.getElem?_eq_some_iff.1 h.b1).1 (fun e => by have := Option.some.inj e; omega)).trans h.b1, Nat.le_trans h.sz g.size⟩
theorem PkW.set1 {R lo : Nat} {K0 : Nat → Value} {V0 : Nat → List Value} {W X : World} {N : Nat} {K : Nat → Value} {V : Nat → List Value} {A B : Array Value} {Y : World} (h : PkW R lo K0 V0 W X N K V A B Y) (i : Nat) (u : Value) : PkW R lo K0 V0 W X N K V A (B.setIfInBounds i u) (Y.setCell ⟨W.heap.size + 1, i, none⟩ u) := by
  have g := gr_set Y (W.heap.size + 1) i u
  exact ⟨rm_set h.at_ h.o1 i u, h.st.after g (fun k e => by rw [← Option.some.inj e]; exact Nat.le_succ _), h.o0, h.o1, (g.block _ (Array.getElem?_eq_some_iff.1 h.b0).1 (fun e => by have := Option.some.inj e; omega)).trans h.b0, heap_setCell_same Y (W.heap.size + 1) i _ _ u h.b1, Nat.le_trans h.sz g.size⟩

set_option maxRecDepth 4000 in
set_option maxHeartbeats 4000000 in
theorem packQ_rm (p : Pk) (R lo N : Nat) (K : Nat → Value) (V : Nat → List Value) (a3 a4 a5 a6 a7 : Option Addr) (c3 c4 c5 c6 c7 : Nat) (W : World) (hz : SzR p) (hN : N + cP p ≤ 1000000000) (hR : RmAt W R lo K V N) (h0 : RowR eO W (fun b => b < lo) p.opts a3) (h1 : RowR eT W (fun b => b < lo) p.tabs a4) (h2 : RowR eG W (fun b => b < lo) p.grps a5) (h3 : RowR eL W (fun b => b < lo) p.lns a6) (h4 : RowR eK W (fun b => b < lo) p.cks a7) :
    Calls Try.prog 14 #[.pointer (some ⟨R, 0, none⟩), .agg #[.string ⟨p.name.toArray⟩, .int .i64 (p.year), .slice a3 p.opts.length c3, .slice a4 p.tabs.length c4, .slice a5 p.grps.length c5, .slice a6 p.lns.length c6, .slice a7 p.cks.length c7]] W (RmPkQ R lo K V (N + cP p) p W) := by
  obtain ⟨A, hA⟩ : ∃ A, A = Obj.cells #[.string ⟨p.name.toArray⟩, .int .i64 (p.year), .slice a3 p.opts.length c3, .slice a4 p.tabs.length c4, .slice a5 p.grps.length c5, .slice a6 p.lns.length c6, .slice a7 p.cks.length c7] 29 := ⟨_, rfl⟩
  obtain ⟨B, hB⟩ : ∃ B, B = Obj.cells #[.string ⟨#[]⟩, .int .i64 (0), .slice none 0 0, .slice none 0 0, .slice none 0 0, .slice none 0 0, .slice none 0 0] 29 := ⟨_, rfl⟩
  have hb1 := bel_alloc W A
  have hb2 := bel_alloc (W.alloc A) B
  have hs1 : (W.alloc A).heap.size = W.heap.size + 1 := by simp
  have hs2 : ((W.alloc A).alloc B).heap.size = W.heap.size + 1 + 1 := by simp
  obtain ⟨X, hX⟩ : ∃ X, X = (W.alloc A).alloc B := ⟨_, rfl⟩
  have hr0 : X.heap[W.heap.size]? = some A := by rw [hX]; exact bel_cells hb2 (by omega) (heap_alloc_new W A)
  have hr1 : X.heap[W.heap.size + 1]? = some B := by rw [hX, ← hs1]; exact heap_alloc_new (W.alloc A) B
  have hWX : Below W.heap.size W X := by rw [hX]; exact hb1.trans (hb2.mono hb1.size)
  have hXs : Hid (X.heap.size = W.heap.size + 1 + 1) := ⟨by rw [hX]; exact hs2⟩
  have hRX := hR.new hWX
  have hle : lo ≤ W.heap.size := by have := hR.lt; have := hR.low; omega
  have hsX : RmStep R K V K V W X := (RmStep.refl R K V W).after (r := none) ⟨hWX.os, hWX.tape, hWX.output, hWX.size, fun k hk _ => hWX.block k hk⟩ (fun _ e => by cases e)
  have hXe : (W.alloc (.cells #[.string ⟨p.name.toArray⟩, .int .i64 (p.year), .slice a3 p.opts.length c3, .slice a4 p.tabs.length c4, .slice a5 p.grps.length c5, .slice a6 p.lns.length c6, .slice a7 p.cks.length c7] 29)).alloc (.cells #[.string ⟨#[]⟩, .int .i64 (0), .slice none 0 0, .slice none 0 0, .slice none 0 0, .slice none 0 0, .slice none 0 0] 29) = X := by rw [hX, hA, hB]
  rw [hA] at hr0
  rw [hB] at hr1
  have hK0 : ∀ b, W.heap.size ≤ b → b ≠ R ∧ (∀ j, j < 21 → (K j).ownBlock ≠ some b) ∧ ∀ j, j < 21 → ∀ v ∈ V j, v.ownBlock ≠ some b := fun b hb => ⟨by have := hR.lt; omega, fun j hj e => by have := ((hR.own j hj).lt b e).2; omega, fun j hj v hv e => by have := (hR.mks j hj v hv).lt e; omega⟩
  have P0 : PkW R lo K V W X N K V #[.string ⟨p.name.toArray⟩, .int .i64 (p.year), .slice a3 p.opts.length c3, .slice a4 p.tabs.length c4, .slice a5 p.grps.length c5, .slice a6 p.lns.length c6, .slice a7 p.cks.length c7] #[.string ⟨#[]⟩, .int .i64 (0), .slice none 0 0, .slice none 0 0, .slice none 0 0, .slice none 0 0, .slice none 0 0] X := ⟨hRX, hsX, hK0 _ (Nat.le_refl _), hK0 _ (Nat.le_succ _), hr0, hr1, Nat.le_refl _⟩
  have hsrc : Hid (∀ Y, Below lo W Y → RowR eO Y (fun b => b < lo) p.opts a3 ∧ RowR eT Y (fun b => b < lo) p.tabs a4 ∧ RowR eG Y (fun b => b < lo) p.grps a5 ∧ RowR eL Y (fun b => b < lo) p.lns a6 ∧ RowR eK Y (fun b => b < lo) p.cks a7) := ⟨fun Y hY => ⟨h0.fr hY.size (fun b hb _ => hY.block b hb), h1.fr hY.size (fun b hb _ => hY.block b hb), h2.fr hY.size (fun b hb _ => hY.block b hb), h3.fr hY.size (fun b hb _ => hY.block b hb), h4.fr hY.size (fun b hb _ => hY.block b hb)⟩⟩
  have hNP : Hid (N + cP p ≤ 1000000000) := ⟨hN⟩
  have hzH := Hid.mk hz
  unfold cP at hN
  have x2 : X.cell? ⟨W.heap.size, 2, none⟩ = some (.slice a3 p.opts.length c3) := cell_of_row _ _ 2 _ _ _ hr0
  have hRH := Hid.mk hR
  clear hX hA hB hb1 hb2 hs1 hs2 hRX hsX hr0 hr1 hK0 hWX h0 h1 h2 h3 h4 hle hR
  go_enter Try.func14, Try.ntmps14
  have hB0 : Below lo W X := RmStep.below hRH.out P0.st
  have src0 := hsrc.out _ hB0
  have call0 := options_rm R lo (N) K V p.opts a3 c3 X hzH.out.o1 hzH.out.o2 (by omega) P0.at_ src0.1
  clear src0 hB0
  go_wp2_with (go_at_call 61; fail)
  clear hXe
  refine call0.mono ?_
  rintro e w1 ⟨g0, K1, V1, rfl, at1, st1, row0⟩
  clear call0 x2
  have P1 := P0.call at1 st1
  have c1 : w1.cell? ⟨W.heap.size, 2, none⟩ = some (.slice a3 p.opts.length c3) := cell_of_row _ _ 2 _ _ _ P1.b0
  have f1 := frozen_of_row _ _ 2 _ _ P1.b0
  have S1 := P1.set0 2 (.slice (some ⟨g0, 0, none⟩) p.opts.length (p.opts.length + 40))
  have row0 := row_low row0 (n' := X.heap.size) P0.sz
  have row0 := row_set (b := W.heap.size) (i := 2) (u := .slice (some ⟨g0, 0, none⟩) p.opts.length (p.opts.length + 40)) row0 (by have := hXs.out; omega)
  obtain ⟨Y1, e1⟩ : ∃ Y, w1.setCell ⟨W.heap.size, 2, none⟩ (.slice (some ⟨g0, 0, none⟩) p.opts.length (p.opts.length + 40)) = Y := ⟨_, rfl⟩
  rw [e1] at S1 row0
  have x3 : Y1.cell? ⟨W.heap.size, 3, none⟩ = some (.slice a4 p.tabs.length c4) := cell_of_row _ _ 3 _ _ _ S1.b0
  clear P1 at1 st1
  have hB1 : Below lo W Y1 := RmStep.below hRH.out S1.st
  have src1 := hsrc.out _ hB1
  have call1 := tablesQ_rm R lo (N + (cO p.opts + 1)) K1 V1 p.tabs a4 c4 Y1 hzH.out.t1 hzH.out.t2 (by omega) S1.at_ src1.2.1
  clear src1 hB1
  go_wp2_with (go_at_call 62; fail)
  skip
  refine call1.mono ?_
  rintro e w2 ⟨V2, B2, g1, K2, rfl, at2, st2, row1, -, hB2⟩
  clear call1 x3
  have P2 := S1.call at2 st2
  have row0 := row_step row0 st2
  have c2 : w2.cell? ⟨W.heap.size, 3, none⟩ = some (.slice a4 p.tabs.length c4) := cell_of_row _ _ 3 _ _ _ P2.b0
  have f2 := frozen_of_row _ _ 3 _ _ P2.b0
  have S2 := P2.set0 3 (.slice (some ⟨g1, 0, none⟩) p.tabs.length (p.tabs.length + 40))
  have row1 := row_low row1 (n' := X.heap.size) S1.sz
  have row0 := row_set (b := W.heap.size) (i := 3) (u := .slice (some ⟨g1, 0, none⟩) p.tabs.length (p.tabs.length + 40)) row0 (by have := hXs.out; omega)
  have row1 := row_set (b := W.heap.size) (i := 3) (u := .slice (some ⟨g1, 0, none⟩) p.tabs.length (p.tabs.length + 40)) row1 (by have := hXs.out; omega)
  have hY2 : Hid (B2 ≤ (w2.setCell ⟨W.heap.size, 3, none⟩ (.slice (some ⟨g1, 0, none⟩) p.tabs.length (p.tabs.length + 40))).heap.size) := ⟨Nat.le_trans hB2 (gr_set w2 W.heap.size 3 _).size⟩
  obtain ⟨Y2, e2⟩ : ∃ Y, w2.setCell ⟨W.heap.size, 3, none⟩ (.slice (some ⟨g1, 0, none⟩) p.tabs.length (p.tabs.length + 40)) = Y := ⟨_, rfl⟩
  rw [e2] at hY2 S2 row0 row1
  have x4 : Y2.cell? ⟨W.heap.size, 4, none⟩ = some (.slice a5 p.grps.length c5) := cell_of_row _ _ 4 _ _ _ S2.b0
  clear P2 S1 at2 st2
  have hB2 : Below lo W Y2 := RmStep.below hRH.out S2.st
  have src2 := hsrc.out _ hB2
  have call2 := groupsQ_rm R lo (N + (cO p.opts + 1) + (cO p.tabs + 1)) K2 V2 p.grps a5 c5 Y2 hzH.out.g1 (by omega) S2.at_ src2.2.2.1
  clear src2 hB2
  go_wp2_with (go_at_call 63; fail)
  skip
  refine call2.mono ?_
  rintro e w3 ⟨g2, K3, V3, rfl, at3, st3, row2, big2⟩
  have row2 := RowF.mk row2 (fun hp => (big2 hp).2)
  have big2 : Hid (0 < p.grps.length → Big V3 g2 ∧ g2 < w3.heap.size) := ⟨fun hp => ⟨(big2 hp).1, row_lt row2.r hp⟩⟩
  have bigT : Hid (B2 ≤ w3.heap.size ∧ ∀ g, g < B2 → Big V2 g → Big V3 g) := ⟨by have h1 := st3.fm.size; have h2 := hY2.out; omega, fun g hg h => h.step st3 (by have h2 := hY2.out; omega)⟩
  clear call2 x4
  have P3 := S2.call at3 st3
  have row0 := row_step row0 st3
  have row1 := row_step row1 st3
  have c3 : w3.cell? ⟨W.heap.size, 4, none⟩ = some (.slice a5 p.grps.length c5) := cell_of_row _ _ 4 _ _ _ P3.b0
  have f3 := frozen_of_row _ _ 4 _ _ P3.b0
  have S3 := P3.set0 4 (.slice (some ⟨g2, 0, none⟩) p.grps.length (p.grps.length + 40))
  have row2 := rowF_low row2 (n' := X.heap.size) S2.sz
  have row0 := row_set (b := W.heap.size) (i := 4) (u := .slice (some ⟨g2, 0, none⟩) p.grps.length (p.grps.length + 40)) row0 (by have := hXs.out; omega)
  have row1 := row_set (b := W.heap.size) (i := 4) (u := .slice (some ⟨g2, 0, none⟩) p.grps.length (p.grps.length + 40)) row1 (by have := hXs.out; omega)
  have row2 := rowF_set (b := W.heap.size) (i := 4) (u := .slice (some ⟨g2, 0, none⟩) p.grps.length (p.grps.length + 40)) row2 (by have := hXs.out; omega)
  have hY3 : Hid (w3.heap.size ≤ (w3.setCell ⟨W.heap.size, 4, none⟩ (.slice (some ⟨g2, 0, none⟩) p.grps.length (p.grps.length + 40))).heap.size) := ⟨(gr_set w3 W.heap.size 4 _).size⟩
  obtain ⟨Y3, e3⟩ : ∃ Y, w3.setCell ⟨W.heap.size, 4, none⟩ (.slice (some ⟨g2, 0, none⟩) p.grps.length (p.grps.length + 40)) = Y := ⟨_, rfl⟩
  rw [e3] at hY3 S3 row0 row1 row2
  have x5 : Y3.cell? ⟨W.heap.size, 5, none⟩ = some (.slice a6 p.lns.length c6) := cell_of_row _ _ 5 _ _ _ S3.b0
  clear P3 S2 at3 st3
  have hB3 : Below lo W Y3 := RmStep.below hRH.out S3.st
  have src3 := hsrc.out _ hB3
  have call3 := linesQ_rm R lo (N + (cO p.opts + 1) + (cO p.tabs + 1) + 1) K3 V3 p.lns a6 c6 Y3 hzH.out.l1 hzH.out.l2 hzH.out.l3 (by omega) S3.at_ src3.2.2.2.1
  clear src3 hB3
  go_wp2_with (go_at_call 64; fail)
  skip
  refine call3.mono ?_
  rintro e w4 ⟨g3, K4, V4, rfl, at4, st4, row3, big3⟩
  have row3 := RowF.mk row3 (fun hp => (big3 hp).2)
  have big3 : Hid (0 < p.lns.length → Big V4 g3 ∧ g3 < w4.heap.size) := ⟨fun hp => ⟨(big3 hp).1, row_lt row3.r hp⟩⟩
  replace big2 : Hid (0 < p.grps.length → Big V4 g2 ∧ g2 < w4.heap.size) := ⟨fun hp => ⟨(big2.out hp).1.step st4 (Nat.lt_of_lt_of_le (big2.out hp).2 hY3.out), Nat.lt_of_lt_of_le (Nat.lt_of_lt_of_le (big2.out hp).2 hY3.out) st4.fm.size⟩⟩
  replace bigT : Hid (B2 ≤ w4.heap.size ∧ ∀ g, g < B2 → Big V2 g → Big V4 g) := ⟨Nat.le_trans (Nat.le_trans bigT.out.1 hY3.out) st4.fm.size, fun g hg h => (bigT.out.2 g hg h).step st4 (Nat.lt_of_lt_of_le hg (Nat.le_trans bigT.out.1 hY3.out))⟩
  clear call3 x5
  have P4 := S3.call at4 st4
  have row0 := row_step row0 st4
  have row1 := row_step row1 st4
  have row2 := rowF_step row2 st4
  have c4 : w4.cell? ⟨W.heap.size, 5, none⟩ = some (.slice a6 p.lns.length c6) := cell_of_row _ _ 5 _ _ _ P4.b0
  have f4 := frozen_of_row _ _ 5 _ _ P4.b0
  have S4 := P4.set0 5 (.slice (some ⟨g3, 0, none⟩) p.lns.length (p.lns.length + 40))
  have row3 := rowF_low row3 (n' := X.heap.size) S3.sz
  have row0 := row_set (b := W.heap.size) (i := 5) (u := .slice (some ⟨g3, 0, none⟩) p.lns.length (p.lns.length + 40)) row0 (by have := hXs.out; omega)
  have row1 := row_set (b := W.heap.size) (i := 5) (u := .slice (some ⟨g3, 0, none⟩) p.lns.length (p.lns.length + 40)) row1 (by have := hXs.out; omega)
  have row2 := rowF_set (b := W.heap.size) (i := 5) (u := .slice (some ⟨g3, 0, none⟩) p.lns.length (p.lns.length + 40)) row2 (by have := hXs.out; omega)
  have row3 := rowF_set (b := W.heap.size) (i := 5) (u := .slice (some ⟨g3, 0, none⟩) p.lns.length (p.lns.length + 40)) row3 (by have := hXs.out; omega)
  have hY4 : Hid (w4.heap.size ≤ (w4.setCell ⟨W.heap.size, 5, none⟩ (.slice (some ⟨g3, 0, none⟩) p.lns.length (p.lns.length + 40))).heap.size) := ⟨(gr_set w4 W.heap.size 5 _).size⟩
  obtain ⟨Y4, e4⟩ : ∃ Y, w4.setCell ⟨W.heap.size, 5, none⟩ (.slice (some ⟨g3, 0, none⟩) p.lns.length (p.lns.length + 40)) = Y := ⟨_, rfl⟩
  rw [e4] at hY4 S4 row0 row1 row2 row3
  have x6 : Y4.cell? ⟨W.heap.size, 6, none⟩ = some (.slice a7 p.cks.length c7) := cell_of_row _ _ 6 _ _ _ S4.b0
  clear P4 S3 at4 st4
  have hB4 : Below lo W Y4 := RmStep.below hRH.out S4.st
  have src4 := hsrc.out _ hB4
  have call4 := checksQ_rm R lo (N + (cO p.opts + 1) + (cO p.tabs + 1) + 1 + (cLn p.lns + 1)) K4 V4 p.cks a7 c7 Y4 hzH.out.k1 hzH.out.k2 (by omega) S4.at_ src4.2.2.2.2
  clear src4 hB4
  go_wp2_with (go_at_call 65; fail)
  skip
  refine call4.mono ?_
  rintro e w5 ⟨g4, K5, V5, rfl, at5, st5, row4, big4⟩
  have row4 := RowF.mk row4 (fun hp => (big4 hp).2)
  have big4 := Hid.mk (fun hp => (big4 hp).1)
  replace big2 : Hid (0 < p.grps.length → Big V5 g2) := ⟨fun hp => (big2.out hp).1.step st5 (Nat.lt_of_lt_of_le (big2.out hp).2 hY4.out)⟩
  replace big3 : Hid (0 < p.lns.length → Big V5 g3) := ⟨fun hp => (big3.out hp).1.step st5 (Nat.lt_of_lt_of_le (big3.out hp).2 hY4.out)⟩
  replace bigT : Hid (∀ g, g < B2 → Big V2 g → Big V5 g) := ⟨fun g hg h => (bigT.out.2 g hg h).step st5 (Nat.lt_of_lt_of_le hg (Nat.le_trans bigT.out.1 hY4.out))⟩
  clear call4 x6
  have P5 := S4.call at5 st5
  have row0 := row_step row0 st5
  have row1 := row_step row1 st5
  have row2 := rowF_step row2 st5
  have row3 := rowF_step row3 st5
  have c5 : w5.cell? ⟨W.heap.size, 6, none⟩ = some (.slice a7 p.cks.length c7) := cell_of_row _ _ 6 _ _ _ P5.b0
  have f5 := frozen_of_row _ _ 6 _ _ P5.b0
  have S5 := P5.set0 6 (.slice (some ⟨g4, 0, none⟩) p.cks.length (p.cks.length + 40))
  have row4 := rowF_low row4 (n' := X.heap.size) S4.sz
  have row0 := row_set (b := W.heap.size) (i := 6) (u := .slice (some ⟨g4, 0, none⟩) p.cks.length (p.cks.length + 40)) row0 (by have := hXs.out; omega)
  have row1 := row_set (b := W.heap.size) (i := 6) (u := .slice (some ⟨g4, 0, none⟩) p.cks.length (p.cks.length + 40)) row1 (by have := hXs.out; omega)
  have row2 := rowF_set (b := W.heap.size) (i := 6) (u := .slice (some ⟨g4, 0, none⟩) p.cks.length (p.cks.length + 40)) row2 (by have := hXs.out; omega)
  have row3 := rowF_set (b := W.heap.size) (i := 6) (u := .slice (some ⟨g4, 0, none⟩) p.cks.length (p.cks.length + 40)) row3 (by have := hXs.out; omega)
  have row4 := rowF_set (b := W.heap.size) (i := 6) (u := .slice (some ⟨g4, 0, none⟩) p.cks.length (p.cks.length + 40)) row4 (by have := hXs.out; omega)
  obtain ⟨Y5, e5⟩ : ∃ Y, w5.setCell ⟨W.heap.size, 6, none⟩ (.slice (some ⟨g4, 0, none⟩) p.cks.length (p.cks.length + 40)) = Y := ⟨_, rfl⟩
  rw [e5] at S5 row0 row1 row2 row3 row4
  clear P5 S4 at5 st5
  have y0 : Y5.cell? ⟨W.heap.size, 0, none⟩ = some (.string ⟨p.name.toArray⟩) := cell_of_row _ _ 0 _ _ _ S5.b0
  have y1 : Y5.cell? ⟨W.heap.size, 1, none⟩ = some (.int .i64 (p.year)) := cell_of_row _ _ 1 _ _ _ S5.b0
  have y2 : Y5.cell? ⟨W.heap.size, 2, none⟩ = some (.slice (some ⟨g0, 0, none⟩) p.opts.length (p.opts.length + 40)) := cell_of_row _ _ 2 _ _ _ S5.b0
  have y3 : Y5.cell? ⟨W.heap.size, 3, none⟩ = some (.slice (some ⟨g1, 0, none⟩) p.tabs.length (p.tabs.length + 40)) := cell_of_row _ _ 3 _ _ _ S5.b0
  have y4 : Y5.cell? ⟨W.heap.size, 4, none⟩ = some (.slice (some ⟨g2, 0, none⟩) p.grps.length (p.grps.length + 40)) := cell_of_row _ _ 4 _ _ _ S5.b0
  have y5 : Y5.cell? ⟨W.heap.size, 5, none⟩ = some (.slice (some ⟨g3, 0, none⟩) p.lns.length (p.lns.length + 40)) := cell_of_row _ _ 5 _ _ _ S5.b0
  have y6 : Y5.cell? ⟨W.heap.size, 6, none⟩ = some (.slice (some ⟨g4, 0, none⟩) p.cks.length (p.cks.length + 40)) := cell_of_row _ _ 6 _ _ _ S5.b0
  have hne : W.heap.size + 1 ≠ W.heap.size := by omega
  have m0 : Y5.cell? ⟨W.heap.size + 1, 0, none⟩ = some (.string ⟨#[]⟩) := cell_of_row _ _ 0 _ _ _ S5.b1
  have n0 := frozen_of_row _ _ 0 _ _ S5.b1
  have Q1 := S5.set1 0 (.string ⟨p.name.toArray⟩)
  have row0 := row_set (b := W.heap.size + 1) (i := 0) (u := .string ⟨p.name.toArray⟩) row0 (by have := hXs.out; omega)
  have row1 := row_set (b := W.heap.size + 1) (i := 0) (u := .string ⟨p.name.toArray⟩) row1 (by have := hXs.out; omega)
  have row2 := rowF_set (b := W.heap.size + 1) (i := 0) (u := .string ⟨p.name.toArray⟩) row2 (by have := hXs.out; omega)
  have row3 := rowF_set (b := W.heap.size + 1) (i := 0) (u := .string ⟨p.name.toArray⟩) row3 (by have := hXs.out; omega)
  have row4 := rowF_set (b := W.heap.size + 1) (i := 0) (u := .string ⟨p.name.toArray⟩) row4 (by have := hXs.out; omega)
  obtain ⟨Z1, z1⟩ : ∃ Y, Y5.setCell ⟨W.heap.size + 1, 0, none⟩ (.string ⟨p.name.toArray⟩) = Y := ⟨_, rfl⟩
  rw [z1] at Q1 row0 row1 row2 row3 row4
  clear S5
  have m1 : Z1.cell? ⟨W.heap.size + 1, 1, none⟩ = some (.int .i64 (0)) := cell_of_row _ _ 1 _ _ _ Q1.b1
  have n1 := frozen_of_row _ _ 1 _ _ Q1.b1
  have Q2 := Q1.set1 1 (.int .i64 (p.year))
  have row0 := row_set (b := W.heap.size + 1) (i := 1) (u := .int .i64 (p.year)) row0 (by have := hXs.out; omega)
  have row1 := row_set (b := W.heap.size + 1) (i := 1) (u := .int .i64 (p.year)) row1 (by have := hXs.out; omega)
  have row2 := rowF_set (b := W.heap.size + 1) (i := 1) (u := .int .i64 (p.year)) row2 (by have := hXs.out; omega)
  have row3 := rowF_set (b := W.heap.size + 1) (i := 1) (u := .int .i64 (p.year)) row3 (by have := hXs.out; omega)
  have row4 := rowF_set (b := W.heap.size + 1) (i := 1) (u := .int .i64 (p.year)) row4 (by have := hXs.out; omega)
  obtain ⟨Z2, z2⟩ : ∃ Y, Z1.setCell ⟨W.heap.size + 1, 1, none⟩ (.int .i64 (p.year)) = Y := ⟨_, rfl⟩
  rw [z2] at Q2 row0 row1 row2 row3 row4
  clear Q1
  have m2 : Z2.cell? ⟨W.heap.size + 1, 2, none⟩ = some (.slice none 0 0) := cell_of_row _ _ 2 _ _ _ Q2.b1
  have n2 := frozen_of_row _ _ 2 _ _ Q2.b1
  have Q3 := Q2.set1 2 (.slice (some ⟨g0, 0, none⟩) p.opts.length (p.opts.length + 40))
  have row0 := row_set (b := W.heap.size + 1) (i := 2) (u := .slice (some ⟨g0, 0, none⟩) p.opts.length (p.opts.length + 40)) row0 (by have := hXs.out; omega)
  have row1 := row_set (b := W.heap.size + 1) (i := 2) (u := .slice (some ⟨g0, 0, none⟩) p.opts.length (p.opts.length + 40)) row1 (by have := hXs.out; omega)
  have row2 := rowF_set (b := W.heap.size + 1) (i := 2) (u := .slice (some ⟨g0, 0, none⟩) p.opts.length (p.opts.length + 40)) row2 (by have := hXs.out; omega)
  have row3 := rowF_set (b := W.heap.size + 1) (i := 2) (u := .slice (some ⟨g0, 0, none⟩) p.opts.length (p.opts.length + 40)) row3 (by have := hXs.out; omega)
  have row4 := rowF_set (b := W.heap.size + 1) (i := 2) (u := .slice (some ⟨g0, 0, none⟩) p.opts.length (p.opts.length + 40)) row4 (by have := hXs.out; omega)
  obtain ⟨Z3, z3⟩ : ∃ Y, Z2.setCell ⟨W.heap.size + 1, 2, none⟩ (.slice (some ⟨g0, 0, none⟩) p.opts.length (p.opts.length + 40)) = Y := ⟨_, rfl⟩
  rw [z3] at Q3 row0 row1 row2 row3 row4
  clear Q2
  have m3 : Z3.cell? ⟨W.heap.size + 1, 3, none⟩ = some (.slice none 0 0) := cell_of_row _ _ 3 _ _ _ Q3.b1
  have n3 := frozen_of_row _ _ 3 _ _ Q3.b1
  have Q4 := Q3.set1 3 (.slice (some ⟨g1, 0, none⟩) p.tabs.length (p.tabs.length + 40))
  have row0 := row_set (b := W.heap.size + 1) (i := 3) (u := .slice (some ⟨g1, 0, none⟩) p.tabs.length (p.tabs.length + 40)) row0 (by have := hXs.out; omega)
  have row1 := row_set (b := W.heap.size + 1) (i := 3) (u := .slice (some ⟨g1, 0, none⟩) p.tabs.length (p.tabs.length + 40)) row1 (by have := hXs.out; omega)
  have row2 := rowF_set (b := W.heap.size + 1) (i := 3) (u := .slice (some ⟨g1, 0, none⟩) p.tabs.length (p.tabs.length + 40)) row2 (by have := hXs.out; omega)
  have row3 := rowF_set (b := W.heap.size + 1) (i := 3) (u := .slice (some ⟨g1, 0, none⟩) p.tabs.length (p.tabs.length + 40)) row3 (by have := hXs.out; omega)
  have row4 := rowF_set (b := W.heap.size + 1) (i := 3) (u := .slice (some ⟨g1, 0, none⟩) p.tabs.length (p.tabs.length + 40)) row4 (by have := hXs.out; omega)
  obtain ⟨Z4, z4⟩ : ∃ Y, Z3.setCell ⟨W.heap.size + 1, 3, none⟩ (.slice (some ⟨g1, 0, none⟩) p.tabs.length (p.tabs.length + 40)) = Y := ⟨_, rfl⟩
  rw [z4] at Q4 row0 row1 row2 row3 row4
  clear Q3
  have m4 : Z4.cell? ⟨W.heap.size + 1, 4, none⟩ = some (.slice none 0 0) := cell_of_row _ _ 4 _ _ _ Q4.b1
  have n4 := frozen_of_row _ _ 4 _ _ Q4.b1
  have Q5 := Q4.set1 4 (.slice (some ⟨g2, 0, none⟩) p.grps.length (p.grps.length + 40))
  have row0 := row_set (b := W.heap.size + 1) (i := 4) (u := .slice (some ⟨g2, 0, none⟩) p.grps.length (p.grps.length + 40)) row0 (by have := hXs.out; omega)
  have row1 := row_set (b := W.heap.size + 1) (i := 4) (u := .slice (some ⟨g2, 0, none⟩) p.grps.length (p.grps.length + 40)) row1 (by have := hXs.out; omega)
  have row2 := rowF_set (b := W.heap.size + 1) (i := 4) (u := .slice (some ⟨g2, 0, none⟩) p.grps.length (p.grps.length + 40)) row2 (by have := hXs.out; omega)
  have row3 := rowF_set (b := W.heap.size + 1) (i := 4) (u := .slice (some ⟨g2, 0, none⟩) p.grps.length (p.grps.length + 40)) row3 (by have := hXs.out; omega)
  have row4 := rowF_set (b := W.heap.size + 1) (i := 4) (u := .slice (some ⟨g2, 0, none⟩) p.grps.length (p.grps.length + 40)) row4 (by have := hXs.out; omega)
  obtain ⟨Z5, z5⟩ : ∃ Y, Z4.setCell ⟨W.heap.size + 1, 4, none⟩ (.slice (some ⟨g2, 0, none⟩) p.grps.length (p.grps.length + 40)) = Y := ⟨_, rfl⟩
  rw [z5] at Q5 row0 row1 row2 row3 row4
  clear Q4
  have m5 : Z5.cell? ⟨W.heap.size + 1, 5, none⟩ = some (.slice none 0 0) := cell_of_row _ _ 5 _ _ _ Q5.b1
  have n5 := frozen_of_row _ _ 5 _ _ Q5.b1
  have Q6 := Q5.set1 5 (.slice (some ⟨g3, 0, none⟩) p.lns.length (p.lns.length + 40))
  have row0 := row_set (b := W.heap.size + 1) (i := 5) (u := .slice (some ⟨g3, 0, none⟩) p.lns.length (p.lns.length + 40)) row0 (by have := hXs.out; omega)
  have row1 := row_set (b := W.heap.size + 1) (i := 5) (u := .slice (some ⟨g3, 0, none⟩) p.lns.length (p.lns.length + 40)) row1 (by have := hXs.out; omega)
  have row2 := rowF_set (b := W.heap.size + 1) (i := 5) (u := .slice (some ⟨g3, 0, none⟩) p.lns.length (p.lns.length + 40)) row2 (by have := hXs.out; omega)
  have row3 := rowF_set (b := W.heap.size + 1) (i := 5) (u := .slice (some ⟨g3, 0, none⟩) p.lns.length (p.lns.length + 40)) row3 (by have := hXs.out; omega)
  have row4 := rowF_set (b := W.heap.size + 1) (i := 5) (u := .slice (some ⟨g3, 0, none⟩) p.lns.length (p.lns.length + 40)) row4 (by have := hXs.out; omega)
  obtain ⟨Z6, z6⟩ : ∃ Y, Z5.setCell ⟨W.heap.size + 1, 5, none⟩ (.slice (some ⟨g3, 0, none⟩) p.lns.length (p.lns.length + 40)) = Y := ⟨_, rfl⟩
  rw [z6] at Q6 row0 row1 row2 row3 row4
  clear Q5
  have m6 : Z6.cell? ⟨W.heap.size + 1, 6, none⟩ = some (.slice none 0 0) := cell_of_row _ _ 6 _ _ _ Q6.b1
  have n6 := frozen_of_row _ _ 6 _ _ Q6.b1
  have Q7 := Q6.set1 6 (.slice (some ⟨g4, 0, none⟩) p.cks.length (p.cks.length + 40))
  have row0 := row_set (b := W.heap.size + 1) (i := 6) (u := .slice (some ⟨g4, 0, none⟩) p.cks.length (p.cks.length + 40)) row0 (by have := hXs.out; omega)
  have row1 := row_set (b := W.heap.size + 1) (i := 6) (u := .slice (some ⟨g4, 0, none⟩) p.cks.length (p.cks.length + 40)) row1 (by have := hXs.out; omega)
  have row2 := rowF_set (b := W.heap.size + 1) (i := 6) (u := .slice (some ⟨g4, 0, none⟩) p.cks.length (p.cks.length + 40)) row2 (by have := hXs.out; omega)
  have row3 := rowF_set (b := W.heap.size + 1) (i := 6) (u := .slice (some ⟨g4, 0, none⟩) p.cks.length (p.cks.length + 40)) row3 (by have := hXs.out; omega)
  have row4 := rowF_set (b := W.heap.size + 1) (i := 6) (u := .slice (some ⟨g4, 0, none⟩) p.cks.length (p.cks.length + 40)) row4 (by have := hXs.out; omega)
  obtain ⟨Z7, z7⟩ : ∃ Y, Z6.setCell ⟨W.heap.size + 1, 6, none⟩ (.slice (some ⟨g4, 0, none⟩) p.cks.length (p.cks.length + 40)) = Y := ⟨_, rfl⟩
  rw [z7] at Q7 row0 row1 row2 row3 row4
  clear Q6
  have row0 := row_low row0 (n' := W.heap.size) (by have := hXs.out; omega)
  have row1 := row_low row1 (n' := W.heap.size) (by have := hXs.out; omega)
  have row2 := rowF_low row2 (n' := W.heap.size) (by have := hXs.out; omega)
  have row3 := rowF_low row3 (n' := W.heap.size) (by have := hXs.out; omega)
  have row4 := rowF_low row4 (n' := W.heap.size) (by have := hXs.out; omega)
  have hP := Hid.mk Q7
  have hrows := Hid.mk (And.intro row0 (And.intro row1 (And.intro row2 (And.intro row3 row4))))
  go_wp2
  have hP := hP.out
  have hXs := hXs.out
  have d0 : Z7.cell? ⟨W.heap.size + 1, 0, none⟩ = some (.string ⟨p.name.toArray⟩) := cell_of_row _ _ 0 _ _ _ hP.b1
  have d1 : Z7.cell? ⟨W.heap.size + 1, 1, none⟩ = some (.int .i64 (p.year)) := cell_of_row _ _ 1 _ _ _ hP.b1
  have d2 : Z7.cell? ⟨W.heap.size + 1, 2, none⟩ = some (.slice (some ⟨g0, 0, none⟩) p.opts.length (p.opts.length + 40)) := cell_of_row _ _ 2 _ _ _ hP.b1
  have d3 : Z7.cell? ⟨W.heap.size + 1, 3, none⟩ = some (.slice (some ⟨g1, 0, none⟩) p.tabs.length (p.tabs.length + 40)) := cell_of_row _ _ 3 _ _ _ hP.b1
  have d4 : Z7.cell? ⟨W.heap.size + 1, 4, none⟩ = some (.slice (some ⟨g2, 0, none⟩) p.grps.length (p.grps.length + 40)) := cell_of_row _ _ 4 _ _ _ hP.b1
  have d5 : Z7.cell? ⟨W.heap.size + 1, 5, none⟩ = some (.slice (some ⟨g3, 0, none⟩) p.lns.length (p.lns.length + 40)) := cell_of_row _ _ 5 _ _ _ hP.b1
  have d6 : Z7.cell? ⟨W.heap.size + 1, 6, none⟩ = some (.slice (some ⟨g4, 0, none⟩) p.cks.length (p.cks.length + 40)) := cell_of_row _ _ 6 _ _ _ hP.b1
  refine bodyPost_ret (v := .agg #[.string ⟨p.name.toArray⟩, .int .i64 (p.year), .slice (some ⟨g0, 0, none⟩) p.opts.length (p.opts.length + 40), .slice (some ⟨g1, 0, none⟩) p.tabs.length (p.tabs.length + 40), .slice (some ⟨g2, 0, none⟩) p.grps.length (p.grps.length + 40), .slice (some ⟨g3, 0, none⟩) p.lns.length (p.lns.length + 40), .slice (some ⟨g4, 0, none⟩) p.cks.length (p.cks.length + 40)]) ?_ rfl ⟨g0, g1, g2, g3, g4, K5, V5, V2, B2, rfl, ?_, hP.st, hrows.out.1, hrows.out.2.1, hrows.out.2.2.1.r, hrows.out.2.2.2.1.r, hrows.out.2.2.2.2.r, bigT.out, fun hp => ⟨big2.out hp, hrows.out.2.2.1.z hp⟩, fun hp => ⟨big3.out hp, hrows.out.2.2.2.1.z hp⟩, fun hp => ⟨big4.out hp, hrows.out.2.2.2.2.z hp⟩⟩
  · simp [results, Try.results14, go_sem, d0, d1, d2, d3, d4, d5, d6]
  · exact hP.at_.mono (by unfold cP; omega)

end Go.Proofs.Ytjgkjdalnjlefaa



/- A room whose list is turned at its first element; what the two Puts answer. No walk. -/
namespace Go.Proofs.Ytjgkjdalnjlefaa.V
open Go.RowKit

theorem heap_set_gen {w : World} {b i : Nat} {cs : Array Value} {T : TypeId} {fr : Nat × Nat} (hb : w.heap[b]? = some (.cells cs T fr)) (v : Value) : (w.setCell ⟨b, i, none⟩ v).heap[b]? = some (.cells (cs.setIfInBounds i v) T fr) := by
  simp [World.setCell, Array.getElem?_modify, hb]
theorem rm_kinds (j : Nat) (hj : j < 21) (h : rmT j ≠ 0) : j = 4 ∨ j = 6 ∨ j = 14 ∨ j = 15 ∨ j = 16 ∨ j = 17 ∨ j = 18 ∨ j = 19 ∨ j = 20 := by
  revert j hj h
  decide
/-- The marks stay where a cell is turned that is none of them. -/
theorem rm_poke {W : World} {R lo N g idx : Nat} {K : Nat → Value} {V : Nat → List Value} {u : Value} (h : RmAt W R lo K V N) (h1 : g ≠ R) (h2 : ∀ j, j < 21 → (K j).ownBlock ≠ some g)
    (h3 : ∀ j, j < 21 → rmT j ≠ 0 → ∀ n (cs : Array Value) f, W.heap[g]? = some (.cells cs (rmE j) f) → (∀ k, k < rmSp j → ∀ i u, (rmMk j k)[i]? = some u → cs[(n + 1 + k) * rmS j + i]? = some u) → ∀ k, k < rmSp j → ∀ i u, (rmMk j k)[i]? = some u → (n + 1 + k) * rmS j + i ≠ idx) (hB : Big V g) : RmAt (W.setCell ⟨g, idx, none⟩ u) R lo K V N := by
  have hg := gr_set W g idx u
  obtain ⟨cs, r1, r2⟩ := h.row
  refine ⟨⟨cs, (hg.block R h.lt (fun e => h1 (Option.some.inj e).symm)).trans r1, r2⟩, fun j hj => (h.own j hj).kept hg (.inr (h2 j hj)), h.nil, h.low, fun j hj v hv => ?_, h.few, h.un⟩
  have hj0 : rmT j ≠ 0 := fun e => by rw [h.un j hj e] at hv; cases hv
  obtain ⟨g', n, cap, cs', f, e1, e2, e3, e4, e5⟩ := h.mks j hj v hv
  by_cases hgg : g' = g
  · subst hgg
    obtain ⟨n', cap', e6⟩ := hB j hj v hv (by rw [e1]; rfl)
    have hn : n = n' + 1 + rmSp j := by rw [e1] at e6; injection e6
    refine ⟨g', n, cap, _, f, e1, heap_set_gen e2 u, e3, e4, fun k hk i w hw => ?_⟩
    have h5 := e5 k hk i w hw
    have hne := h3 j hj hj0 n' cs' f e2 (fun k hk i w hw => by have := e5 k hk i w hw; rwa [hn, Nat.add_sub_cancel] at this) k hk i w hw
    rw [hn, Nat.add_sub_cancel] at h5 ⊢
    rw [Array.getElem?_setIfInBounds_ne (fun e => hne e.symm)]
    exact h5
  · have hlt := (Array.getElem?_eq_some_iff.1 e2).1
    exact ⟨g', n, cap, cs', f, e1, (hg.block g' hlt (fun e => hgg (Option.some.inj e))).trans e2, e3, e4, e5⟩
theorem row_val {W : World} {g i : Nat} {cs : Array Value} {T : TypeId} {f : Nat × Nat} {v u : Value} (h : W.heap[g]? = some (.cells cs T f)) (hc : W.cell? ⟨g, i, none⟩ = some v) (hu : cs[i]? = some u) : v = u := by
  rw [cell_of_row _ _ i _ _ _ h, hu] at hc
  exact (Option.some.inj hc).symm
/-- An int at place 1 (of a group, of a band). -/
theorem no_mark1 {W : World} {g : Nat} {z : Int} (hc : W.cell? ⟨g, 1, none⟩ = some (.int .i64 z)) : ∀ j, j < 21 → rmT j ≠ 0 → ∀ n (cs : Array Value) f, W.heap[g]? = some (.cells cs (rmE j) f) → (∀ k, k < rmSp j → ∀ i u, (rmMk j k)[i]? = some u → cs[(n + 1 + k) * rmS j + i]? = some u) → ∀ k, k < rmSp j → ∀ i u, (rmMk j k)[i]? = some u → (n + 1 + k) * rmS j + i ≠ 1 := fun j hj h0 n cs f hh hm k hk i u hu e => by
  have hv := hm k hk i u hu
  rw [e] at hv
  have hval := row_val hh hc hv
  have hil : i < rmS j := by
    have := (List.getElem?_eq_some_iff.1 hu).1
    rwa [rmMk_len j k h0] at this
  rcases rm_kinds j hj h0 with rfl | rfl | rfl | rfl | rfl | rfl | rfl | rfl | rfl
  · have hS : rmS 4 = 1 := rfl
    rw [hS] at hil
    obtain rfl : i = 0 := by omega
    unfold rmMk at hu
    split at hu <;> (simp [rmMk0] at hu; rw [← hu] at hval; cases hval)
  · have := Nat.mul_le_mul (show 1 ≤ n + 1 + k by omega) (show 2 ≤ rmS 6 by decide); omega
  · have := Nat.mul_le_mul (show 1 ≤ n + 1 + k by omega) (show 2 ≤ rmS 14 by decide); omega
  · have := Nat.mul_le_mul (show 1 ≤ n + 1 + k by omega) (show 2 ≤ rmS 15 by decide); omega
  · have := Nat.mul_le_mul (show 1 ≤ n + 1 + k by omega) (show 2 ≤ rmS 16 by decide); omega
  · have := Nat.mul_le_mul (show 1 ≤ n + 1 + k by omega) (show 2 ≤ rmS 17 by decide); omega
  · have := Nat.mul_le_mul (show 1 ≤ n + 1 + k by omega) (show 2 ≤ rmS 18 by decide); omega
  · have := Nat.mul_le_mul (show 1 ≤ n + 1 + k by omega) (show 2 ≤ rmS 19 by decide); omega
  · have := Nat.mul_le_mul (show 1 ≤ n + 1 + k by omega) (show 2 ≤ rmS 20 by decide); omega
/-- The type of a line: place 3, behind a bool at place 2. -/
theorem no_mark3L {W : World} {g : Nat} {z : Int} {b : Bool} (hc2 : W.cell? ⟨g, 2, none⟩ = some (.bool b)) (hc : W.cell? ⟨g, 3, none⟩ = some (.int .i64 z)) : ∀ j, j < 21 → rmT j ≠ 0 → ∀ n (cs : Array Value) f, W.heap[g]? = some (.cells cs (rmE j) f) → (∀ k, k < rmSp j → ∀ i u, (rmMk j k)[i]? = some u → cs[(n + 1 + k) * rmS j + i]? = some u) → ∀ k, k < rmSp j → ∀ i u, (rmMk j k)[i]? = some u → (n + 1 + k) * rmS j + i ≠ 3 := fun j hj h0 n cs f hh hm k hk i u hu e => by
  have hv := hm k hk i u hu
  rw [e] at hv
  have hval := row_val hh hc hv
  have hil : i < rmS j := by
    have := (List.getElem?_eq_some_iff.1 hu).1
    rwa [rmMk_len j k h0] at this
  have two : rmS j = 2 → ∀ v, (rmMk j 0)[0]? = some v → (.bool b : Value) = v := fun hS v hv0 => by
    rw [hS] at e hil
    have hn : n = 0 := by omega
    have h5 := hm 0 (by unfold rmSp; split <;> omega) 0 v hv0
    rw [hS, hn] at h5
    exact row_val hh hc2 h5
  rcases rm_kinds j hj h0 with rfl | rfl | rfl | rfl | rfl | rfl | rfl | rfl | rfl
  · have hS : rmS 4 = 1 := rfl
    rw [hS] at hil
    obtain rfl : i = 0 := by omega
    unfold rmMk at hu
    split at hu <;> (simp [rmMk0] at hu; rw [← hu] at hval; cases hval)
  · cases two rfl _ rfl
  · have := Nat.mul_le_mul (show 1 ≤ n + 1 + k by omega) (show 5 ≤ rmS 14 by decide); omega
  · have := Nat.mul_le_mul (show 1 ≤ n + 1 + k by omega) (show 5 ≤ rmS 15 by decide); omega
  · have := Nat.mul_le_mul (show 1 ≤ n + 1 + k by omega) (show 5 ≤ rmS 16 by decide); omega
  · have := Nat.mul_le_mul (show 1 ≤ n + 1 + k by omega) (show 5 ≤ rmS 17 by decide); omega
  · cases two rfl _ rfl
  · cases two rfl _ rfl
  · cases two rfl _ rfl
/-- The operator of a check: place 3; an int at place 2, a list at place 7. -/
theorem no_mark3K {W : World} {g : Nat} {z z2 : Int} {a : Option Addr} {m c : Nat} (hc2 : W.cell? ⟨g, 2, none⟩ = some (.int .i64 z2)) (hc : W.cell? ⟨g, 3, none⟩ = some (.int .i64 z)) (hc7 : W.cell? ⟨g, 7, none⟩ = some (.slice a m c)) : ∀ j, j < 21 → rmT j ≠ 0 → ∀ n (cs : Array Value) f, W.heap[g]? = some (.cells cs (rmE j) f) → (∀ k, k < rmSp j → ∀ i u, (rmMk j k)[i]? = some u → cs[(n + 1 + k) * rmS j + i]? = some u) → ∀ k, k < rmSp j → ∀ i u, (rmMk j k)[i]? = some u → (n + 1 + k) * rmS j + i ≠ 3 := fun j hj h0 n cs f hh hm k hk i u hu e => by
  have hv := hm k hk i u hu
  rw [e] at hv
  have hval := row_val hh hc hv
  have hil : i < rmS j := by
    have := (List.getElem?_eq_some_iff.1 hu).1
    rwa [rmMk_len j k h0] at this
  have two : rmS j = 2 → ∀ v, (rmMk j 0)[0]? = some v → (.int .i64 z2 : Value) = v := fun hS v hv0 => by
    rw [hS] at e hil
    have hn : n = 0 := by omega
    have h5 := hm 0 (by unfold rmSp; split <;> omega) 0 v hv0
    rw [hS, hn] at h5
    exact row_val hh hc2 h5
  have sev : rmS j = 2 → ∀ v, (rmMk j 2)[1]? = some v → (.slice a m c : Value) = v := fun hS v hv0 => by
    rw [hS] at e hil
    have hn : n = 0 := by omega
    have h5 := hm 2 (by unfold rmSp; split <;> omega) 1 v hv0
    rw [hS, hn] at h5
    exact row_val hh hc7 h5
  rcases rm_kinds j hj h0 with rfl | rfl | rfl | rfl | rfl | rfl | rfl | rfl | rfl
  · have hS : rmS 4 = 1 := rfl
    rw [hS] at hil
    obtain rfl : i = 0 := by omega
    unfold rmMk at hu
    split at hu <;> (simp [rmMk0] at hu; rw [← hu] at hval; cases hval)
  · cases sev rfl _ rfl
  · have := Nat.mul_le_mul (show 1 ≤ n + 1 + k by omega) (show 5 ≤ rmS 14 by decide); omega
  · have := Nat.mul_le_mul (show 1 ≤ n + 1 + k by omega) (show 5 ≤ rmS 15 by decide); omega
  · have := Nat.mul_le_mul (show 1 ≤ n + 1 + k by omega) (show 5 ≤ rmS 16 by decide); omega
  · have := Nat.mul_le_mul (show 1 ≤ n + 1 + k by omega) (show 5 ≤ rmS 17 by decide); omega
  · cases two rfl _ rfl
  · cases two rfl _ rfl
  · cases two rfl _ rfl
theorem xor_rg (n : Int) : Rg (bits .xor .i64 n 1) := ⟨bits_lo_i64 .xor n 1, bits_hi_i64 .xor n 1⟩
/-- What a Put answers. -/
def Ans (p : Pk) (l : List UInt8) (f : Int) : Prop := (okP p ∧ (encP p).length + 4 ≤ 131072 ∧ l = encP p ++ sum4 (fnvB (encP p)) ∧ f = 0) ∨ (¬ (okP p ∧ (encP p).length + 4 ≤ 131072) ∧ l = [] ∧ f = 72)
theorem ans_one {p : Pk} {l l' : List UInt8} {f f' : Int} (h : Ans p l f) (h' : Ans p l' f') : l' = l ∧ f' = f := by
  rcases h with ⟨h1, h2, h3, h4⟩ | ⟨h1, h2, h3⟩ <;> rcases h' with ⟨k1, k2, k3, k4⟩ | ⟨k1, k2, k3⟩
  · exact ⟨by rw [k3, h3], by rw [k4, h4]⟩
  · exact absurd ⟨h1, h2⟩ k1
  · exact absurd ⟨k1, k2⟩ h1
  · exact ⟨by rw [k2, h2], by rw [k3, h3]⟩
def AnP (p : Pk) (W : World) (e : Ending) (W' : World) : Prop := ∃ pa cap l f, e = .returned (.tuple #[.slice pa l.length cap, .int .i64 f]) ∧ InB W' pa cap l ∧ Below W.heap.size W W' ∧ Ans p l f
theorem inb_none (W : World) : InB W none 0 [] := ⟨.inl rfl, fun _ => rfl, Nat.le_refl _⟩
theorem rput_ans (p : Pk) (a3 a4 a5 a6 a7 : Option Addr) (c3 c4 c5 c6 c7 : Nat) (W : World) (hb : BK p ≤ 1048576) (hy : Rg p.year) (hR : Rows W (fun b => b < W.heap.size) p a3 a4 a5 a6 a7) : Calls Try.prog 13 #[.agg #[.string ⟨p.name.toArray⟩, .int .i64 p.year, .slice a3 p.opts.length c3, .slice a4 p.tabs.length c4, .slice a5 p.grps.length c5, .slice a6 p.lns.length c6, .slice a7 p.cks.length c7]] W (AnP p W) := by
  refine (rput_any p a3 a4 a5 a6 a7 c3 c4 c5 c6 c7 W (szW_of hb (hR.rg hy)) hR.o hR.t hR.g hR.l hR.k).mono ?_
  rintro e W' ⟨hB, h⟩
  rw [bpP_enc] at h
  rcases h with ⟨h1, rfl⟩ | ⟨⟨h1, h2⟩, pa, cap, rfl, h3⟩
  · exact ⟨none, 0, [], 72, rfl, inb_none _, hB, .inr ⟨h1, rfl, rfl⟩⟩
  · exact ⟨pa, cap, _, 0, rfl, InB.of_own h3, hB, .inl ⟨h1, h2, rfl, rfl⟩⟩
theorem put_ans (p : Pk) (a3 a4 a5 a6 a7 : Option Addr) (c3 c4 c5 c6 c7 : Nat) (W : World) (hb : BK p ≤ 1048576) (hy : Rg p.year) (hR : Rows W (fun b => b < W.heap.size) p a3 a4 a5 a6 a7) : Calls Try.prog 15 #[.agg #[.string ⟨p.name.toArray⟩, .int .i64 p.year, .slice a3 p.opts.length c3, .slice a4 p.tabs.length c4, .slice a5 p.grps.length c5, .slice a6 p.lns.length c6, .slice a7 p.cks.length c7]] W (AnP p W) := by
  have hc := put_any p [.string ⟨p.name.toArray⟩, .int .i64 p.year, .slice a3 p.opts.length c3, .slice a4 p.tabs.length c4, .slice a5 p.grps.length c5, .slice a6 p.lns.length c6, .slice a7 p.cks.length c7] (szP_of hb) W ⟨a3, c3, a4, c4, a5, c5, a6, c6, a7, c7, rfl, hy, hR.o, hR.t, hR.g, hR.l, hR.k⟩
  refine Calls.mono (show Calls Try.prog 15 #[.agg #[.string ⟨p.name.toArray⟩, .int .i64 p.year, .slice a3 p.opts.length c3, .slice a4 p.tabs.length c4, .slice a5 p.grps.length c5, .slice a6 p.lns.length c6, .slice a7 p.cks.length c7]] W _ from hc) ?_
  rintro e W' ⟨hB, acc, b, hw, ⟨rfl, rfl⟩ | ⟨rfl, pa, cap, rfl, h3, h4⟩⟩
  · refine ⟨none, 0, [], 72, rfl, inb_none _, hB, .inr ⟨fun h => ?_, rfl, rfl⟩⟩
    have := hw.2 rfl (by rw [List.length_append]; have : (sum4 (fnvB (encP p))).length = 4 := rfl; simp only [List.length_nil]; omega) h.1
    cases this
  · obtain ⟨-, h5, h6⟩ := hw.1 rfl
    rw [List.nil_append] at h5
    have hl : acc.length = (encP p).length + 4 := by rw [h5, List.length_append]; rfl
    exact ⟨pa, cap, acc, 0, rfl, InB.of_own h3, hB, .inl ⟨h6, by omega, h5, rfl⟩⟩

end Go.Proofs.Ytjgkjdalnjlefaa.V


namespace Go.Proofs.Ytjgkjdalnjlefaa.V
open Go.RowKit

theorem szR_of {p : Pk} (h : BK p ≤ 1048576) : SzR p ∧ cP p ≤ 5242890 := by
  have b := bk_sizes h
  have hC : ∀ c : Cl, wC c ≤ 1 * bkC c := fun c => by unfold wC bkC; rw [cNf_pn, cNf_pn]; omega
  have hL : ∀ l : Ln, wL l ≤ 1 * bkL l := fun l => by
    have := sum_le wC bkC 1 l.cls (fun c _ => hC c)
    unfold wL bkL cC cSum
    omega
  have hK : ∀ c : Ck, wK c ≤ 1 * bkK c := fun c => by unfold wK bkK; rw [cNf_pn]; omega
  have h1 := sum_le wL bkL 1 p.lns (fun c _ => hL c)
  have h2 := sum_le wK bkK 1 p.cks (fun c _ => hK c)
  have e1 : cLn p.lns = (p.lns.map wL).sum := rfl
  have e2 : cK p.cks = (p.cks.map wK).sum := rfl
  have hB : (p.lns.map bkL).sum ≤ 1048576 ∧ (p.cks.map bkK).sum ≤ 1048576 := by unfold BK at h; omega
  have o1 := b.o1
  have t1 := b.t1
  exact ⟨⟨b.o1, fun x hx => (b.o2 x hx).2.1, b.t1, fun x hx => (b.t2 x hx).2, b.g1, b.l1, fun x hx => (b.l2 x hx).2.1, by omega, b.k1, by omega⟩, by unfold cP cO; omega⟩
theorem rm_nils : ∀ j, j < 21 → (#[.slice none 0 0, .slice none 0 0, .slice none 0 0, .slice none 0 0, .slice none 0 0, .slice none 0 0, .slice none 0 0, .slice none 0 0, .slice none 0 0, .slice none 0 0, .slice none 0 0, .slice none 0 0, .slice none 0 0, .slice none 0 0, .slice none 0 0, .slice none 0 0, .slice none 0 0, .slice none 0 0, .slice none 0 0, .slice none 0 0, .slice none 0 0] : Array Value)[j]? = some (.slice none 0 0) := fun j hj => by
  rcases (by omega : j = 0 ∨ j = 1 ∨ j = 2 ∨ j = 3 ∨ j = 4 ∨ j = 5 ∨ j = 6 ∨ j = 7 ∨ j = 8 ∨ j = 9 ∨ j = 10 ∨ j = 11 ∨ j = 12 ∨ j = 13 ∨ j = 14 ∨ j = 15 ∨ j = 16 ∨ j = 17 ∨ j = 18 ∨ j = 19 ∨ j = 20) with rfl | rfl | rfl | rfl | rfl | rfl | rfl | rfl | rfl | rfl | rfl | rfl | rfl | rfl | rfl | rfl | rfl | rfl | rfl | rfl | rfl <;> rfl
/-- What is known of the pack that was lent. -/
structure LS (W0 : World) (LB R : Nat) (K : Nat → Value) (V : Nat → List Value) (N : Nat) (g0 g1 g2 g3 g4 n0 : Nat) (S : Nat → Prop) (p : Pk) (w : World) (q : Pk) : Prop where
  bel : Below W0.heap.size W0 w
  rm : RmAt w R R K V N
  rows : Rows w S q (some ⟨g0, 0, none⟩) (some ⟨g1, 0, none⟩) (some ⟨g2, 0, none⟩) (some ⟨g3, 0, none⟩) (some ⟨g4, 0, none⟩)
  fz2 : 0 < p.grps.length → Fz w g2
  fz3 : 0 < p.lns.length → Fz w g3
  fz4 : 0 < p.cks.length → Fz w g4
  tab : 0 < p.tabs.length → ∃ a c, w.cell? ⟨g1, 1, none⟩ = some (.slice a n0 c) ∧ (0 < n0 → ∃ gb, a = some ⟨gb, 0, none⟩ ∧ Fz w gb ∧ S gb ∧ Big V gb)
  box : ∀ (j : Nat) (v : Value), (#[.string ⟨p.name.toArray⟩, .int .i64 p.year, .slice (some ⟨g0, 0, none⟩) p.opts.length (p.opts.length + 40), .slice (some ⟨g1, 0, none⟩) p.tabs.length (p.tabs.length + 40), .slice (some ⟨g2, 0, none⟩) p.grps.length (p.grps.length + 40), .slice (some ⟨g3, 0, none⟩) p.lns.length (p.lns.length + 40), .slice (some ⟨g4, 0, none⟩) p.cks.length (p.cks.length + 40)] : Array Value)[j]? = some v → w.cell? ⟨LB, j, none⟩ = some v
  lt : LB < w.heap.size
  len : q.opts.length = p.opts.length ∧ q.tabs.length = p.tabs.length ∧ q.grps.length = p.grps.length ∧ q.lns.length = p.lns.length ∧ q.cks.length = p.cks.length
  nm : q.name = p.name
  yr : q.year = p.year
  bk : BK q = BK p
theorem fz_setc {W : World} {g b i : Nat} {u : Value} (h : Fz W g) : Fz (W.setCell ⟨b, i, none⟩ u) g := by
  obtain ⟨cs, t, h1⟩ := h
  by_cases hb : g = b
  · subst hb
    exact ⟨_, t, heap_set_gen h1 u⟩
  · exact ⟨cs, t, (Below.heap_setCell _ _ _ g (fun e => hb e)).trans h1⟩
theorem LS.later {W0 : World} {LB R : Nat} {K : Nat → Value} {V : Nat → List Value} {N g0 g1 g2 g3 g4 n0 : Nat} {S : Nat → Prop} {p : Pk} {w w' : World} {q : Pk} (h : LS W0 LB R K V N g0 g1 g2 g3 g4 n0 S p w q) (hb : Below w.heap.size w w') : LS W0 LB R K V N g0 g1 g2 g3 g4 n0 S p w' q := by
  have fz : ∀ {g}, Fz w g → Fz w' g := fun {g} hf => by
    obtain ⟨cs, t, h1⟩ := hf
    exact Fz.same ⟨cs, t, h1⟩ (hb.block g (Array.getElem?_eq_some_iff.1 h1).1)
  refine ⟨h.bel.trans (hb.mono h.bel.size), h.rm.new hb, h.rows.fr hb.size (fun b _ hlt => hb.block b hlt), fun hp => fz (h.fz2 hp), fun hp => fz (h.fz3 hp), fun hp => fz (h.fz4 hp), fun hp => ?_, fun j v hv => (bel_cell hb h.lt j).trans (h.box j v hv), Nat.lt_of_lt_of_le h.lt hb.size, h.len, h.nm, h.yr, h.bk⟩
  obtain ⟨a, c, h1, h2⟩ := h.tab hp
  refine ⟨a, c, (bel_cell hb (World.block_lt_of_cell? _ _ h1) 1).trans h1, fun hn => ?_⟩
  obtain ⟨gb, e, k1, k2⟩ := h2 hn
  exact ⟨gb, e, fz k1, k2⟩
/-- An int is turned. -/
theorem LS.poke {W0 : World} {LB R : Nat} {K : Nat → Value} {V : Nat → List Value} {N g0 g1 g2 g3 g4 n0 : Nat} {S : Nat → Prop} {p : Pk} {w : World} {q : Pk} (h : LS W0 LB R K V N g0 g1 g2 g3 g4 n0 S p w q) {g idx : Nat} {n z : Int} (hz : Rg z) (hc : w.cell? ⟨g, idx, none⟩ = some (.int .i64 n)) (hg : W0.heap.size ≤ g) (h1 : g ≠ R) (h2 : ∀ j, j < 21 → (K j).ownBlock ≠ some g) (h4 : g ≠ LB) (hB : Big V g)
    (h3 : ∀ j, j < 21 → rmT j ≠ 0 → ∀ n (cs : Array Value) f, w.heap[g]? = some (.cells cs (rmE j) f) → (∀ k, k < rmSp j → ∀ i u, (rmMk j k)[i]? = some u → cs[(n + 1 + k) * rmS j + i]? = some u) → ∀ k, k < rmSp j → ∀ i u, (rmMk j k)[i]? = some u → (n + 1 + k) * rmS j + i ≠ idx) : ∃ q', LS W0 LB R K V N g0 g1 g2 g3 g4 n0 S p (w.setCell ⟨g, idx, none⟩ (.int .i64 z)) q' := by
  have hW := pokw_set (z := z) hc
  obtain ⟨q', r1, r2, r3, l1, l2, l3, l4, l5, r4⟩ := h.rows.pok hz hW
  refine ⟨q', h.bel.setCell (p := ⟨g, idx, none⟩) hg _, rm_poke h.rm h1 h2 h3 hB, r1, fun hp => fz_setc (h.fz2 hp), fun hp => fz_setc (h.fz3 hp), fun hp => fz_setc (h.fz4 hp), fun hp => ?_, fun j v hv => ?_, Nat.lt_of_lt_of_le h.lt hW.size, ⟨l1.trans h.len.1, l2.trans h.len.2.1, l3.trans h.len.2.2.1, l4.trans h.len.2.2.2.1, l5.trans h.len.2.2.2.2⟩, r2.trans h.nm, r3.trans h.yr, r4.trans h.bk⟩
  · obtain ⟨a, c, k1, k2⟩ := h.tab hp
    refine ⟨a, c, hW.other (fun n e => by cases e) k1, fun hn => ?_⟩
    obtain ⟨gb, e, k3, k4⟩ := k2 hn
    exact ⟨gb, e, fz_setc k3, k4⟩
  · rw [World.cell?_setCell_other _ _ _ _ (fun e => h4 (by cases e; rfl))]
    exact h.box j v hv
theorem row_first {α : Type} {D : Elt α} {W : World} {S : Nat → Prop} {xs : List α} {g : Nat} (h : RowR D W S xs (some ⟨g, 0, none⟩)) (hp : 0 < xs.length) : S g ∧ ∃ cs, D.E W S xs[0] cs ∧ ∀ j, j < D.k → W.cell? ⟨g, j, none⟩ = cs[j]? := by
  obtain ⟨cs, -, hS, hE, hc⟩ := h.item hp
  refine ⟨hS, cs, hE, fun j hj => ?_⟩
  have := hc j hj
  rwa [Nat.zero_mul, Nat.add_zero, Nat.zero_add] at this

set_option maxRecDepth 8000 in
set_option maxHeartbeats 8000000 in
theorem puts_walk (p : Pk) (a3 a4 a5 a6 a7 : Option Addr) (c3 c4 c5 c6 c7 : Nat) (W : World) (hbk : BK p ≤ 1048576) (hy : Rg p.year) (hR : Rows W AnyB p a3 a4 a5 a6 a7) : Calls Try.prog 4 #[.agg #[.string ⟨p.name.toArray⟩, .int .i64 p.year, .slice a3 p.opts.length c3, .slice a4 p.tabs.length c4, .slice a5 p.grps.length c5, .slice a6 p.lns.length c6, .slice a7 p.cks.length c7]] W fun e W' => e = .returned (.bool true) ∧ Below W.heap.size W W' := by
  obtain ⟨Q, hQ⟩ : ∃ Q : Ending → World → Prop, Q = fun e W' => e = .returned (.bool true) ∧ Below W.heap.size W W' := ⟨_, rfl⟩
  have hfin : Hid (∀ w, Below W.heap.size W w → Q (.returned (.bool true)) w) := ⟨fun w hw => by rw [hQ]; exact ⟨rfl, hw⟩⟩
  rw [← hQ]
  clear hQ
  obtain ⟨X0, hX0⟩ : ∃ X, W.alloc (.cells #[.string ⟨p.name.toArray⟩, .int .i64 p.year, .slice a3 p.opts.length c3, .slice a4 p.tabs.length c4, .slice a5 p.grps.length c5, .slice a6 p.lns.length c6, .slice a7 p.cks.length c7] 29) = X := ⟨_, rfl⟩
  have hB0 : Below W.heap.size W X0 := by rw [← hX0]; exact (Below.refl _ _).alloc (Nat.le_refl _) _
  have hs0 : X0.heap.size = W.heap.size + 1 := by rw [← hX0]; simp
  have hr0 := hR.fr hB0.size (fun b _ hlt => hB0.block b hlt)
  have hbx0 : ∀ (j : Nat) (v : Value), (#[.string ⟨p.name.toArray⟩, .int .i64 p.year, .slice a3 p.opts.length c3, .slice a4 p.tabs.length c4, .slice a5 p.grps.length c5, .slice a6 p.lns.length c6, .slice a7 p.cks.length c7] : Array Value)[j]? = some v → X0.cell? ⟨W.heap.size, j, none⟩ = some v := fun j v hv => by
    rw [← hX0, cell_of_row _ _ j _ _ _ (heap_alloc_new W _)]
    exact hv
  have hbx : Hid (∀ w, Below X0.heap.size X0 w → ∀ (j : Nat) (v : Value), (#[.string ⟨p.name.toArray⟩, .int .i64 p.year, .slice a3 p.opts.length c3, .slice a4 p.tabs.length c4, .slice a5 p.grps.length c5, .slice a6 p.lns.length c6, .slice a7 p.cks.length c7] : Array Value)[j]? = some v → w.cell? ⟨W.heap.size, j, none⟩ = some v) := ⟨fun w hw j v hv => (bel_cell hw (by omega) j).trans (hbx0 j v hv)⟩
  have hsm := small_any p a3 a4 a5 a6 a7 c3 c4 c5 c6 c7 X0 (szP_of hbk) hr0.o hr0.t hr0.l hr0.k
  have q0 : X0.cell? ⟨W.heap.size, 0, none⟩ = some (.string ⟨p.name.toArray⟩) := hbx.out _ (Below.refl _ _) 0 _ rfl
  have q1 : X0.cell? ⟨W.heap.size, 1, none⟩ = some (.int .i64 p.year) := hbx.out _ (Below.refl _ _) 1 _ rfl
  have q2 : X0.cell? ⟨W.heap.size, 2, none⟩ = some (.slice a3 p.opts.length c3) := hbx.out _ (Below.refl _ _) 2 _ rfl
  have q3 : X0.cell? ⟨W.heap.size, 3, none⟩ = some (.slice a4 p.tabs.length c4) := hbx.out _ (Below.refl _ _) 3 _ rfl
  have q4 : X0.cell? ⟨W.heap.size, 4, none⟩ = some (.slice a5 p.grps.length c5) := hbx.out _ (Below.refl _ _) 4 _ rfl
  have q5 : X0.cell? ⟨W.heap.size, 5, none⟩ = some (.slice a6 p.lns.length c6) := hbx.out _ (Below.refl _ _) 5 _ rfl
  have q6 : X0.cell? ⟨W.heap.size, 6, none⟩ = some (.slice a7 p.cks.length c7) := hbx.out _ (Below.refl _ _) 6 _ rfl
  have hbkH := Hid.mk hbk
  have hyH := Hid.mk hy
  replace hs0 := Hid.mk hs0
  clear hbx0 hR hbk hy
  go_enter Try.func4, Try.ntmps4
  go_wp2_with (go_at_call 12; fail)
  clear hX0
  refine hsm.mono ?_
  rintro e w1 ⟨hB1, s, rfl⟩
  clear hsm q0 q1 q2 q3 q4 q5 q6
  have hW1 : Below W.heap.size W w1 := hB0.trans (hB1.mono hB0.size)
  cases s with
  | false =>
    have hf := hfin.out w1 hW1
    clear hW1 hB1 hr0 hbx
    go_wp2
    exact hf
  | true =>
  have q0 : w1.cell? ⟨W.heap.size, 0, none⟩ = some (.string ⟨p.name.toArray⟩) := hbx.out _ hB1 0 _ rfl
  have q1 : w1.cell? ⟨W.heap.size, 1, none⟩ = some (.int .i64 p.year) := hbx.out _ hB1 1 _ rfl
  have q2 : w1.cell? ⟨W.heap.size, 2, none⟩ = some (.slice a3 p.opts.length c3) := hbx.out _ hB1 2 _ rfl
  have q3 : w1.cell? ⟨W.heap.size, 3, none⟩ = some (.slice a4 p.tabs.length c4) := hbx.out _ hB1 3 _ rfl
  have q4 : w1.cell? ⟨W.heap.size, 4, none⟩ = some (.slice a5 p.grps.length c5) := hbx.out _ hB1 4 _ rfl
  have q5 : w1.cell? ⟨W.heap.size, 5, none⟩ = some (.slice a6 p.lns.length c6) := hbx.out _ hB1 5 _ rfl
  have q6 : w1.cell? ⟨W.heap.size, 6, none⟩ = some (.slice a7 p.cks.length c7) := hbx.out _ hB1 6 _ rfl
  have hr1 := (hr0.fr hB1.size (fun b _ hlt => hB1.block b hlt)).mo (S' := fun b => b < w1.heap.size) (fun b hlt _ => hlt)
  have hc := rput_ans p a3 a4 a5 a6 a7 c3 c4 c5 c6 c7 w1 hbkH.out hyH.out hr1
  go_wp2_with (go_at_call 13; fail)
  refine hc.mono ?_
  rintro e w2 ⟨pw, cw, lw, fw, rfl, hIw, hB2, hAw⟩
  clear hc q0 q1 q2 q3 q4 q5 q6
  have hX2b : Below X0.heap.size X0 w2 := hB1.trans (hB2.mono hB1.size)
  obtain ⟨X2, hX2⟩ : ∃ X, w2.alloc (.cells #[.slice none 0 0, .slice none 0 0, .slice none 0 0, .slice none 0 0, .slice none 0 0, .slice none 0 0, .slice none 0 0, .slice none 0 0, .slice none 0 0, .slice none 0 0, .slice none 0 0, .slice none 0 0, .slice none 0 0, .slice none 0 0, .slice none 0 0, .slice none 0 0, .slice none 0 0, .slice none 0 0, .slice none 0 0, .slice none 0 0, .slice none 0 0] 55) = X := ⟨_, rfl⟩
  have hRm : RmAt X2 w2.heap.size w2.heap.size (fun _ => .slice none 0 0) (fun _ => []) 0 := by
    rw [← hX2]
    exact rm_new w2 _ (fun j hj => rm_nils j hj)
  have hBX : Below w2.heap.size w2 X2 := by rw [← hX2]; exact (Below.refl _ _).alloc (Nat.le_refl _) _
  have hr2 := (hr1.mo (S' := AnyB) (fun _ _ _ => trivial)).fr hB2.size (fun b _ hlt => hB2.block b hlt)
  have hrX := (hr2.mo (S' := fun b => b < w2.heap.size) (fun b hlt _ => hlt)).fr hBX.size (fun b hb _ => hBX.block b hb)
  have hX2c : Below X0.heap.size X0 X2 := hX2b.trans (hBX.mono hX2b.size)
  have q0 : X2.cell? ⟨W.heap.size, 0, none⟩ = some (.string ⟨p.name.toArray⟩) := hbx.out _ hX2c 0 _ rfl
  have q1 : X2.cell? ⟨W.heap.size, 1, none⟩ = some (.int .i64 p.year) := hbx.out _ hX2c 1 _ rfl
  have q2 : X2.cell? ⟨W.heap.size, 2, none⟩ = some (.slice a3 p.opts.length c3) := hbx.out _ hX2c 2 _ rfl
  have q3 : X2.cell? ⟨W.heap.size, 3, none⟩ = some (.slice a4 p.tabs.length c4) := hbx.out _ hX2c 3 _ rfl
  have q4 : X2.cell? ⟨W.heap.size, 4, none⟩ = some (.slice a5 p.grps.length c5) := hbx.out _ hX2c 4 _ rfl
  have q5 : X2.cell? ⟨W.heap.size, 5, none⟩ = some (.slice a6 p.lns.length c6) := hbx.out _ hX2c 5 _ rfl
  have q6 : X2.cell? ⟨W.heap.size, 6, none⟩ = some (.slice a7 p.cks.length c7) := hbx.out _ hX2c 6 _ rfl
  have hz := szR_of hbkH.out
  have hc := packQ_rm p w2.heap.size w2.heap.size 0 _ _ a3 a4 a5 a6 a7 c3 c4 c5 c6 c7 X2 hz.1 (by have := hz.2; omega) hRm hrX.o hrX.t hrX.g hrX.l hrX.k
  go_wp2_with (go_at_call 14; fail)
  clear hX2
  refine hc.mono ?_
  rintro e w3 ⟨g0, g1, g2, g3, g4, K, V, VT, BT, rfl, hR3, hst, ro, rt, rg, rl, rk, bT, b2, b3, b4⟩
  clear hc q0 q1 q2 q3 q4 q5 q6 hrX
  have hB3 : Below w2.heap.size X2 w3 := RmStep.below hRm hst
  have hB23 : Below w2.heap.size w2 w3 := hBX.trans hB3
  obtain ⟨S, hS⟩ : ∃ S : Nat → Prop, S = fun b => w2.heap.size ≤ b ∧ b < w3.heap.size ∧ b ≠ w2.heap.size ∧ ∀ j, j < 21 → (K j).ownBlock ≠ some b := ⟨_, rfl⟩
  have hSn : ∀ b, b < w3.heap.size → SnR X2.heap.size w2.heap.size K w3 b → S b := fun b _ h => by rw [hS]; exact ⟨Nat.le_trans hBX.size h.1, h.2.1, h.2.2.1, h.2.2.2⟩
  have hSo : Hid (∀ b, S b → w2.heap.size ≤ b ∧ b < w3.heap.size ∧ b ≠ w2.heap.size ∧ ∀ j, j < 21 → (K j).ownBlock ≠ some b) := ⟨fun b h => by rw [hS] at h; exact h⟩
  have rt2 := rt.mo hSn
  have hr3 : Rows w3 S p (some ⟨g0, 0, none⟩) (some ⟨g1, 0, none⟩) (some ⟨g2, 0, none⟩) (some ⟨g3, 0, none⟩) (some ⟨g4, 0, none⟩) := ⟨ro.mo hSn, (rt.imp (D' := eT) rfl (fun _ _ h => eTc_weak h)).mo hSn, rg.mo hSn, rl.mo hSn, rk.mo hSn⟩
  obtain ⟨n0, hn0⟩ : ∃ n0, n0 = if h : 0 < p.tabs.length then p.tabs[0].2.length else 0 := ⟨_, rfl⟩
  have htab : 0 < p.tabs.length → ∃ a c, w3.cell? ⟨g1, 1, none⟩ = some (.slice a n0 c) ∧ (0 < n0 → ∃ gb, a = some ⟨gb, 0, none⟩ ∧ Fz w3 gb ∧ S gb ∧ Big V gb) := fun hp => by
    obtain ⟨-, cs, ⟨a, c, rfl, hRb, hq⟩, hcc⟩ := row_first rt2 hp
    have hn : n0 = p.tabs[0].2.length := by rw [hn0, dif_pos hp]
    refine ⟨a, c, by rw [hn]; exact hcc 1 (show 1 < 2 by decide), fun hpos => ?_⟩
    obtain ⟨gb, e, h1, h2, h3⟩ := hq (by omega)
    refine ⟨gb, e, h3, ?_, bT gb h1 h2⟩
    rw [e] at hRb
    exact row_own hRb (by omega)
  obtain ⟨w4, hw4⟩ : ∃ X, w3.alloc (.cells #[.string ⟨p.name.toArray⟩, .int .i64 p.year, .slice (some ⟨g0, 0, none⟩) p.opts.length (p.opts.length + 40), .slice (some ⟨g1, 0, none⟩) p.tabs.length (p.tabs.length + 40), .slice (some ⟨g2, 0, none⟩) p.grps.length (p.grps.length + 40), .slice (some ⟨g3, 0, none⟩) p.lns.length (p.lns.length + 40), .slice (some ⟨g4, 0, none⟩) p.cks.length (p.cks.length + 40)] 29) = X := ⟨_, rfl⟩
  have hB4 : Below w3.heap.size w3 w4 := by rw [← hw4]; exact (Below.refl _ _).alloc (Nat.le_refl _) _
  have hB24 : Below w2.heap.size w2 w4 := hB23.trans (hB4.mono hB23.size)
  have hX4 : Below X0.heap.size X0 w4 := hX2b.trans (hB24.mono hX2b.size)
  have hbel4 : Below W.heap.size W w4 := hB0.trans (hX4.mono hB0.size)
  have hLlt : w3.heap.size < w4.heap.size := by rw [← hw4]; simp
  have hL4 : LS W w3.heap.size w2.heap.size K V (0 + cP p) g0 g1 g2 g3 g4 n0 S p w4 p := by
    have fz : ∀ {g}, Fz w3 g → Fz w4 g := fun {g} hf => by
      obtain ⟨cs, t, h1⟩ := hf
      exact Fz.same ⟨cs, t, h1⟩ (hB4.block g (Array.getElem?_eq_some_iff.1 h1).1)
    refine ⟨hbel4, hR3.new hB4, hr3.fr hB4.size (fun b _ hlt => hB4.block b hlt), fun hp => fz (b2 hp).2, fun hp => fz (b3 hp).2, fun hp => fz (b4 hp).2, fun hp => ?_, fun j v hv => ?_, hLlt, ⟨rfl, rfl, rfl, rfl, rfl⟩, rfl, rfl, rfl⟩
    · obtain ⟨a, c, h1, h2⟩ := htab hp
      refine ⟨a, c, (bel_cell hB4 (World.block_lt_of_cell? _ _ h1) 1).trans h1, fun hn => ?_⟩
      obtain ⟨gb, e, k1, k2⟩ := h2 hn
      exact ⟨gb, e, fz k1, k2⟩
    · rw [← hw4, cell_of_row _ _ j _ _ _ (heap_alloc_new w3 _)]
      exact hv
  have hbig : Hid ((0 < p.grps.length → Big V g2) ∧ (0 < p.lns.length → Big V g3) ∧ (0 < p.cks.length → Big V g4)) := ⟨fun hp => (b2 hp).1, fun hp => (b3 hp).1, fun hp => (b4 hp).1⟩
  have hNb : Hid (0 + cP p ≤ 1000000000) := ⟨by have := hz.2; omega⟩
  generalize 0 + cP p = N at *
  clear ro rt rg rl rk bT b2 b3 b4 hR3 hst hRm hr3 rt2 htab hSn hS hn0 hz hB3 hr1
  have l0 : w4.cell? ⟨w3.heap.size, 0, none⟩ = some (.string ⟨p.name.toArray⟩) := hL4.box 0 _ rfl
  have l1 : w4.cell? ⟨w3.heap.size, 1, none⟩ = some (.int .i64 p.year) := hL4.box 1 _ rfl
  have l2 : w4.cell? ⟨w3.heap.size, 2, none⟩ = some (.slice (some ⟨g0, 0, none⟩) p.opts.length (p.opts.length + 40)) := hL4.box 2 _ rfl
  have l3 : w4.cell? ⟨w3.heap.size, 3, none⟩ = some (.slice (some ⟨g1, 0, none⟩) p.tabs.length (p.tabs.length + 40)) := hL4.box 3 _ rfl
  have l4 : w4.cell? ⟨w3.heap.size, 4, none⟩ = some (.slice (some ⟨g2, 0, none⟩) p.grps.length (p.grps.length + 40)) := hL4.box 4 _ rfl
  have l5 : w4.cell? ⟨w3.heap.size, 5, none⟩ = some (.slice (some ⟨g3, 0, none⟩) p.lns.length (p.lns.length + 40)) := hL4.box 5 _ rfl
  have l6 : w4.cell? ⟨w3.heap.size, 6, none⟩ = some (.slice (some ⟨g4, 0, none⟩) p.cks.length (p.cks.length + 40)) := hL4.box 6 _ rfl
  have hc := put_ans p (some ⟨g0, 0, none⟩) (some ⟨g1, 0, none⟩) (some ⟨g2, 0, none⟩) (some ⟨g3, 0, none⟩) (some ⟨g4, 0, none⟩) (p.opts.length + 40) (p.tabs.length + 40) (p.grps.length + 40) (p.lns.length + 40) (p.cks.length + 40) w4 hbkH.out hyH.out (hL4.rows.mo (fun b hlt _ => hlt))
  go_wp2_with (go_at_call 15; fail)
  clear hw4
  refine hc.mono ?_
  rintro e w5 ⟨pb, cb, lb, fb, rfl, hIb, hB5, hAb⟩
  clear hc l0 l1 l2 l3 l4 l5 l6
  obtain ⟨rfl, rfl⟩ := ans_one hAw hAb
  have hL5 := hL4.later hB5
  have hIw5 : InB w5 pw cw lb := (hIw.bel hB24 (Nat.le_refl _)).bel hB5 (Nat.le_refl _)
  clear hAw hAb hIw
  have l0 : w5.cell? ⟨w3.heap.size, 0, none⟩ = some (.string ⟨p.name.toArray⟩) := hL5.box 0 _ rfl
  have l1 : w5.cell? ⟨w3.heap.size, 1, none⟩ = some (.int .i64 p.year) := hL5.box 1 _ rfl
  have l2 : w5.cell? ⟨w3.heap.size, 2, none⟩ = some (.slice (some ⟨g0, 0, none⟩) p.opts.length (p.opts.length + 40)) := hL5.box 2 _ rfl
  have l3 : w5.cell? ⟨w3.heap.size, 3, none⟩ = some (.slice (some ⟨g1, 0, none⟩) p.tabs.length (p.tabs.length + 40)) := hL5.box 3 _ rfl
  have l4 : w5.cell? ⟨w3.heap.size, 4, none⟩ = some (.slice (some ⟨g2, 0, none⟩) p.grps.length (p.grps.length + 40)) := hL5.box 4 _ rfl
  have l5 : w5.cell? ⟨w3.heap.size, 5, none⟩ = some (.slice (some ⟨g3, 0, none⟩) p.lns.length (p.lns.length + 40)) := hL5.box 5 _ rfl
  have l6 : w5.cell? ⟨w3.heap.size, 6, none⟩ = some (.slice (some ⟨g4, 0, none⟩) p.cks.length (p.cks.length + 40)) := hL5.box 6 _ rfl
  have hX5 : Below X0.heap.size X0 w5 := hX4.trans (hB5.mono hX4.size)
  have q0 : w5.cell? ⟨W.heap.size, 0, none⟩ = some (.string ⟨p.name.toArray⟩) := hbx.out _ hX5 0 _ rfl
  have q1 : w5.cell? ⟨W.heap.size, 1, none⟩ = some (.int .i64 p.year) := hbx.out _ hX5 1 _ rfl
  have q2 : w5.cell? ⟨W.heap.size, 2, none⟩ = some (.slice a3 p.opts.length c3) := hbx.out _ hX5 2 _ rfl
  have q3 : w5.cell? ⟨W.heap.size, 3, none⟩ = some (.slice a4 p.tabs.length c4) := hbx.out _ hX5 3 _ rfl
  have q4 : w5.cell? ⟨W.heap.size, 4, none⟩ = some (.slice a5 p.grps.length c5) := hbx.out _ hX5 4 _ rfl
  have q5 : w5.cell? ⟨W.heap.size, 5, none⟩ = some (.slice a6 p.lns.length c6) := hbx.out _ hX5 5 _ rfl
  have q6 : w5.cell? ⟨W.heap.size, 6, none⟩ = some (.slice a7 p.cks.length c7) := hbx.out _ hX5 6 _ rfl
  have hsame := same_any pb pw cb cw lb lb w5 hIb hIw5
  rw [show (lb == lb) = true from beq_self_eq_true lb] at hsame
  have hr5 := hr2.fr (hB24.trans (hB5.mono hB24.size)).size (fun b _ hlt => (hB24.trans (hB5.mono hB24.size)).block b hlt)
  have hA5 : Rows w5 AnyB p (some ⟨g0, 0, none⟩) (some ⟨g1, 0, none⟩) (some ⟨g2, 0, none⟩) (some ⟨g3, 0, none⟩) (some ⟨g4, 0, none⟩) := hL5.rows.mo (fun _ _ _ => trivial)
  have hzz := szP_of hbkH.out
  have hsp := samePack_any p.name p.name p.year p.year p.opts p.opts p.tabs p.tabs p.grps p.grps p.lns p.lns p.cks p.cks (some ⟨g0, 0, none⟩) (some ⟨g1, 0, none⟩) (some ⟨g2, 0, none⟩) (some ⟨g3, 0, none⟩) (some ⟨g4, 0, none⟩) a3 a4 a5 a6 a7 (p.opts.length + 40) (p.tabs.length + 40) (p.grps.length + 40) (p.lns.length + 40) (p.cks.length + 40) c3 c4 c5 c6 c7 w5 ⟨⟨hzz.opts.1, fun x hx => (hzz.opts.2 x hx).2.1⟩, ⟨hzz.tabs.1, fun x hx => (hzz.tabs.2 x hx).2⟩, hzz.grps.1⟩ ⟨⟨hzz.lns.1, fun x hx => (hzz.lns.2 x hx).2⟩, hzz.cks.1, fun x hx => (hzz.cks.2 x hx).2.2⟩ hA5.o hr5.o hA5.t hr5.t hA5.g hr5.g hA5.l hr5.l hA5.k hr5.k
  have hsp := hsp.mono (R' := fun e W' => e = .returned (.bool true) ∧ Below w5.heap.size w5 W') (by
    rintro e W' ⟨hb, r, rfl, hr⟩
    rw [hr.2 ⟨⟨rfl, rfl, rfl, rfl, rfl⟩, rfl, rfl⟩]
    exact ⟨rfl, hb⟩)
  clear hr2 hr5 hA5 hzz hIb hIw5 hr0
  have hnum := num_any fb w5
  go_wp2_with (first | (go_at_call 8; refine hnum.mono ?_; clear hnum; rintro e w6 ⟨rfl, rfl⟩) | (go_at_call 10; refine hsame.mono ?_; clear hsame; rintro e w6 ⟨rfl, rfl⟩) | (go_at_call 9; fail))
  refine hsp.mono ?_
  rintro e w7 ⟨rfl, hB7⟩
  have hL7 := hL5.later hB7
  clear hsp q0 q1 q2 q3 q4 q5 q6 l0 l1 l2 l3 l4 l5 l6
  have hho := hold_rm _ _ N K V w7 (by have := hNb.out; omega) hL7.rm
  go_wp2_with (go_at_call 11; fail)
  refine hho.mono ?_
  rintro e w8 ⟨rfl, hB8⟩
  have hL8 := hL7.later hB8
  clear hho hL7 hL5 hL4
  replace hX5 := Hid.mk hX5
  have hw2W : Hid (W.heap.size ≤ w2.heap.size) := ⟨Nat.le_trans hB0.size hX2b.size⟩
  clear hB0 hB1 hW1 hB2 hX2b hBX hX2c hB23 hB4 hB24 hX4 hbel4 hB5 hB7 hB8 hX5 hbx
  obtain ⟨p8, hp8⟩ : ∃ q, q = p := ⟨_, rfl⟩
  have hL8 : LS W w3.heap.size w2.heap.size K V N g0 g1 g2 g3 g4 n0 S p w8 p8 := by rw [hp8]; exact hL8
  clear hp8
  have l4 : w8.cell? ⟨w3.heap.size, 4, none⟩ = some (.slice (some ⟨g2, 0, none⟩) p.grps.length (p.grps.length + 40)) := hL8.box 4 _ rfl
  go_upto_if 52 with fail
  go_cut [2] (fun rv wx => rv = .bool false ∧ ∃ q', LS W w3.heap.size w2.heap.size K V N g0 g1 g2 g3 g4 n0 S p wx q')
  case first =>
    by_cases hpos : 0 < p.grps.length
    · have hpos' : (0 : Int) < (p.grps.length : Int) := by omega
      have hpq : 0 < p8.grps.length := by have := hL8.len; omega
      obtain ⟨hSg, cs, ⟨rfl, -⟩, hcc⟩ := row_first hL8.rows.g hpq
      have hcn : w8.cell? ⟨g2, 1, none⟩ = some (.int .i64 p8.grps[0].2) := hcc 1 (by decide)
      generalize p8.grps[0].2 = n at *
      obtain ⟨k1, k2, k3, k4⟩ := hSo.out _ hSg
      have hfz := (hL8.fz2 hpos).free 1
      obtain ⟨qq, hq⟩ := hL8.poke (xor_rg n) hcn (Nat.le_trans hw2W.out k1) k3 k4 (by omega) (hbig.out.1 hpos) (no_mark1 hcn)
      have hqH := Hid.mk hq
      clear hq
      go_wp2_with fail
      go_region
      all_goals (go_wp2_with fail; go_meet; exact ⟨rfl, qq, hqH.out.later ((Below.refl _ _).drew)⟩)
    · have hpos' : ¬ (0 : Int) < (p.grps.length : Int) := by omega
      go_wp2_with fail
      go_meet
      exact ⟨rfl, p8, hL8⟩
  case rest =>
  obtain ⟨rfl, q', hLn⟩ := hcut
  obtain ⟨w9, hwn⟩ : ∃ w, w = wc := ⟨_, rfl⟩
  rw [← hwn] at hLn ⊢
  obtain ⟨p9, hqn⟩ : ∃ q, q = q' := ⟨_, rfl⟩
  rw [← hqn] at hLn
  have hL9 := hLn
  clear hLn hwn hqn hL8 l4
  have l3 : w9.cell? ⟨w3.heap.size, 3, none⟩ = some (.slice (some ⟨g1, 0, none⟩) p.tabs.length (p.tabs.length + 40)) := hL9.box 3 _ rfl
  obtain ⟨bt, hbt⟩ : ∃ b : Bool, b = decide (0 < p.tabs.length ∧ 0 < n0) := ⟨_, rfl⟩
  go_upto_region 11 with fail
  go_cut [75] (fun bv wx => bv = .bool bt ∧ wx = w9)
  case first =>
    by_cases hpos : 0 < p.tabs.length
    · have hpos' : (0 : Int) < (p.tabs.length : Int) := by omega
      obtain ⟨a, c, hc1, -⟩ := hL9.tab hpos
      by_cases hn0 : 0 < n0
      · have hn0' : (0 : Int) < (n0 : Int) := by omega
        have hb : Hid (true = bt) := ⟨by rw [hbt]; simp [hpos, hn0]⟩
        clear hbt
        go_wp2_with fail
        go_meet
        exact ⟨by rw [hb.out], rfl⟩
      · have hn0' : ¬ (0 : Int) < (n0 : Int) := by omega
        have hb : Hid (false = bt) := ⟨by rw [hbt]; simp [hn0]⟩
        clear hbt
        go_wp2_with fail
        go_meet
        exact ⟨by rw [hb.out], rfl⟩
    · have hpos' : ¬ (0 : Int) < (p.tabs.length : Int) := by omega
      have hb : Hid (false = bt) := ⟨by rw [hbt]; simp [hpos]⟩
      clear hbt
      go_wp2_with fail
      go_meet
      exact ⟨by rw [hb.out], rfl⟩
  case rest =>
  obtain ⟨rfl, hwc⟩ := hcut
  have hwd := hwc.symm
  subst hwd
  clear hwc
  replace hbt := Hid.mk hbt
  go_upto_if 75 with fail
  go_cut [2] (fun rv wx => rv = .bool false ∧ ∃ q', LS W w3.heap.size w2.heap.size K V N g0 g1 g2 g3 g4 n0 S p wx q')
  case first =>
    cases bt with
    | true =>
      have hbb : 0 < p.tabs.length ∧ 0 < n0 := of_decide_eq_true hbt.out.symm
      obtain ⟨hpos, hn0⟩ := hbb
      have hpos' : (0 : Int) < (p.tabs.length : Int) := by omega
      have hpq : 0 < p9.tabs.length := by have := hL9.len; omega
      obtain ⟨a, c, hc1, hgb⟩ := hL9.tab hpos
      have hn0' : (0 : Int) < (n0 : Int) := by omega
      obtain ⟨gb, rfl, hfb, hSb, hBb⟩ := hgb hn0
      obtain ⟨-, cs, ⟨a', c', rfl, hRb⟩, hcc⟩ := row_first hL9.rows.t hpq
      have hc2 : w9.cell? ⟨g1, 1, none⟩ = some (.slice a' p9.tabs[0].2.length c') := hcc 1 (by decide)
      rw [hc1] at hc2
      simp only [Option.some.injEq, Value.slice.injEq] at hc2
      obtain ⟨ha, hln, -⟩ := hc2
      rw [← ha] at hRb
      obtain ⟨-, cs2, ⟨rfl, -⟩, hcc2⟩ := row_first hRb (by omega)
      obtain ⟨n, hcn⟩ : ∃ n, w9.cell? ⟨gb, 1, none⟩ = some (.int .i64 n) := ⟨_, hcc2 1 (by decide)⟩
      clear hcc hcc2 ha hln hRb hgb
      obtain ⟨k1, k2, k3, k4⟩ := hSo.out _ hSb
      have hfz := hfb.free 1
      obtain ⟨qq, hq⟩ := hL9.poke (xor_rg n) hcn (Nat.le_trans hw2W.out k1) k3 k4 (by omega) hBb (no_mark1 hcn)
      have hqH := Hid.mk hq
      clear hq
      go_wp2_with fail
      go_region
      all_goals (go_wp2_with fail; go_meet; exact ⟨rfl, qq, hqH.out.later ((Below.refl _ _).drew)⟩)
    | false =>
      go_wp2_with fail
      go_meet
      exact ⟨rfl, p9, hL9⟩
  case rest =>
  obtain ⟨rfl, q', hLn⟩ := hcut
  obtain ⟨w10, hwn⟩ : ∃ w, w = wc := ⟨_, rfl⟩
  rw [← hwn] at hLn ⊢
  obtain ⟨p10, hqn⟩ : ∃ q, q = q' := ⟨_, rfl⟩
  rw [← hqn] at hLn
  have hL10 := hLn
  clear hLn hwn hqn hL9 l3
  have l5 : w10.cell? ⟨w3.heap.size, 5, none⟩ = some (.slice (some ⟨g3, 0, none⟩) p.lns.length (p.lns.length + 40)) := hL10.box 5 _ rfl
  go_upto_if 95 with fail
  go_cut [2] (fun rv wx => rv = .bool false ∧ ∃ q', LS W w3.heap.size w2.heap.size K V N g0 g1 g2 g3 g4 n0 S p wx q')
  case first =>
    by_cases hpos : 0 < p.lns.length
    · have hpos' : (0 : Int) < (p.lns.length : Int) := by omega
      have hpq : 0 < p10.lns.length := by have := hL10.len; omega
      obtain ⟨hSg, cs, ⟨a, c, rfl, -, -⟩, hcc⟩ := row_first hL10.rows.l hpq
      have hc2 : w10.cell? ⟨g3, 2, none⟩ = some (.bool p10.lns[0].must) := hcc 2 (by decide)
      have hcn : w10.cell? ⟨g3, 3, none⟩ = some (.int .i64 p10.lns[0].type) := hcc 3 (by decide)
      generalize p10.lns[0].type = n at hcn
      clear hcc
      obtain ⟨k1, k2, k3, k4⟩ := hSo.out _ hSg
      have hfz := (hL10.fz3 hpos).free 3
      obtain ⟨qq, hq⟩ := hL10.poke (xor_rg n) hcn (Nat.le_trans hw2W.out k1) k3 k4 (by omega) (hbig.out.2.1 hpos) (no_mark3L hc2 hcn)
      have hqH := Hid.mk hq
      clear hq
      go_wp2_with fail
      go_region
      all_goals (go_wp2_with fail; go_meet; exact ⟨rfl, qq, hqH.out.later ((Below.refl _ _).drew)⟩)
    · have hpos' : ¬ (0 : Int) < (p.lns.length : Int) := by omega
      go_wp2_with fail
      go_meet
      exact ⟨rfl, p10, hL10⟩
  case rest =>
  obtain ⟨rfl, q', hLn⟩ := hcut
  obtain ⟨w11, hwn⟩ : ∃ w, w = wc := ⟨_, rfl⟩
  rw [← hwn] at hLn ⊢
  obtain ⟨p11, hqn⟩ : ∃ q, q = q' := ⟨_, rfl⟩
  rw [← hqn] at hLn
  have hL11 := hLn
  clear hLn hwn hqn hL10 l5
  have l6 : w11.cell? ⟨w3.heap.size, 6, none⟩ = some (.slice (some ⟨g4, 0, none⟩) p.cks.length (p.cks.length + 40)) := hL11.box 6 _ rfl
  go_upto_if 109 with fail
  go_cut [2] (fun rv wx => rv = .bool false ∧ ∃ q', LS W w3.heap.size w2.heap.size K V N g0 g1 g2 g3 g4 n0 S p wx q')
  case first =>
    by_cases hpos : 0 < p.cks.length
    · have hpos' : (0 : Int) < (p.cks.length : Int) := by omega
      have hpq : 0 < p11.cks.length := by have := hL11.len; omega
      obtain ⟨hSg, cs, ⟨a, c, rfl, -, -, -⟩, hcc⟩ := row_first hL11.rows.k hpq
      have hc2 : w11.cell? ⟨g4, 2, none⟩ = some (.int .i64 p11.cks[0].group) := hcc 2 (by decide)
      have hcn : w11.cell? ⟨g4, 3, none⟩ = some (.int .i64 p11.cks[0].when_.op) := hcc 3 (by decide)
      have hc7 : w11.cell? ⟨g4, 7, none⟩ = some (.slice a p11.cks[0].when_.args.len c) := hcc 7 (by decide)
      generalize p11.cks[0].when_.op = n at hcn
      clear hcc
      obtain ⟨k1, k2, k3, k4⟩ := hSo.out _ hSg
      have hfz := (hL11.fz4 hpos).free 3
      obtain ⟨qq, hq⟩ := hL11.poke (xor_rg n) hcn (Nat.le_trans hw2W.out k1) k3 k4 (by omega) (hbig.out.2.2 hpos) (no_mark3K hc2 hcn hc7)
      have hqH := Hid.mk hq
      clear hq
      go_wp2_with fail
      go_region
      all_goals (go_wp2_with fail; go_meet; exact ⟨rfl, qq, hqH.out.later ((Below.refl _ _).drew)⟩)
    · have hpos' : ¬ (0 : Int) < (p.cks.length : Int) := by omega
      go_wp2_with fail
      go_meet
      exact ⟨rfl, p11, hL11⟩
  case rest =>
  obtain ⟨rfl, q', hLn⟩ := hcut
  obtain ⟨w12, hwn⟩ : ∃ w, w = wc := ⟨_, rfl⟩
  rw [← hwn] at hLn ⊢
  obtain ⟨q, hqn⟩ : ∃ q, q = q' := ⟨_, rfl⟩
  rw [← hqn] at hLn
  have hL12 := hLn
  clear hLn hwn hqn hL11 l6
  obtain ⟨e1, e2, e3, e4, e5⟩ := hL12.len
  have qE : Hid (q.name = p.name ∧ q.year = p.year ∧ q.opts.length = p.opts.length ∧ q.tabs.length = p.tabs.length ∧ q.grps.length = p.grps.length ∧ q.lns.length = p.lns.length ∧ q.cks.length = p.cks.length) := ⟨hL12.nm, hL12.yr, e1, e2, e3, e4, e5⟩
  clear e1 e2 e3 e4 e5
  have qb : Hid (BK q ≤ 1048576 ∧ Rg q.year) := ⟨by rw [hL12.bk]; exact hbkH.out, by rw [hL12.yr]; exact hyH.out⟩
  obtain ⟨X5, hX5⟩ : ∃ X, w12.alloc (.cells #[.slice none 0 0, .slice none 0 0, .slice none 0 0, .slice none 0 0, .slice none 0 0, .slice none 0 0, .slice none 0 0, .slice none 0 0, .slice none 0 0, .slice none 0 0, .slice none 0 0, .slice none 0 0, .slice none 0 0, .slice none 0 0, .slice none 0 0, .slice none 0 0, .slice none 0 0, .slice none 0 0, .slice none 0 0, .slice none 0 0, .slice none 0 0] 55) = X := ⟨_, rfl⟩
  have hRm : RmAt X5 w12.heap.size w12.heap.size (fun _ => .slice none 0 0) (fun _ => []) 0 := by
    rw [← hX5]
    exact rm_new w12 _ (fun j hj => rm_nils j hj)
  have hB5 : Below w12.heap.size w12 X5 := by rw [← hX5]; exact (Below.refl _ _).alloc (Nat.le_refl _) _
  have hr5 := (hL12.rows.mo (S' := fun b => b < w12.heap.size) (fun b hlt _ => hlt)).fr hB5.size (fun b hb _ => hB5.block b hb)
  have hL5 := hL12.later hB5
  have hz := szR_of qb.out.1
  have hc := packQ_rm q w12.heap.size w12.heap.size 0 _ _ (some ⟨g0, 0, none⟩) (some ⟨g1, 0, none⟩) (some ⟨g2, 0, none⟩) (some ⟨g3, 0, none⟩) (some ⟨g4, 0, none⟩) (q.opts.length + 40) (q.tabs.length + 40) (q.grps.length + 40) (q.lns.length + 40) (q.cks.length + 40) X5 hz.1 (by have := hz.2; omega) hRm hr5.o hr5.t hr5.g hr5.l hr5.k
  have l0 : X5.cell? ⟨w3.heap.size, 0, none⟩ = some (.string ⟨q.name.toArray⟩) := by rw [qE.out.1]; exact hL5.box 0 _ rfl
  have l1 : X5.cell? ⟨w3.heap.size, 1, none⟩ = some (.int .i64 q.year) := by rw [qE.out.2.1]; exact hL5.box 1 _ rfl
  have l2 : X5.cell? ⟨w3.heap.size, 2, none⟩ = some (.slice (some ⟨g0, 0, none⟩) q.opts.length (q.opts.length + 40)) := by rw [qE.out.2.2.1]; exact hL5.box 2 _ rfl
  have l3 : X5.cell? ⟨w3.heap.size, 3, none⟩ = some (.slice (some ⟨g1, 0, none⟩) q.tabs.length (q.tabs.length + 40)) := by rw [qE.out.2.2.2.1]; exact hL5.box 3 _ rfl
  have l4 : X5.cell? ⟨w3.heap.size, 4, none⟩ = some (.slice (some ⟨g2, 0, none⟩) q.grps.length (q.grps.length + 40)) := by rw [qE.out.2.2.2.2.1]; exact hL5.box 4 _ rfl
  have l5 : X5.cell? ⟨w3.heap.size, 5, none⟩ = some (.slice (some ⟨g3, 0, none⟩) q.lns.length (q.lns.length + 40)) := by rw [qE.out.2.2.2.2.2.1]; exact hL5.box 5 _ rfl
  have l6 : X5.cell? ⟨w3.heap.size, 6, none⟩ = some (.slice (some ⟨g4, 0, none⟩) q.cks.length (q.cks.length + 40)) := by rw [qE.out.2.2.2.2.2.2]; exact hL5.box 6 _ rfl
  go_wp2_with (go_at_call 14; fail)
  clear hX5
  refine hc.mono ?_
  rintro e w13 ⟨h0, h1, h2, h3, h4, K2, V2, VT2, BT2, rfl, hR13, hst, ro, rt, rg, rl, rk, -⟩
  clear hc l0 l1 l2 l3 l4 l5 l6
  have hB13 : Below w12.heap.size w12 w13 := hB5.trans (RmStep.below hRm hst)
  have hL13 := hL12.later hB13
  have hr13 : Rows w13 (fun b => b < w13.heap.size) q (some ⟨h0, 0, none⟩) (some ⟨h1, 0, none⟩) (some ⟨h2, 0, none⟩) (some ⟨h3, 0, none⟩) (some ⟨h4, 0, none⟩) := ⟨ro.mo (fun b hb _ => hb), (rt.imp (D' := eT) rfl (fun _ _ h => eTc_weak h)).mo (fun b hb _ => hb), rg.mo (fun b hb _ => hb), rl.mo (fun b hb _ => hb), rk.mo (fun b hb _ => hb)⟩
  have hc := rput_ans q (some ⟨h0, 0, none⟩) (some ⟨h1, 0, none⟩) (some ⟨h2, 0, none⟩) (some ⟨h3, 0, none⟩) (some ⟨h4, 0, none⟩) (q.opts.length + 40) (q.tabs.length + 40) (q.grps.length + 40) (q.lns.length + 40) (q.cks.length + 40) w13 qb.out.1 qb.out.2 hr13
  clear ro rt rg rl rk hR13 hst hRm hr5 hL5 hz hr13
  go_wp2_with (go_at_call 13; fail)
  refine hc.mono ?_
  rintro e w14 ⟨pv, cv, lv, fv, rfl, hIv, hB14, hAv⟩
  have hL14 := hL13.later hB14
  clear hc hL13 hL12
  have l0 : w14.cell? ⟨w3.heap.size, 0, none⟩ = some (.string ⟨q.name.toArray⟩) := by rw [qE.out.1]; exact hL14.box 0 _ rfl
  have l1 : w14.cell? ⟨w3.heap.size, 1, none⟩ = some (.int .i64 q.year) := by rw [qE.out.2.1]; exact hL14.box 1 _ rfl
  have l2 : w14.cell? ⟨w3.heap.size, 2, none⟩ = some (.slice (some ⟨g0, 0, none⟩) q.opts.length (q.opts.length + 40)) := by rw [qE.out.2.2.1]; exact hL14.box 2 _ rfl
  have l3 : w14.cell? ⟨w3.heap.size, 3, none⟩ = some (.slice (some ⟨g1, 0, none⟩) q.tabs.length (q.tabs.length + 40)) := by rw [qE.out.2.2.2.1]; exact hL14.box 3 _ rfl
  have l4 : w14.cell? ⟨w3.heap.size, 4, none⟩ = some (.slice (some ⟨g2, 0, none⟩) q.grps.length (q.grps.length + 40)) := by rw [qE.out.2.2.2.2.1]; exact hL14.box 4 _ rfl
  have l5 : w14.cell? ⟨w3.heap.size, 5, none⟩ = some (.slice (some ⟨g3, 0, none⟩) q.lns.length (q.lns.length + 40)) := by rw [qE.out.2.2.2.2.2.1]; exact hL14.box 5 _ rfl
  have l6 : w14.cell? ⟨w3.heap.size, 6, none⟩ = some (.slice (some ⟨g4, 0, none⟩) q.cks.length (q.cks.length + 40)) := by rw [qE.out.2.2.2.2.2.2]; exact hL14.box 6 _ rfl
  have hc := put_ans q (some ⟨g0, 0, none⟩) (some ⟨g1, 0, none⟩) (some ⟨g2, 0, none⟩) (some ⟨g3, 0, none⟩) (some ⟨g4, 0, none⟩) (q.opts.length + 40) (q.tabs.length + 40) (q.grps.length + 40) (q.lns.length + 40) (q.cks.length + 40) w14 qb.out.1 qb.out.2 (hL14.rows.mo (fun b hlt _ => hlt))
  go_wp2_with (go_at_call 15; fail)
  refine hc.mono ?_
  rintro e w15 ⟨pu, cu, lu, fu, rfl, hIu, hB15, hAu⟩
  clear hc l0 l1 l2 l3 l4 l5 l6
  obtain ⟨rfl, rfl⟩ := ans_one hAv hAu
  have hL15 := hL14.later hB15
  have hIv5 : InB w15 pv cv lu := hIv.bel hB15 (Nat.le_refl _)
  have hsame := same_any pu pv cu cv lu lu w15 hIu hIv5
  rw [show (lu == lu) = true from beq_self_eq_true lu] at hsame
  have hnum := num_any fu w15
  have hho := hold_rm _ _ N K V w15 (by have := hNb.out; omega) hL15.rm
  have hbelF := Hid.mk hL15.bel
  clear hL14 hL15 hIv hIu hIv5 hAv hAu hB5 hB13 hB14 hB15
  go_wp2_with (first | (go_at_call 8; refine hnum.mono ?_; clear hnum; rintro e w16 ⟨rfl, rfl⟩) | (go_at_call 10; refine hsame.mono ?_; clear hsame; rintro e w16 ⟨rfl, rfl⟩) | (go_at_call 11; fail))
  refine hho.mono ?_
  rintro e w17 ⟨rfl, hB17⟩
  have hf := hfin.out w17 (hbelF.out.trans (hB17.mono hbelF.out.size))
  clear hho hB17
  go_wp2
  exact hf

end Go.Proofs.Ytjgkjdalnjlefaa.V
