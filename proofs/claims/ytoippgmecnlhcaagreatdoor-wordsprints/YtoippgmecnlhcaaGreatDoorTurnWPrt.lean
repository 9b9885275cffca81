import Derived.Test.YtoippgmecnlhcaaGreatDoorJoin35
import Derived.Lib.AppendStr
namespace Go.Proofs.YtoippgmecnlhcaaGreatDoor.Q
open Go.RowKit Go.Shelf

theorem own_aft {w w' : World} {base n size : Nat} {e : TypeId} {v : Value} {xs : List Value} (h : w.ownsRow base e size v n xs) (hb : Below w.heap.size w w') : w'.ownsRow base e size v n xs := h.kept (row := none) ⟨hb.os, hb.tape, hb.output, hb.size, fun k hk _ => hb.block k hk⟩ (by cases v.ownBlock <;> simp)
theorem bys_str {B : Nat} {w : World} {v : Value} {l x : List UInt8} {n : Nat} (hn : n = l.length + x.length) (h : w.ownsRow B 5 1 v n (Go.Lib.byteCells l ++ Go.Lib.strCells ⟨x.toArray⟩)) : Bys B w v (l ++ x) := by
  unfold Bys
  subst hn
  rw [List.length_append, Go.Lib.byteCells_append, ← show Go.Lib.strCells ⟨x.toArray⟩ = Go.Lib.byteCells x from rfl]
  exact h
/-- What Print answers. -/
def prV (T : List UInt8) : Value := if T.length ≤ 8000 then .tuple #[.string ⟨T.toArray⟩, .int .i64 0] else .tuple #[.string ⟨#[]⟩, .int .i64 45]
theorem prV_long {T acc y : List UInt8} (h : T = acc ++ y) (hl : 8000 < acc.length) : prV T = .tuple #[.string ⟨#[]⟩, .int .i64 45] := by
  unfold prV
  rw [if_neg (by rw [h, List.length_append]; omega)]
theorem prt_end (sp : Wd → List UInt8) (L : List Wd) (fr : Bool) : prt sp fr ((8, [], 0, 0) :: L) = [10] ++ prt sp true L := rfl
theorem prt_word (sp : Wd → List UInt8) (L : List Wd) (fr : Bool) (w : Wd) (h : w.1 ≠ 8) : prt sp fr (w :: L) = (if fr = true then [] else [32]) ++ (sp w ++ prt sp false L) := by
  show (if w.1 = 8 then _ else _) = _
  rw [if_neg h]

set_option maxRecDepth 8000 in
set_option maxHeartbeats 4000000 in
theorem print_any (v : Value) (L : List Itm) (hl : L.length ≤ 1000000) (hV : Vl (spl dtx) false (L.map (·.1))) (w : World) (hv : TokRow w v L) (hC : Cls w) (hE : ErrR w) (hM : Mon w) (hS : Sgn w) (hX : X.Tab w) : Calls Tryz.prog 6 #[v] w fun e w' => e = .returned (prV (prt (spl dtx) true (L.map (·.1)))) ∧ Below w.heap.size w w' := by
  obtain ⟨i0, hi, hz0, hz1, hz2⟩ := info_parts infoU
  obtain ⟨aa, ca, rfl, hda⟩ := hv
  obtain ⟨T, hT⟩ : ∃ T, prt (spl dtx) true (L.map (·.1)) = T := ⟨_, rfl⟩
  rw [hT]
  have hwr := fun (x : Wd) (hg : Gw (spl dtx) x) (at_ : Nat) W (hb : Below w.heap.size w W) => written_any x hg at_ W (hC.later hb) (hE.later hb) (hM.later hb) (hS.later hb) (hX.later hb)
  clear hC hE hM hS hX
  go_enter Tryz.func6, Tryz.ntmps6
  go_wp2
  go_loopw [4, 5, 13] (fun tv fv iv wr => ∃ (j : Nat) (fr : Bool) (acc : List UInt8), j ≤ L.length ∧ fv = .bool fr ∧ iv = .int .i64 j ∧ acc.length ≤ 8000 ∧ Hid (T = acc ++ prt (spl dtx) fr ((L.map (·.1)).drop j)) ∧ Vl (spl dtx) (!fr) ((L.map (·.1)).drop j) ∧ Bys w.heap.size wr tv acc ∧ Below w.heap.size w wr) (fun _ _ iv _ => L.length - (intOf iv).toNat)
  case atStart => exact ⟨0, true, [], by omega, rfl, rfl, by simp, by unfold Hid; exact hT.symm, hV, World.ownsRow_nil _ _ _ _, Below.refl _ _⟩
  case round =>
    obtain ⟨j, fr, acc, hj, rfl, rfl, hal, hTa, hVl, ho, hB⟩ := hrel
    clear hT hV
    obtain ⟨tp, tc, rfl⟩ := len_bys ho
    unfold Bys at ho
    have hsz := hB.size
    by_cases hlt : j < L.length
    · have hlt' : (j : Int) < L.length := by omega
      have hj0 : (0 : Int) ≤ (j : Int) := by omega
      rcases hda with h0 | ⟨ga, oa, rfl, hga, hca⟩
      · rw [h0] at hlt; simp at hlt
      obtain ⟨a0, a1, a2, a3, a4⟩ := hca j hlt
      have hdr : (L.map (·.1)).drop j = L[j].1 :: (L.map (·.1)).drop (j + 1) := by
        rw [List.drop_eq_getElem_cons (by rw [List.length_map]; exact hlt), List.getElem_map]
      rw [hdr] at hTa hVl
      clear hdr
      have hdj : (L.map (·.1)).drop (j + 1) = (L.map (·.1)).drop (j + 1) := rfl
      generalize hR : (L.map (·.1)).drop (j + 1) = R at hTa hVl
      have hR' : Hid ((L.map (·.1)).drop (j + 1) = R) := hR
      clear hR hdj
      generalize L[j] = x at *
      have a0' := (hB.cell (p := ⟨ga, _, none⟩) hga).trans a0
      have a1' := (hB.cell (p := ⟨ga, _, none⟩) hga).trans a1
      have a2' := (hB.cell (p := ⟨ga, _, none⟩) hga).trans a2
      have a3' := (hB.cell (p := ⟨ga, _, none⟩) hga).trans a3
      have a4' := (hB.cell (p := ⟨ga, _, none⟩) hga).trans a4
      clear a0 a1 a2 a3 a4 hca
      obtain ⟨⟨K, Tx, N, D0⟩, pl, er⟩ := x
      have hb1 := hB.alloc hsz (.cells #[.int .i64 (K : Int), .int .i64 (pl : Int), .string ⟨Tx.toArray⟩, .int .i64 (N : Int), .int .i64 (D0 : Int)] 60)
      have ho1 := ho.alloc (.cells #[.int .i64 (K : Int), .int .i64 (pl : Int), .string ⟨Tx.toArray⟩, .int .i64 (N : Int), .int .i64 (D0 : Int)] 60)
      rcases hVl with ⟨hxe, hfr, hVr⟩ | ⟨hg, hVr⟩
      · obtain ⟨rfl, rfl, rfl, rfl⟩ : K = 8 ∧ Tx = [] ∧ N = 0 ∧ D0 = 0 := by
          injection hxe with e1 e2
          injection e2 with e2 e3
          injection e3 with e3 e4
          exact ⟨e1, e2, e3, e4⟩
        obtain rfl : fr = false := by cases fr <;> simp at hfr ⊢
        rw [prt_end, ← List.append_assoc] at hTa
        have hwe := written_end pl (wr.alloc (.cells #[.int .i64 8, .int .i64 (pl : Int), .string ⟨#[]⟩, .int .i64 0, .int .i64 0] 60))
        have hb1' : Below w.heap.size w (wr.alloc (.cells #[.int .i64 8, .int .i64 (pl : Int), .string ⟨#[]⟩, .int .i64 0, .int .i64 0] 60)) := hb1
        have ho1' : (wr.alloc (.cells #[.int .i64 8, .int .i64 (pl : Int), .string ⟨#[]⟩, .int .i64 0, .int .i64 0] 60)).ownsRow w.heap.size 5 1 (.slice tp acc.length tc) acc.length (Go.Lib.byteCells acc) := ho1
        have hs10 : (ByteArray.mk #[10]).size = 1 := rfl
        clear hwr hxe hfr hb1 ho1 ho
        unfold tokC at hwe
        have hb1 := hb1'
        have ho1 := ho1'
        clear hb1' ho1'
        obtain ⟨acc2, hacc2⟩ : ∃ acc2, acc ++ [10] = acc2 := ⟨_, rfl⟩
        rw [hacc2] at hTa
        by_cases hlong : 8000 < acc2.length
        · have hlong' : (8000 : Int) < (acc2.length : Int) := by omega
          have hp : Hid (prV T = .tuple #[.string ⟨#[]⟩, .int .i64 45]) := prV_long hTa.out hlong
          clear hTa
          go_wp2_with (first | (go_at_call 14; refine hwe.mono ?_; rintro e w2 ⟨rfl, hb2⟩; have hB2 := below_step hb1 hb2; have ho2 := own_aft ho1 hb2; have hs2 := hB2.size) | (at_builtin; refine Go.Lib.wpList_append_own_string _ rfl _ _ 61 9 rfl w.heap.size 5 i0 Tryz.underlying61 Tryz.underlying9 hi hz0 hz1 hz2 _ acc.length _ rfl ho2 _ rfl (by have := hs10; unfold maxLen; omega) (by have := hs10; omega) (by omega) ?_; intro v4 w4 hown4 hgrow4 _; have hB4 : Below w.heap.size w w4 := hB2.grown hgrow4 (by omega) (fun j hj => (ho2.lt j hj).1); have hby4 := bys_str (l := acc) (x := [10]) (rfl) hown4; rw [hacc2] at hby4; obtain ⟨p4, c4, rfl⟩ := len_bys hby4))
          exact bodyPost_ret (v := .tuple #[.string ⟨#[]⟩, .int .i64 45]) (by simp [results, Tryz.results6, go_sem]) rfl ⟨by rw [hp.out], hB4⟩
        · have hlong' : ¬ (8000 : Int) < (acc2.length : Int) := by omega
          go_wp2_with (first | (go_at_call 14; refine hwe.mono ?_; rintro e w2 ⟨rfl, hb2⟩; have hB2 := below_step hb1 hb2; have ho2 := own_aft ho1 hb2; have hs2 := hB2.size) | (at_builtin; refine Go.Lib.wpList_append_own_string _ rfl _ _ 61 9 rfl w.heap.size 5 i0 Tryz.underlying61 Tryz.underlying9 hi hz0 hz1 hz2 _ acc.length _ rfl ho2 _ rfl (by have := hs10; unfold maxLen; omega) (by have := hs10; omega) (by omega) ?_; intro v4 w4 hown4 hgrow4 _; have hB4 : Below w.heap.size w w4 := hB2.grown hgrow4 (by omega) (fun j hj => (ho2.lt j hj).1); have hby4 := bys_str (l := acc) (x := [10]) (rfl) hown4; rw [hacc2] at hby4; obtain ⟨p4, c4, rfl⟩ := len_bys hby4))
          go_roundw
          case rel => exact ⟨j + 1, true, acc2, by omega, rfl, by go_num, by omega, by unfold Hid; rw [hR'.out]; exact hTa.out, by rw [hR'.out]; exact hVr, hby4, hB4⟩
          case measure => simp [intOf]; omega
      · have h8 : K ≠ 8 := hg.1
        have h8' : ((K : Int) == 8) = false := by simp; omega
        have hsl := spl_len (gw_ft hg)
        have hwe := hwr _ hg pl _ hb1
        rw [prt_word _ _ _ _ h8] at hTa
        obtain ⟨S, hS0⟩ : ∃ S, spl dtx (K, Tx, N, D0) = S := ⟨_, rfl⟩
        rw [hS0] at hwe hTa hsl
        have hsS : (ByteArray.mk S.toArray).size = S.length := by show S.toArray.size = _; simp
        unfold tokC at hwe
        clear hwr ho hS0 h8 hg
        cases fr with
        | true =>
          rw [if_pos rfl, List.nil_append, ← List.append_assoc] at hTa
          obtain ⟨acc2, hacc2⟩ : ∃ acc2, acc ++ S = acc2 := ⟨_, rfl⟩
          rw [hacc2] at hTa
          by_cases hlong : 8000 < acc2.length
          · have hlong' : (8000 : Int) < (acc2.length : Int) := by omega
            have hp : Hid (prV T = .tuple #[.string ⟨#[]⟩, .int .i64 45]) := prV_long hTa.out hlong
            clear hTa
            go_wp2_with (first | (go_at_call 14; refine hwe.mono ?_; rintro e w2 ⟨rfl, hb2⟩; have hB2 := below_step hb1 hb2; have ho2 := own_aft ho1 hb2; have hs2 := hB2.size) | (at_builtin; refine Go.Lib.wpList_append_own_string _ rfl _ _ 61 9 rfl w.heap.size 5 i0 Tryz.underlying61 Tryz.underlying9 hi hz0 hz1 hz2 _ acc.length _ rfl ho2 _ rfl (by have := hsS; unfold maxLen; omega) (by have := hsS; omega) (by omega) ?_; intro v4 w4 hown4 hgrow4 _; have hB4 : Below w.heap.size w w4 := hB2.grown hgrow4 (by omega) (fun j hj => (ho2.lt j hj).1); have hby4 := bys_str (l := acc) (x := S) (by rw [hsS]) hown4; rw [hacc2] at hby4; obtain ⟨p4, c4, rfl⟩ := len_bys hby4))
            exact bodyPost_ret (v := .tuple #[.string ⟨#[]⟩, .int .i64 45]) (by simp [results, Tryz.results6, go_sem]) rfl ⟨by rw [hp.out], hB4⟩
          · have hlong' : ¬ (8000 : Int) < (acc2.length : Int) := by omega
            go_wp2_with (first | (go_at_call 14; refine hwe.mono ?_; rintro e w2 ⟨rfl, hb2⟩; have hB2 := below_step hb1 hb2; have ho2 := own_aft ho1 hb2; have hs2 := hB2.size) | (at_builtin; refine Go.Lib.wpList_append_own_string _ rfl _ _ 61 9 rfl w.heap.size 5 i0 Tryz.underlying61 Tryz.underlying9 hi hz0 hz1 hz2 _ acc.length _ rfl ho2 _ rfl (by have := hsS; unfold maxLen; omega) (by have := hsS; omega) (by omega) ?_; intro v4 w4 hown4 hgrow4 _; have hB4 : Below w.heap.size w w4 := hB2.grown hgrow4 (by omega) (fun j hj => (ho2.lt j hj).1); have hby4 := bys_str (l := acc) (x := S) (by rw [hsS]) hown4; rw [hacc2] at hby4; obtain ⟨p4, c4, rfl⟩ := len_bys hby4))
            go_roundw
            case rel => exact ⟨j + 1, false, acc2, by omega, rfl, by go_num, by omega, by unfold Hid; rw [hR'.out]; exact hTa.out, by rw [hR'.out]; exact hVr, hby4, hB4⟩
            case measure => simp [intOf]; omega
        | false =>
          rw [if_neg (by simp), ← List.append_assoc, ← List.append_assoc] at hTa
          obtain ⟨acc1, hacc1⟩ : ∃ acc1, acc ++ [32] = acc1 := ⟨_, rfl⟩
          have hal1 : acc1.length ≤ 8001 := by rw [← hacc1, List.length_append, List.length_singleton]; omega
          rw [hacc1] at hTa
          obtain ⟨acc2, hacc2⟩ : ∃ acc2, acc1 ++ S = acc2 := ⟨_, rfl⟩
          rw [hacc2] at hTa
          by_cases hlong : 8000 < acc2.length
          · have hlong' : (8000 : Int) < (acc2.length : Int) := by omega
            have hp : Hid (prV T = .tuple #[.string ⟨#[]⟩, .int .i64 45]) := prV_long hTa.out hlong
            clear hTa
            go_wp2_with (first | (go_at_call 14; refine hwe.mono ?_; rintro e w2 ⟨rfl, hb2⟩; have hB2 := below_step hb1 hb2; have ho2 := own_aft ho1 hb2; have hs2 := hB2.size) | (at_builtin; refine wpList_append_own _ rfl _ _ 61 rfl w.heap.size 5 i0 (.int .u8 0) 1 1 Tryz.underlying61 hi hz0 hz1 hz2 rfl (by decide) _ _ _ rfl (ho2.alloc _) ⟨w2.heap.size, 0, none⟩ 1 1 [.int .u8 32] rfl rfl (cell_one_new _ _ _) (byte_one _) (by unfold maxLen; omega) (by omega) (by simp; omega) ?_; intro v3 w3 hown3 hgrow3 _; have hB3 : Below w.heap.size w w3 := (hB2.alloc hB2.size _).grown hgrow3 (by simp; omega) (fun j hj => (ho2.lt j hj).1); have hs3 := hB3.size; have hby3 : Bys w.heap.size w3 v3 (acc ++ [32]) := bys_snoc (c := 32) rfl rfl hown3; rw [hacc1] at hby3; obtain ⟨p3, c3, rfl⟩ := len_bys hby3; have ho3 : w3.ownsRow w.heap.size 5 1 (.slice p3 acc1.length c3) acc1.length (Go.Lib.byteCells acc1) := hby3) | (at_builtin; refine Go.Lib.wpList_append_own_string _ rfl _ _ 61 9 rfl w.heap.size 5 i0 Tryz.underlying61 Tryz.underlying9 hi hz0 hz1 hz2 _ acc1.length _ rfl ho3 _ rfl (by have := hsS; unfold maxLen; omega) (by have := hsS; omega) (by omega) ?_; intro v4 w4 hown4 hgrow4 _; have hB4 : Below w.heap.size w w4 := hB3.grown hgrow4 (by omega) (fun j hj => (ho3.lt j hj).1); have hby4 := bys_str (l := acc1) (x := S) (by rw [hsS]) hown4; rw [hacc2] at hby4; obtain ⟨p4, c4, rfl⟩ := len_bys hby4))
            exact bodyPost_ret (v := .tuple #[.string ⟨#[]⟩, .int .i64 45]) (by simp [results, Tryz.results6, go_sem]) rfl ⟨by rw [hp.out], hB4⟩
          · have hlong' : ¬ (8000 : Int) < (acc2.length : Int) := by omega
            go_wp2_with (first | (go_at_call 14; refine hwe.mono ?_; rintro e w2 ⟨rfl, hb2⟩; have hB2 := below_step hb1 hb2; have ho2 := own_aft ho1 hb2; have hs2 := hB2.size) | (at_builtin; refine wpList_append_own _ rfl _ _ 61 rfl w.heap.size 5 i0 (.int .u8 0) 1 1 Tryz.underlying61 hi hz0 hz1 hz2 rfl (by decide) _ _ _ rfl (ho2.alloc _) ⟨w2.heap.size, 0, none⟩ 1 1 [.int .u8 32] rfl rfl (cell_one_new _ _ _) (byte_one _) (by unfold maxLen; omega) (by omega) (by simp; omega) ?_; intro v3 w3 hown3 hgrow3 _; have hB3 : Below w.heap.size w w3 := (hB2.alloc hB2.size _).grown hgrow3 (by simp; omega) (fun j hj => (ho2.lt j hj).1); have hs3 := hB3.size; have hby3 : Bys w.heap.size w3 v3 (acc ++ [32]) := bys_snoc (c := 32) rfl rfl hown3; rw [hacc1] at hby3; obtain ⟨p3, c3, rfl⟩ := len_bys hby3; have ho3 : w3.ownsRow w.heap.size 5 1 (.slice p3 acc1.length c3) acc1.length (Go.Lib.byteCells acc1) := hby3) | (at_builtin; refine Go.Lib.wpList_append_own_string _ rfl _ _ 61 9 rfl w.heap.size 5 i0 Tryz.underlying61 Tryz.underlying9 hi hz0 hz1 hz2 _ acc1.length _ rfl ho3 _ rfl (by have := hsS; unfold maxLen; omega) (by have := hsS; omega) (by omega) ?_; intro v4 w4 hown4 hgrow4 _; have hB4 : Below w.heap.size w w4 := hB3.grown hgrow4 (by omega) (fun j hj => (ho3.lt j hj).1); have hby4 := bys_str (l := acc1) (x := S) (by rw [hsS]) hown4; rw [hacc2] at hby4; obtain ⟨p4, c4, rfl⟩ := len_bys hby4))
            go_roundw
            case rel => exact ⟨j + 1, false, acc2, by omega, rfl, by go_num, by omega, by unfold Hid; rw [hR'.out]; exact hTa.out, by rw [hR'.out]; exact hVr, hby4, hB4⟩
            case measure => simp [intOf]; omega
    · have hlt' : ¬ (j : Int) < L.length := by omega
      have hnil : (L.map (·.1)).drop j = [] := by
        rw [List.drop_eq_nil_iff, List.length_map]
        omega
      rw [hnil] at hTa hVl
      have hfr : (!fr) = false := hVl
      obtain rfl : fr = true := by cases fr <;> simp at hfr ⊢
      have hTa' : T = acc := by rw [hTa.out]; exact List.append_nil _
      have hcv := conv_bys (show Bys w.heap.size wr (.slice tp acc.length tc) acc from ho)
      have hp : Hid (prV T = .tuple #[.string ⟨acc.toArray⟩, .int .i64 0]) := by
        unfold Hid prV
        rw [hTa', if_pos hal]
      clear hTa' hTa hda hwr
      go_wp2
      exact bodyPost_ret (v := .tuple #[.string ⟨acc.toArray⟩, .int .i64 0]) (by simp [results, Tryz.results6, go_sem]) rfl ⟨by rw [hp.out], hB⟩

end Go.Proofs.YtoippgmecnlhcaaGreatDoor.Q
