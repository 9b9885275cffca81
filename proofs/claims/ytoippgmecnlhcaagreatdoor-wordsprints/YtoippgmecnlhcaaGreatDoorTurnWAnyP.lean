import Derived.Test.YtoippgmecnlhcaaGreatDoorJoin37
import Derived.Test.YtoippgmecnlhcaaGreatDoorTurnWPrt
namespace Go.Proofs.YtoippgmecnlhcaaGreatDoor.Q
open Go.RowKit Go.Shelf

/-- A slice of any tokens, in memory. -/
def TkRow (W : World) (v : Value) (L : List Tk) : Prop := ∃ a cap, v = .slice a L.length cap ∧ (L = [] ∨ ∃ g o, a = some ⟨g, o, none⟩ ∧ g < W.heap.size ∧ ∀ j (h : j < L.length),
  W.cell? ⟨g, o + j * 5, none⟩ = some (.int .i64 (L[j]).1) ∧ W.cell? ⟨g, o + j * 5 + 1, none⟩ = some (.int .i64 (L[j]).2.1) ∧ W.cell? ⟨g, o + j * 5 + 2, none⟩ = some (.string ⟨(L[j]).2.2.1.toArray⟩) ∧ W.cell? ⟨g, o + j * 5 + 3, none⟩ = some (.int .i64 (L[j]).2.2.2.1) ∧ W.cell? ⟨g, o + j * 5 + 4, none⟩ = some (.int .i64 (L[j]).2.2.2.2))
theorem TkRow.later {W W' : World} {v : Value} {L : List Tk} (h : TkRow W v L) (hb : Below W.heap.size W W') : TkRow W' v L := by
  obtain ⟨a, cap, rfl, h⟩ := h
  refine ⟨a, cap, rfl, ?_⟩
  rcases h with h | ⟨g, o, rfl, hg, hc⟩
  · exact .inl h
  · refine .inr ⟨g, o, rfl, Nat.lt_of_lt_of_le hg hb.size, fun j hj => ?_⟩
    obtain ⟨h0, h1, h2, h3, h4⟩ := hc j hj
    exact ⟨(hb.cell (p := ⟨g, _, none⟩) hg).trans h0, (hb.cell (p := ⟨g, _, none⟩) hg).trans h1, (hb.cell (p := ⟨g, _, none⟩) hg).trans h2, (hb.cell (p := ⟨g, _, none⟩) hg).trans h3, (hb.cell (p := ⟨g, _, none⟩) hg).trans h4⟩

/-- A token that came in, without its place; a word, as such a token. -/
def ofT (t : Tk) : Int × List UInt8 × Int × Int := (t.1, t.2.2)
def ofW (w : Wd) : Int × List UInt8 × Int × Int := ((w.1 : Int), w.2.1, (w.2.2.1 : Int), (w.2.2.2 : Int))
theorem okW_some {t : Tk} {w : Wd} (h : okW t = some w) : Gw (spl dtx) w ∧ spl dtx w = sayK t ∧ ofT t = ofW w := by
  unfold okW at h
  cases hw : wordS (sayK t) 0 with
  | error p => rw [hw] at h; cases h
  | ok we =>
    obtain ⟨w2, e⟩ := we
    rw [hw] at h
    simp only at h
    split at h
    · rename_i hq
      cases h
      obtain ⟨rfl, q1, q2, q3, q4⟩ := hq
      have hs := word_spl dtx dtx_back (l := sayK t) (p := 0) (Nat.zero_le _) hw
      have hs2 : spl dtx w = sayK t := by
        rw [hs]
        unfold slc
        rw [List.drop_zero, List.take_length]
      refine ⟨⟨word_kind hw, ?_, [], ?_⟩, hs2, ?_⟩
      · rw [hs2]
        cases hl : sayK t with
        | nil =>
          rw [hl] at hw
          exact absurd hw (by intro h0; cases h0)
        | cons c x => simp
      · rw [hs2, List.append_nil]
        exact hw
      · unfold ofT ofW
        rw [q1, q2, q3, q4]
    · cases h
theorem okW_word {t : Tk} {w : Wd} (h : okW t = some w) : wordS (sayK t) 0 = .ok (w, (sayK t).length) ∧ (sayK t).length ≤ 100 ∧ 0 < (sayK t).length := by
  obtain ⟨g1, g2, g3⟩ := okW_some h
  have h1 := gw_word g1
  have h2 := spl_len (gw_ft g1)
  have h3 := g1.2.1
  rw [g2] at h1 h2 h3
  exact ⟨h1, h2, h3⟩
theorem wtK_short {t : Tk} (h : (wtK t).2 = true) : (wtK t).1.length ≤ 100 := by
  unfold wtK at h ⊢
  by_cases h8 : t.1 = 8
  · rw [if_pos h8]; simp
  · rw [if_neg h8] at h ⊢
    obtain ⟨w, hw⟩ := Option.isSome_iff_exists.1 h
    exact (okW_word hw).2.1

/-- What Print makes of any tokens. -/
noncomputable def pGo : Bool → List UInt8 → List Tk → Option (List UInt8)
  | fr, acc, [] => if fr = true then some acc else none
  | fr, acc, t :: L => if fr = true ∧ t.1 = 8 then none else if (wtK t).2 = false then none else
    if 8000 < ((if fr = true ∨ t.1 = 8 then acc else acc ++ [32]) ++ (wtK t).1).length then none else pGo (decide (t.1 = 8)) ((if fr = true ∨ t.1 = 8 then acc else acc ++ [32]) ++ (wtK t).1) L
def outV : Option (List UInt8) → Value
  | some T => .tuple #[.string ⟨T.toArray⟩, .int .i64 0]
  | none => .tuple #[.string ⟨#[]⟩, .int .i64 45]

set_option maxRecDepth 8000 in
set_option maxHeartbeats 4000000 in
theorem print_gen (v : Value) (L : List Tk) (hl : L.length ≤ 1000000) (hr : ∀ t ∈ L, Rng t) (w : World) (hv : TkRow w v L) (hC : Cls w) (hE : ErrR w) (hM : Mon w) (hS : Sgn w) (hX : X.Tab w) : Calls Tryz.prog 6 #[v] w fun e w' => e = .returned (outV (pGo true [] L)) ∧ Below w.heap.size w w' := by
  obtain ⟨i0, hi, hz0, hz1, hz2⟩ := info_parts infoU
  obtain ⟨aa, ca, rfl, hda⟩ := hv
  obtain ⟨R, hR⟩ : ∃ R, pGo true [] L = R := ⟨_, rfl⟩
  rw [hR]
  have hwr := fun (x : Tk) (hg : Rng x) W (hb : Below w.heap.size w W) => written_gen x hg W (hC.later hb) (hE.later hb) (hM.later hb) (hS.later hb) (hX.later hb)
  clear hC hE hM hS hX
  go_enter Tryz.func6, Tryz.ntmps6
  go_wp2
  go_loopw [4, 5, 13] (fun tv fv iv wr => ∃ (j : Nat) (fr : Bool) (acc : List UInt8), j ≤ L.length ∧ fv = .bool fr ∧ iv = .int .i64 j ∧ acc.length ≤ 8000 ∧ Hid (R = pGo fr acc (L.drop j)) ∧ Bys w.heap.size wr tv acc ∧ Below w.heap.size w wr) (fun _ _ iv _ => L.length - (intOf iv).toNat)
  case atStart => exact ⟨0, true, [], by omega, rfl, rfl, by simp, by unfold Hid; exact hR.symm, World.ownsRow_nil _ _ _ _, Below.refl _ _⟩
  case round =>
    obtain ⟨j, fr, acc, hj, rfl, rfl, hal, hRa, ho, hB⟩ := hrel
    clear hR
    obtain ⟨tp, tc, rfl⟩ := len_bys ho
    unfold Bys at ho
    have hsz := hB.size
    by_cases hlt : j < L.length
    · have hlt' : (j : Int) < L.length := by omega
      have hj0 : (0 : Int) ≤ (j : Int) := by omega
      rcases hda with h0 | ⟨ga, oa, rfl, hga, hca⟩
      · rw [h0] at hlt; simp at hlt
      obtain ⟨a0, a1, a2, a3, a4⟩ := hca j hlt
      have hxr := hr L[j] (List.getElem_mem hlt)
      have hdr : L.drop j = L[j] :: L.drop (j + 1) := List.drop_eq_getElem_cons hlt
      rw [hdr] at hRa
      clear hdr
      obtain ⟨Q, hQ⟩ : ∃ Q, L.drop (j + 1) = Q := ⟨_, rfl⟩
      rw [hQ] at hRa
      have hR' : Hid (L.drop (j + 1) = Q) := hQ
      clear hQ hr
      generalize L[j] = x at *
      have a0' := (hB.cell (p := ⟨ga, _, none⟩) hga).trans a0
      have a1' := (hB.cell (p := ⟨ga, _, none⟩) hga).trans a1
      have a2' := (hB.cell (p := ⟨ga, _, none⟩) hga).trans a2
      have a3' := (hB.cell (p := ⟨ga, _, none⟩) hga).trans a3
      have a4' := (hB.cell (p := ⟨ga, _, none⟩) hga).trans a4
      clear a0 a1 a2 a3 a4 hca
      obtain ⟨K, A, Tx, N, D0⟩ := x
      have hb1 := hB.alloc hsz (.cells #[.int .i64 K, .int .i64 A, .string ⟨Tx.toArray⟩, .int .i64 N, .int .i64 D0] 60)
      have ho1 := ho.alloc (.cells #[.int .i64 K, .int .i64 A, .string ⟨Tx.toArray⟩, .int .i64 N, .int .i64 D0] 60)
      have hsl := wtK_short (t := (K, A, Tx, N, D0))
      have hwe := hwr _ hxr _ hb1
      unfold pGo at hRa
      obtain ⟨⟨S, ok⟩, hS0⟩ : ∃ p, wtK (K, A, Tx, N, D0) = p := ⟨_, rfl⟩
      rw [hS0] at hwe hRa hsl
      simp only at hwe hRa hsl a0' a1' a2' a3' a4'
      have hsS : (ByteArray.mk S.toArray).size = S.length := by show S.toArray.size = _; simp
      clear hwr ho hS0 hxr
      by_cases h8 : K = 8
      · subst h8
        cases fr with
        | true =>
          rw [if_pos ⟨rfl, rfl⟩] at hRa
          have hp : Hid (R = none) := hRa
          clear hRa hwe
          go_wp2
          exact bodyPost_ret (v := .tuple #[.string ⟨#[]⟩, .int .i64 45]) (by simp [results, Tryz.results6, go_sem]) rfl ⟨by rw [hp.out]; rfl, hb1⟩
        | false =>
          rw [if_neg (by simp)] at hRa
          cases ok with
          | false =>
            rw [if_pos rfl] at hRa
            have hp : Hid (R = none) := hRa
            clear hRa
            go_wp2_with ((go_at_call 14; refine hwe.mono ?_; rintro e w2 ⟨rfl, hb2⟩; have hB2 := below_step hb1 hb2; have ho2 := own_aft ho1 hb2; have hs2 := hB2.size))
            exact bodyPost_ret (v := .tuple #[.string ⟨#[]⟩, .int .i64 45]) (by simp [results, Tryz.results6, go_sem]) rfl ⟨by rw [hp.out]; rfl, hB2⟩
          | true =>
            have hsl := hsl rfl
            have hi8 : (if false = true ∨ (8 : Int) = 8 then acc else acc ++ [32]) = acc := if_pos (.inr rfl)
            rw [if_neg (by simp), hi8, decide_eq_true rfl] at hRa
            clear hi8
            obtain ⟨acc2, hacc2⟩ : ∃ acc2, acc ++ S = acc2 := ⟨_, rfl⟩
            rw [hacc2] at hRa
            by_cases hlong : 8000 < acc2.length
            · have hlong' : (8000 : Int) < (acc2.length : Int) := by omega
              have hp : Hid (R = none) := by unfold Hid; rw [hRa.out, if_pos hlong]
              clear hRa
              go_wp2_with (first | (go_at_call 14; refine hwe.mono ?_; rintro e w2 ⟨rfl, hb2⟩; have hB2 := below_step hb1 hb2; have ho2 := own_aft ho1 hb2; have hs2 := hB2.size) | (at_builtin; refine Go.Lib.wpList_append_own_string _ rfl _ _ 61 9 rfl w.heap.size 5 i0 Tryz.underlying61 Tryz.underlying9 hi hz0 hz1 hz2 _ acc.length _ rfl ho2 _ rfl (by have := hsS; unfold maxLen; omega) (by have := hsS; omega) (by omega) ?_; intro v4 w4 hown4 hgrow4 _; have hB4 : Below w.heap.size w w4 := hB2.grown hgrow4 (by omega) (fun j hj => (ho2.lt j hj).1); have hby4 := bys_str (l := acc) (x := S) (by rw [hsS]) hown4; rw [hacc2] at hby4; obtain ⟨p4, c4, rfl⟩ := len_bys hby4))
              exact bodyPost_ret (v := .tuple #[.string ⟨#[]⟩, .int .i64 45]) (by simp [results, Tryz.results6, go_sem]) rfl ⟨by rw [hp.out]; rfl, hB4⟩
            · have hlong' : ¬ (8000 : Int) < (acc2.length : Int) := by omega
              rw [if_neg hlong] at hRa
              go_wp2_with (first | (go_at_call 14; refine hwe.mono ?_; rintro e w2 ⟨rfl, hb2⟩; have hB2 := below_step hb1 hb2; have ho2 := own_aft ho1 hb2; have hs2 := hB2.size) | (at_builtin; refine Go.Lib.wpList_append_own_string _ rfl _ _ 61 9 rfl w.heap.size 5 i0 Tryz.underlying61 Tryz.underlying9 hi hz0 hz1 hz2 _ acc.length _ rfl ho2 _ rfl (by have := hsS; unfold maxLen; omega) (by have := hsS; omega) (by omega) ?_; intro v4 w4 hown4 hgrow4 _; have hB4 : Below w.heap.size w w4 := hB2.grown hgrow4 (by omega) (fun j hj => (ho2.lt j hj).1); have hby4 := bys_str (l := acc) (x := S) (by rw [hsS]) hown4; rw [hacc2] at hby4; obtain ⟨p4, c4, rfl⟩ := len_bys hby4))
              go_roundw
              case rel => exact ⟨j + 1, true, acc2, by omega, rfl, by go_num, by omega, by unfold Hid; rw [hR'.out]; exact hRa.out, hby4, hB4⟩
              case measure => simp [intOf]; omega
      · have h8' : (K == 8) = false := by simp [h8]
        rw [if_neg (fun h => h8 h.2), decide_eq_false h8] at hRa
        cases ok with
        | false =>
          rw [if_pos rfl] at hRa
          have hp : Hid (R = none) := hRa
          clear hRa h8
          cases fr with
          | true =>
            go_wp2_with ((go_at_call 14; refine hwe.mono ?_; rintro e w2 ⟨rfl, hb2⟩; have hB2 := below_step hb1 hb2; have ho2 := own_aft ho1 hb2; have hs2 := hB2.size))
            exact bodyPost_ret (v := .tuple #[.string ⟨#[]⟩, .int .i64 45]) (by simp [results, Tryz.results6, go_sem]) rfl ⟨by rw [hp.out]; rfl, hB2⟩
          | false =>
            go_wp2_with ((go_at_call 14; refine hwe.mono ?_; rintro e w2 ⟨rfl, hb2⟩; have hB2 := below_step hb1 hb2; have ho2 := own_aft ho1 hb2; have hs2 := hB2.size))
            exact bodyPost_ret (v := .tuple #[.string ⟨#[]⟩, .int .i64 45]) (by simp [results, Tryz.results6, go_sem]) rfl ⟨by rw [hp.out]; rfl, hB2⟩
        | true =>
          have hsl := hsl rfl
          rw [if_neg (by simp)] at hRa
          cases fr with
          | true =>
            have hi8 : (if true = true ∨ K = 8 then acc else acc ++ [32]) = acc := if_pos (.inl rfl)
            rw [hi8] at hRa
            clear hi8
            clear h8
            obtain ⟨acc2, hacc2⟩ : ∃ acc2, acc ++ S = acc2 := ⟨_, rfl⟩
            rw [hacc2] at hRa
            by_cases hlong : 8000 < acc2.length
            · have hlong' : (8000 : Int) < (acc2.length : Int) := by omega
              have hp : Hid (R = none) := by unfold Hid; rw [hRa.out, if_pos hlong]
              clear hRa
              go_wp2_with (first | (go_at_call 14; refine hwe.mono ?_; rintro e w2 ⟨rfl, hb2⟩; have hB2 := below_step hb1 hb2; have ho2 := own_aft ho1 hb2; have hs2 := hB2.size) | (at_builtin; refine Go.Lib.wpList_append_own_string _ rfl _ _ 61 9 rfl w.heap.size 5 i0 Tryz.underlying61 Tryz.underlying9 hi hz0 hz1 hz2 _ acc.length _ rfl ho2 _ rfl (by have := hsS; unfold maxLen; omega) (by have := hsS; omega) (by omega) ?_; intro v4 w4 hown4 hgrow4 _; have hB4 : Below w.heap.size w w4 := hB2.grown hgrow4 (by omega) (fun j hj => (ho2.lt j hj).1); have hby4 := bys_str (l := acc) (x := S) (by rw [hsS]) hown4; rw [hacc2] at hby4; obtain ⟨p4, c4, rfl⟩ := len_bys hby4))
              exact bodyPost_ret (v := .tuple #[.string ⟨#[]⟩, .int .i64 45]) (by simp [results, Tryz.results6, go_sem]) rfl ⟨by rw [hp.out]; rfl, hB4⟩
            · have hlong' : ¬ (8000 : Int) < (acc2.length : Int) := by omega
              rw [if_neg hlong] at hRa
              go_wp2_with (first | (go_at_call 14; refine hwe.mono ?_; rintro e w2 ⟨rfl, hb2⟩; have hB2 := below_step hb1 hb2; have ho2 := own_aft ho1 hb2; have hs2 := hB2.size) | (at_builtin; refine Go.Lib.wpList_append_own_string _ rfl _ _ 61 9 rfl w.heap.size 5 i0 Tryz.underlying61 Tryz.underlying9 hi hz0 hz1 hz2 _ acc.length _ rfl ho2 _ rfl (by have := hsS; unfold maxLen; omega) (by have := hsS; omega) (by omega) ?_; intro v4 w4 hown4 hgrow4 _; have hB4 : Below w.heap.size w w4 := hB2.grown hgrow4 (by omega) (fun j hj => (ho2.lt j hj).1); have hby4 := bys_str (l := acc) (x := S) (by rw [hsS]) hown4; rw [hacc2] at hby4; obtain ⟨p4, c4, rfl⟩ := len_bys hby4))
              go_roundw
              case rel => exact ⟨j + 1, false, acc2, by omega, rfl, by go_num, by omega, by unfold Hid; rw [hR'.out]; exact hRa.out, hby4, hB4⟩
              case measure => simp [intOf]; omega
          | false =>
            have hi8 : (if false = true ∨ K = 8 then acc else acc ++ [32]) = acc ++ [32] := if_neg (by simp [h8])
            rw [hi8] at hRa
            clear hi8
            clear h8
            obtain ⟨acc1, hacc1⟩ : ∃ acc1, acc ++ [32] = acc1 := ⟨_, rfl⟩
            have hal1 : acc1.length ≤ 8001 := by rw [← hacc1, List.length_append, List.length_singleton]; omega
            rw [hacc1] at hRa
            obtain ⟨acc2, hacc2⟩ : ∃ acc2, acc1 ++ S = acc2 := ⟨_, rfl⟩
            rw [hacc2] at hRa
            by_cases hlong : 8000 < acc2.length
            · have hlong' : (8000 : Int) < (acc2.length : Int) := by omega
              have hp : Hid (R = none) := by unfold Hid; rw [hRa.out, if_pos hlong]
              clear hRa
              go_wp2_with (first | (go_at_call 14; refine hwe.mono ?_; rintro e w2 ⟨rfl, hb2⟩; have hB2 := below_step hb1 hb2; have ho2 := own_aft ho1 hb2; have hs2 := hB2.size) | (at_builtin; refine wpList_append_own _ rfl _ _ 61 rfl w.heap.size 5 i0 (.int .u8 0) 1 1 Tryz.underlying61 hi hz0 hz1 hz2 rfl (by decide) _ _ _ rfl (ho2.alloc _) ⟨w2.heap.size, 0, none⟩ 1 1 [.int .u8 32] rfl rfl (cell_one_new _ _ _) (byte_one _) (by unfold maxLen; omega) (by omega) (by simp; omega) ?_; intro v3 w3 hown3 hgrow3 _; have hB3 : Below w.heap.size w w3 := (hB2.alloc hB2.size _).grown hgrow3 (by simp; omega) (fun j hj => (ho2.lt j hj).1); have hs3 := hB3.size; have hby3 : Bys w.heap.size w3 v3 (acc ++ [32]) := bys_snoc (c := 32) rfl rfl hown3; rw [hacc1] at hby3; obtain ⟨p3, c3, rfl⟩ := len_bys hby3; have ho3 : w3.ownsRow w.heap.size 5 1 (.slice p3 acc1.length c3) acc1.length (Go.Lib.byteCells acc1) := hby3) | (at_builtin; refine Go.Lib.wpList_append_own_string _ rfl _ _ 61 9 rfl w.heap.size 5 i0 Tryz.underlying61 Tryz.underlying9 hi hz0 hz1 hz2 _ acc1.length _ rfl ho3 _ rfl (by have := hsS; unfold maxLen; omega) (by have := hsS; omega) (by omega) ?_; intro v4 w4 hown4 hgrow4 _; have hB4 : Below w.heap.size w w4 := hB3.grown hgrow4 (by omega) (fun j hj => (ho3.lt j hj).1); have hby4 := bys_str (l := acc1) (x := S) (by rw [hsS]) hown4; rw [hacc2] at hby4; obtain ⟨p4, c4, rfl⟩ := len_bys hby4))
              exact bodyPost_ret (v := .tuple #[.string ⟨#[]⟩, .int .i64 45]) (by simp [results, Tryz.results6, go_sem]) rfl ⟨by rw [hp.out]; rfl, hB4⟩
            · have hlong' : ¬ (8000 : Int) < (acc2.length : Int) := by omega
              rw [if_neg hlong] at hRa
              go_wp2_with (first | (go_at_call 14; refine hwe.mono ?_; rintro e w2 ⟨rfl, hb2⟩; have hB2 := below_step hb1 hb2; have ho2 := own_aft ho1 hb2; have hs2 := hB2.size) | (at_builtin; refine wpList_append_own _ rfl _ _ 61 rfl w.heap.size 5 i0 (.int .u8 0) 1 1 Tryz.underlying61 hi hz0 hz1 hz2 rfl (by decide) _ _ _ rfl (ho2.alloc _) ⟨w2.heap.size, 0, none⟩ 1 1 [.int .u8 32] rfl rfl (cell_one_new _ _ _) (byte_one _) (by unfold maxLen; omega) (by omega) (by simp; omega) ?_; intro v3 w3 hown3 hgrow3 _; have hB3 : Below w.heap.size w w3 := (hB2.alloc hB2.size _).grown hgrow3 (by simp; omega) (fun j hj => (ho2.lt j hj).1); have hs3 := hB3.size; have hby3 : Bys w.heap.size w3 v3 (acc ++ [32]) := bys_snoc (c := 32) rfl rfl hown3; rw [hacc1] at hby3; obtain ⟨p3, c3, rfl⟩ := len_bys hby3; have ho3 : w3.ownsRow w.heap.size 5 1 (.slice p3 acc1.length c3) acc1.length (Go.Lib.byteCells acc1) := hby3) | (at_builtin; refine Go.Lib.wpList_append_own_string _ rfl _ _ 61 9 rfl w.heap.size 5 i0 Tryz.underlying61 Tryz.underlying9 hi hz0 hz1 hz2 _ acc1.length _ rfl ho3 _ rfl (by have := hsS; unfold maxLen; omega) (by have := hsS; omega) (by omega) ?_; intro v4 w4 hown4 hgrow4 _; have hB4 : Below w.heap.size w w4 := hB3.grown hgrow4 (by omega) (fun j hj => (ho3.lt j hj).1); have hby4 := bys_str (l := acc1) (x := S) (by rw [hsS]) hown4; rw [hacc2] at hby4; obtain ⟨p4, c4, rfl⟩ := len_bys hby4))
              go_roundw
              case rel => exact ⟨j + 1, false, acc2, by omega, rfl, by go_num, by omega, by unfold Hid; rw [hR'.out]; exact hRa.out, hby4, hB4⟩
              case measure => simp [intOf]; omega
    · have hlt' : ¬ (j : Int) < L.length := by omega
      have hnil : L.drop j = [] := by
        rw [List.drop_eq_nil_iff]
        omega
      rw [hnil] at hRa
      unfold pGo at hRa
      have hcv := conv_bys (show Bys w.heap.size wr (.slice tp acc.length tc) acc from ho)
      cases fr with
      | true =>
        rw [if_pos rfl] at hRa
        have hp : Hid (R = some acc) := hRa
        clear hRa hda hwr hr
        go_wp2
        exact bodyPost_ret (v := .tuple #[.string ⟨acc.toArray⟩, .int .i64 0]) (by simp [results, Tryz.results6, go_sem]) rfl ⟨by rw [hp.out]; rfl, hB⟩
      | false =>
        rw [if_neg (by simp)] at hRa
        have hp : Hid (R = none) := hRa
        clear hRa hda hwr hcv hr
        go_wp2
        exact bodyPost_ret (v := .tuple #[.string ⟨#[]⟩, .int .i64 45]) (by simp [results, Tryz.results6, go_sem]) rfl ⟨by rw [hp.out]; rfl, hB⟩

end Go.Proofs.YtoippgmecnlhcaaGreatDoor.Q
