import Derived.Test.YtigjnodkpkkdmaaHAll
namespace Go.Proofs.Ytigjnodkpkkdmaa
open Go.RowKit

theorem EntsAt.kept {W W' : World} {v : Value} {L : Es} {hb : Nat} {Ls : List Es} {p : Nat} (h : EntsAt W v L) (hH : HistAt W hb Ls p) (hg : W.grownBy W' (some hb)) : EntsAt W' v L := by
  obtain ⟨a, cap, rfl, h | ⟨g, off, rfl, hl, hc⟩⟩ := h
  · exact ⟨a, cap, rfl, .inl h⟩
  · by_cases h0 : L = []
    · exact ⟨_, cap, rfl, .inl h0⟩
    have hn : 0 < L.length := by cases L with | nil => exact absurd rfl h0 | cons x L => simp
    have hne : some hb ≠ some g := fun e => by
      obtain rfl := Option.some.inj e
      obtain ⟨-, -, g', cap', vs, hB, -⟩ := hH
      have := (hc 0 hn).2.2
      rw [cell_of_row _ _ _ _ _ _ hB] at this
      simp at this
    exact ⟨_, cap, rfl, .inr ⟨g, off, rfl, Nat.lt_of_lt_of_le hl hg.size, fun i hi => ⟨(grown_cell hg hl hne).trans (hc i hi).1, (grown_cell hg hl hne).trans (hc i hi).2.1, (grown_cell hg hl hne).trans (hc i hi).2.2⟩⟩⟩

/-- A list of lists of entries. -/
def AllAt (W : World) (lo : Nat) (v : Value) (Ls : List Es) : Prop := ∃ g off cap, ∃ ss : Nat → Value, v = .slice (some ⟨g, off, none⟩) Ls.length cap ∧ Ls.length ≤ cap ∧ lo ≤ g ∧ g < W.heap.size ∧ ∀ i (h : i < Ls.length), W.cell? ⟨g, off + i, none⟩ = some (ss i) ∧ EntsAt W (ss i) Ls[i] ∧ Ls[i].length ≤ 200
theorem AllAt.later {W W' : World} {lo : Nat} {v : Value} {Ls : List Es} (h : AllAt W lo v Ls) (hb : Below W.heap.size W W') : AllAt W' lo v Ls := by
  obtain ⟨g, off, cap, ss, rfl, h0, h1, h2, h3⟩ := h
  exact ⟨g, off, cap, ss, rfl, h0, h1, Nat.lt_of_lt_of_le h2 hb.size, fun i hi => ⟨(hb.cell (p := ⟨g, off + i, none⟩) h2).trans (h3 i hi).1, (h3 i hi).2.1.later hb, (h3 i hi).2.2⟩⟩
theorem AllAt.kept {W W' : World} {lo : Nat} {v : Value} {Ls : List Es} {hb : Nat} {Ls' : List Es} {p' : Nat} (h : AllAt W lo v Ls) (hlo : hb < lo) (hH : HistAt W hb Ls' p') (hg : W.grownBy W' (some hb)) : AllAt W' lo v Ls := by
  obtain ⟨g, off, cap, ss, rfl, h0, h1, h2, h3⟩ := h
  have hne : some hb ≠ some g := fun e => by have := Option.some.inj e; omega
  exact ⟨g, off, cap, ss, rfl, h0, h1, Nat.lt_of_lt_of_le h2 hg.size, fun i hi => ⟨(grown_cell hg h2 hne).trans (h3 i hi).1, (h3 i hi).2.1.kept hH hg, (h3 i hi).2.2⟩⟩

theorem infoL : (Try.prog.info? 40).map (fun i => (i.zero, i.size, i.bytes)) = some (some (.slice none 0 0), 1, 24) := by kernel_rfl
def rowS (ss : Nat → Value) (j : Nat) : List Value := (List.range j).map ss
theorem rowS_snoc (ss : Nat → Value) (j : Nat) (v : Value) : rowS ss j ++ [v] = rowS (fun i => if i = j then v else ss i) (j + 1) := by
  unfold rowS
  rw [List.range_succ, List.map_append]
  congr 1
  · refine List.map_congr_left fun i hi => ?_
    have := List.mem_range.1 hi
    simp only [if_neg (show ¬ i = j by omega)]
  · simp

/-- A list of entries, a row of one's own. -/
def EntO (X : World) (v : Value) (L : Es) : Prop := X.ownsRow 0 43 3 v L.length (flat3 L)
theorem EntO.of {X : World} {base : Nat} {v : Value} {L : Es} (h : X.ownsRow base 43 3 v L.length (flat3 L)) : EntO X v L := by
  obtain ⟨h1, h2 | ⟨g, cap, cur, e, -, rest⟩⟩ := h
  · exact ⟨h1, .inl h2⟩
  · exact ⟨h1, .inr ⟨g, cap, cur, e, Nat.zero_le _, rest⟩⟩
theorem EntO.ents {X : World} {v : Value} {L : Es} (h : EntO X v L) : EntsAt X v L := ents_of_own h
theorem EntO.later {X Y : World} {v : Value} {L : Es} (h : EntO X v L) (hb : Below X.heap.size X Y) : EntO Y v L := own_laterB h hb
/-- A list of lists grows: the entries' rows are others. -/
theorem EntO.grow {X Y : World} {base n : Nat} {v lv : Value} {L : Es} {xs : List Value} (h : EntO X v L) (h1 : X.ownsRow base 40 1 lv n xs) (hg : X.grownBy Y lv.ownBlock) : EntO Y v L := by
  refine World.ownsRow.kept h hg ?_
  obtain ⟨-, ⟨rfl, -⟩ | ⟨g, cap, cur, rfl, -, ht, -⟩⟩ := h
  · exact .inl rfl
  · refine .inr fun e => ?_
    obtain ⟨-, ⟨rfl, -⟩ | ⟨g', cap', cur', rfl, -, ht', -⟩⟩ := h1
    · cases e
    · simp only [Value.ownBlock, Option.some.injEq] at e
      subst e
      rw [ht] at ht'
      injection ht' with ht'
      injection ht' with _ h2
      exact absurd h2 (by decide)

/-- What all has gathered. -/
def AJ (w : World) (Ls : List Es) (j : Nat) (lv : Value) (X : World) : Prop := ∃ ss : Nat → Value, X.ownsRow w.heap.size 40 1 lv j (rowS ss j) ∧ (∀ i (h : i < Ls.length), i < j → EntO X (ss i) Ls[i]) ∧ Below w.heap.size w X

theorem all_add {w Y Z : World} {Ls : List Es} {j : Nat} {ss : Nat → Value} {L : Es} {ev lv lv' : Value} (hj : j < Ls.length) (hL : Ls[j] = L)
    (hss : ∀ i (h : i < Ls.length), i < j → EntO Y (ss i) Ls[i]) (hev : EntO Y ev L) (hgr : Y.grownBy Z lv.ownBlock) (hown : Y.ownsRow w.heap.size 40 1 lv j (rowS ss j)) (hown' : Z.ownsRow w.heap.size 40 1 lv' (j + 1) (rowS ss j ++ [ev])) (hB : Below w.heap.size w Z) : AJ w Ls (j + 1) lv' Z := by
  rw [rowS_snoc] at hown'
  refine ⟨_, hown', fun i hi hij => ?_, hB⟩
  by_cases e : i = j
  · subst e
    simp only [if_true]
    rw [hL]
    exact hev.grow hown hgr
  · simp only [if_neg e]
    exact (hss i hi (by omega)).grow hown hgr

theorem own_slot {w : World} {base n : Nat} {vs : Nat → Nat} {ov : Value} {p : Nat} (h : w.ownsRow base 65 2 ov n (flat2 vs p n)) (hn : 0 < n) : ∃ g cap, ov = .slice (some ⟨g, 0, none⟩) n cap ∧ g < w.heap.size ∧ ∀ i, i < n → w.cell? ⟨g, i * 2, none⟩ = some (.int .i64 ((i : Int) - (p : Int))) ∧ w.cell? ⟨g, i * 2 + 1, none⟩ = some (.pointer (some ⟨vs i, 0, none⟩)) := by
  obtain ⟨g, cap, rfl⟩ := own_some h hn
  refine ⟨g, cap, rfl, (h.lt g rfl).2, fun i hi => ?_⟩
  obtain ⟨a, b⟩ := flat2_at vs p n i hi
  exact ⟨(h.cellAt _ (by omega)).trans a, (h.cellAt _ (by omega)).trans b⟩

set_option maxRecDepth 4000 in
set_option maxHeartbeats 4000000 in
theorem all_hist (hb : Nat) (Ls : List Es) (p : Nat) (w : World) (h : HistAt w hb Ls p) :
    Calls Try.prog 7 #[.pointer (some ⟨hb, 0, none⟩)] w fun e w' => ∃ v, e = .returned (.tuple #[v, .int .i64 (-(p : Int))]) ∧ AllAt w' w.heap.size v Ls ∧ Below w.heap.size w w' := by
  have hpl := h.1
  have hl := h.2.1
  have hst := steps_any hb Ls p w h
  obtain ⟨ie, hie, hze0, hze1, hze2⟩ := info_parts infoL
  go_enter Try.func7, Try.ntmps7
  go_wp2_with (go_at_call 21; refine hst.mono ?_; rintro e w2 ⟨ov, vs, rfl, hown, hM, hB2⟩; obtain ⟨gv, cv, rfl, hgv, hcv⟩ := own_slot hown (by omega))
  clear hst hown h
  go_loopw [4, 5, 7, 8] (fun lv fv okv iv X => ∃ (j : Nat) (f : Int), j ≤ Ls.length ∧ fv = .int .i64 f ∧ (j ≠ 0 → f = -(p : Int)) ∧ okv = .bool true ∧ iv = .int .i64 (j : Int) ∧ AJ w2 Ls j lv X) (fun _ _ _ iv _ => Ls.length - (intOf iv).toNat)
  case atStart => exact ⟨0, 0, by omega, rfl, fun h => absurd rfl h, rfl, rfl, ⟨fun _ => .slice none 0 0, World.ownsRow_nil _ _ _ _, fun i hi h => by omega, Below.refl _ _⟩⟩
  case round =>
    obtain ⟨j, f, hj, rfl, hf, rfl, rfl, hA⟩ := hrel
    obtain ⟨ss, hownL, hssL, hBX⟩ := hA
    obtain ⟨la, ll, lc, hlv⟩ := own_slice hownL
    subst hlv
    by_cases hlt : j < Ls.length
    · have hlt' : (j : Int) < (Ls.length : Int) := by omega
      have hj0 : (0 : Int) ≤ (j : Int) := by omega
      have d0 := (hBX.cell (p := ⟨gv, j * 2, none⟩) hgv).trans (hcv j hlt).1
      have d1 := (hBX.cell (p := ⟨gv, j * 2 + 1, none⟩) hgv).trans (hcv j hlt).2
      obtain ⟨n, hn⟩ : ∃ n : Int, Hid (n = (j : Int) - (p : Int)) := ⟨_, rfl⟩
      rw [← hn.out] at d0
      obtain ⟨L, hL⟩ : ∃ L, Hid (Ls[j] = L) := ⟨Ls[j], show Ls[j] = Ls[j] from rfl⟩
      have hMj := hM j hlt
      rw [hL.out] at hMj
      have hen := entries_any (vs j) L (by omega) wr (hMj.1.later hBX)
      have nr : IntKind.i64.wrap n = n := by rw [IntKind.wrap_i64]; have := hn.out; omega
      have nr3 : wrap64 n = n := by unfold wrap64; have := hn.out; omega
      have hf2 : j ≠ 0 → IntKind.i64.wrap (f + (j : Int)) = n ∧ wrap64 (f + (j : Int)) = n := fun h => by
        have h1 := hf h
        have h2 := hn.out
        constructor
        · rw [IntKind.wrap_i64]; omega
        · unfold wrap64; omega
      have hn0 : j = 0 → Hid (n = -(p : Int)) := fun h => by have h2 := hn.out; show n = _; omega
      have hf3 : j ≠ 0 → Hid (f = -(p : Int)) := hf
      clear hf hM hcv
      have tok1 : True := trivial
      by_cases hjz : j = 0
      · have hq := hn0 hjz
        clear hn0 hf2 hf3
        subst hjz
        go_wp2_with (first | (go_at_call 15; refine hen.mono ?_; rintro e w5 ⟨ev, rfl, hown5, hb5⟩; have he5 := EntO.of hown5; obtain ⟨ea, el, ec, rfl⟩ := own_slice hown5; have hb6 := (Below.refl w5.heap.size w5).alloc (Nat.le_refl _) (.cells #[.slice ea el ec] 40); have hownA := own_laterB (own_laterB hownL hb5) hb6; have tok2 : True := trivial) | (at_builtin; have _u := tok2; clear tok2; go_loud (refine wpList_append_own (P := Try.prog) _ rfl _ _ 27 rfl w2.heap.size 40 ie _ 1 24 Try.underlying27 hie hze0 hze1 hze2 rfl (by decide) _ 0 (rowS ss 0) rfl hownA ⟨w5.heap.size, 0, none⟩ 1 1 [.slice ea el ec] rfl rfl (one_new _ _ _) (fun u hu => by rw [List.mem_singleton.1 hu]; rfl) (by unfold maxLen; omega) (by omega) (below_step (below_step hBX hb5) hb6).size ?_); intro v10 w10 hown10 hgrow10 _h10))
        go_roundw
        case rel =>
          refine ⟨0 + 1, _, by omega, rfl, fun _ => hq.out, rfl, by go_num, all_add hlt hL.out (fun i hi hij => ((hssL i hi hij).later hb5).later hb6) (he5.later hb6) hgrow10 hownA hown10 ?_⟩
          exact (below_step (below_step hBX hb5) hb6).grown hgrow10 (below_step (below_step hBX hb5) hb6).size (fun k hk => (hownA.lt k hk).1)
        case measure => simp [intOf]; omega
      · obtain ⟨r1, r2⟩ := hf2 hjz
        have hq := hf3 hjz
        have hz : ((j : Int) == 0) = false := by simp; omega
        clear hn0 hf2 hf3
        go_wp2_with (first | (go_at_call 15; refine hen.mono ?_; rintro e w5 ⟨ev, rfl, hown5, hb5⟩; have he5 := EntO.of hown5; obtain ⟨ea, el, ec, rfl⟩ := own_slice hown5; have hb6 := (Below.refl w5.heap.size w5).alloc (Nat.le_refl _) (.cells #[.slice ea el ec] 40); have hownA := own_laterB (own_laterB hownL hb5) hb6; have tok2 : True := trivial) | (at_builtin; have _u := tok2; clear tok2; go_loud (refine wpList_append_own (P := Try.prog) _ rfl _ _ 27 rfl w2.heap.size 40 ie _ 1 24 Try.underlying27 hie hze0 hze1 hze2 rfl (by decide) _ j (rowS ss j) rfl hownA ⟨w5.heap.size, 0, none⟩ 1 1 [.slice ea el ec] rfl rfl (one_new _ _ _) (fun u hu => by rw [List.mem_singleton.1 hu]; rfl) (by unfold maxLen; omega) (by omega) (below_step (below_step hBX hb5) hb6).size ?_); intro v10 w10 hown10 hgrow10 _h10))
        go_roundw
        case rel =>
          refine ⟨j + 1, _, by omega, rfl, fun _ => hq.out, rfl, by go_num, all_add hlt hL.out (fun i hi hij => ((hssL i hi hij).later hb5).later hb6) (he5.later hb6) hgrow10 hownA hown10 ?_⟩
          exact (below_step (below_step hBX hb5) hb6).grown hgrow10 (below_step (below_step hBX hb5) hb6).size (fun k hk => (hownA.lt k hk).1)
        case measure => simp [intOf]; omega
    · have hlt' : ¬ (j : Int) < (Ls.length : Int) := by omega
      obtain rfl : j = Ls.length := by omega
      go_wp2
      go_ret2
      have hf' := hf (by omega)
      subst hf'
      obtain ⟨gl, cl, e⟩ := own_some hownL (by omega)
      refine ⟨_, rfl, ⟨gl, 0, cl, ss, e, ?_⟩, below_step hB2 hBX⟩
      rw [e] at hownL
      refine ⟨own_cap hownL, Nat.le_trans hB2.size (hownL.lt gl rfl).1, (hownL.lt gl rfl).2, fun i hi => ⟨?_, (hssL i hi hi).ents, (hM i hi).2⟩⟩
      rw [Nat.zero_add]
      exact (hownL.cellAt i (by omega)).trans (by simp [rowS, hi])

end Go.Proofs.Ytigjnodkpkkdmaa
