import Derived.Test.YtblfdjdhikfjhaaGreatTurnBLook
import Derived.Test.YtblfdjdhikfjhaaGreatJoin50
import Derived.Test.YtblfdjdhikfjhaaGreatTurnBzP1
import Derived.Test.YtblfdjdhikfjhaaGreatJoin29
namespace Go.Proofs.YtblfdjdhikfjhaaGreat
open Go.RowKit

def NoLook (w : World) (e : Ending) (w' : World) : Prop := e = .returned (.agg #[.bool false, .slice none 0 0, .slice none 0 0, .int .i64 0, .int .i64 0, .slice none 0 0]) ∧ Below w.heap.size w w'
set_option maxRecDepth 8000 in
set_option maxHeartbeats 8000000 in
theorem blook_none (lo bb : Nat) (Bs : List Br) (cur s : ByteArray) (hs : s.size ≤ maxLen) (hn : ∀ b ∈ Bs, b.nm ≠ s) (most : Int) (w : World) (h : BookAt w lo bb Bs cur) :
    Calls Tryz.prog 26 #[.pointer (some ⟨bb, 0, none⟩), .string s, .int .i64 most] w (NoLook w) := by
  obtain ⟨RW, hRW⟩ : ∃ RW, w.alloc (.cells #[.bool false, .slice none 0 0, .slice none 0 0, .int .i64 0, .int .i64 0, .slice none 0 0] 66) = RW := ⟨_, rfl⟩
  have hb0 : Below w.heap.size w RW := by rw [← hRW]; exact (Below.refl _ _).alloc (Nat.le_refl _) _
  have hr0 := heap_alloc_last w (.cells #[.bool false, .slice none 0 0, .slice none 0 0, .int .i64 0, .int .i64 0, .slice none 0 0] 66)
  rw [hRW] at hr0
  go_enter Tryz.func26, Tryz.ntmps26
  go_wp2_with (go_at_call 10; fail)
  refine (bclone_any lo bb Bs cur RW (h.later hb0)).mono ?_
  rintro e w1 ⟨bc, Cs, rfl, hB1, -, hf, hb1⟩
  have hB1w := below_step hb0 hb1
  have hr1 := (hb1.block w.heap.size (Array.getElem?_eq_some_iff.1 hr0).1).trans hr0
  have hnc : ∀ c ∈ Cs, c.nm ≠ s := fun c hc e => by
    obtain ⟨b, hb, hS⟩ := hf c hc
    exact hn b hb (hS.1 ▸ e)
  clear hf h hRW hr0 hb0 hb1 hn
  go_wp2_with (go_at_call 16; fail)
  refine (switch_none _ bc Cs cur s hs hnc w1 hB1).mono ?_
  rintro e u1 ⟨rfl, rfl⟩
  clear hB1 hnc
  have r0 := hr1
  have z0 := cell_of_row _ _ 0 _ _ _ r0
  have f0 := frozen_of_row r0 0
  have r1 := heap_setCell_same u1 w.heap.size 0 _ _ (.bool false) r0
  have q0 := grown_set u1 w.heap.size 0 (.bool false)
  obtain ⟨Y1, E1⟩ : ∃ Z, u1.setCell ⟨w.heap.size, 0, none⟩ (.bool false) = Z := ⟨_, rfl⟩
  rw [E1] at r1 q0
  have z1 := cell_of_row _ _ 1 _ _ _ r1
  have f1 := frozen_of_row r1 1
  have r2 := heap_setCell_same Y1 w.heap.size 1 _ _ (.slice none 0 0) r1
  have q1 := grown_set Y1 w.heap.size 1 (.slice none 0 0)
  obtain ⟨Y2, E2⟩ : ∃ Z, Y1.setCell ⟨w.heap.size, 1, none⟩ (.slice none 0 0) = Z := ⟨_, rfl⟩
  rw [E2] at r2 q1
  have z2 := cell_of_row _ _ 2 _ _ _ r2
  have f2 := frozen_of_row r2 2
  have r3 := heap_setCell_same Y2 w.heap.size 2 _ _ (.slice none 0 0) r2
  have q2 := grown_set Y2 w.heap.size 2 (.slice none 0 0)
  obtain ⟨Y3, E3⟩ : ∃ Z, Y2.setCell ⟨w.heap.size, 2, none⟩ (.slice none 0 0) = Z := ⟨_, rfl⟩
  rw [E3] at r3 q2
  have z3 := cell_of_row _ _ 3 _ _ _ r3
  have f3 := frozen_of_row r3 3
  have r4 := heap_setCell_same Y3 w.heap.size 3 _ _ (.int .i64 0) r3
  have q3 := grown_set Y3 w.heap.size 3 (.int .i64 0)
  obtain ⟨Y4, E4⟩ : ∃ Z, Y3.setCell ⟨w.heap.size, 3, none⟩ (.int .i64 0) = Z := ⟨_, rfl⟩
  rw [E4] at r4 q3
  have z4 := cell_of_row _ _ 4 _ _ _ r4
  have f4 := frozen_of_row r4 4
  have r5 := heap_setCell_same Y4 w.heap.size 4 _ _ (.int .i64 0) r4
  have q4 := grown_set Y4 w.heap.size 4 (.int .i64 0)
  obtain ⟨Y5, E5⟩ : ∃ Z, Y4.setCell ⟨w.heap.size, 4, none⟩ (.int .i64 0) = Z := ⟨_, rfl⟩
  rw [E5] at r5 q4
  have z5 := cell_of_row _ _ 5 _ _ _ r5
  have f5 := frozen_of_row r5 5
  have r6 := heap_setCell_same Y5 w.heap.size 5 _ _ (.slice none 0 0) r5
  have q5 := grown_set Y5 w.heap.size 5 (.slice none 0 0)
  obtain ⟨Y6, E6⟩ : ∃ Z, Y5.setCell ⟨w.heap.size, 5, none⟩ (.slice none 0 0) = Z := ⟨_, rfl⟩
  rw [E6] at r6 q5
  have t0 : Y6.cell? ⟨w.heap.size, 0, none⟩ = some (.bool false) := cell_of_row _ _ 0 _ _ _ r6
  have t1 : Y6.cell? ⟨w.heap.size, 1, none⟩ = some (.slice none 0 0) := cell_of_row _ _ 1 _ _ _ r6
  have t2 : Y6.cell? ⟨w.heap.size, 2, none⟩ = some (.slice none 0 0) := cell_of_row _ _ 2 _ _ _ r6
  have t3 : Y6.cell? ⟨w.heap.size, 3, none⟩ = some (.int .i64 0) := cell_of_row _ _ 3 _ _ _ r6
  have t4 : Y6.cell? ⟨w.heap.size, 4, none⟩ = some (.int .i64 0) := cell_of_row _ _ 4 _ _ _ r6
  have t5 : Y6.cell? ⟨w.heap.size, 5, none⟩ = some (.slice none 0 0) := cell_of_row _ _ 5 _ _ _ r6
  simp at z0 z1 z2 z3 z4 z5
  have hgA := ((((q0.trans q1).trans q2).trans q3).trans q4).trans q5
  have hBy : Below w.heap.size w Y6 := hB1w.grown hgA hB1w.size (fun k hk => by cases hk; exact Nat.le_refl _)
  clear r0 r1 r2 r3 r4 r5 r6 q0 q1 q2 q3 q4 q5 hgA hr1
  go_wp2
  exact bodyPost_ret (v := .agg #[.bool false, .slice none 0 0, .slice none 0 0, .int .i64 0, .int .i64 0, .slice none 0 0]) (by simp [results, Tryz.results26, go_sem, t0, t1, t2, t3, t4, t5]) rfl ⟨rfl, hBy⟩

end Go.Proofs.YtblfdjdhikfjhaaGreat


namespace Go.Proofs.YtblfdjdhikfjhaaGreat.BZ
open Go.RowKit

theorem take_all {L : Es} {k m : Nat} (h : L.length ≤ k) (hm : k ≤ m) : L.take m = L := List.take_of_length_le (by omega)
theorem getD_take {Ls : List Es} {k m : Nat} (h : ∀ L ∈ Ls, L.length ≤ k) (hm : k ≤ m) (i : Nat) : (Ls.getD i []).take m = Ls.getD i [] := by
  by_cases hi : i < Ls.length
  · rw [List.getD_eq_getElem?_getD, List.getElem?_eq_getElem hi]
    exact take_all (h _ (List.getElem_mem hi)) hm
  · rw [List.getD_eq_getElem?_getD, List.getElem?_eq_none (by omega)]
    simp
/-- Two branches that look alike are alike. -/
theorem vw_inj {Ls Ls' : List Es} {p p' k m : Nat} {bs bs' : Es} (hp : p < Ls.length) (hp' : p' < Ls'.length) (h : ∀ L ∈ Ls, L.length ≤ k) (h' : ∀ L ∈ Ls', L.length ≤ k) (hb : bs.length ≤ k) (hb' : bs'.length ≤ k) (hm : k ≤ m) (e : vwOf Ls p bs m = vwOf Ls' p' bs' m) : bs = bs' ∧ Ls = Ls' ∧ p = p' := by
  unfold vwOf at e
  injection e with e1 e2 e3 e4 e5
  subst e3
  have hlen : Ls.length = Ls'.length := by omega
  rw [take_all hb hm, take_all hb' hm] at e2
  rw [getD_take h hm, getD_take h' hm] at e1
  obtain ⟨e6, e7⟩ := List.append_inj e5 (by rw [stR_len, stR_len]; omega)
  refine ⟨e2, ?_, rfl⟩
  have hU : ∀ i, i < Ls.length - 1 → Ls.getD (Ls.length - 2 - i) [] = Ls'.getD (Ls'.length - 2 - i) [] := fun i hi => by
    have := congrArg (fun l => l[i]?) e7
    unfold stU at this
    simp only [List.getElem?_map] at this
    rw [List.getElem?_eq_getElem (by simpa using hi), List.getElem?_eq_getElem (by simp; omega)] at this
    simp only [List.getElem_range, Option.map_some, Option.some.injEq] at this
    rwa [getD_take h hm, getD_take h' hm] at this
  have hR : ∀ i, i < Ls.length - 1 - p → Ls.getD (p + 1 + i) [] = Ls'.getD (p + 1 + i) [] := fun i hi => by
    have := congrArg (fun l => l[i]?) e6
    unfold stR at this
    simp only [List.getElem?_map] at this
    rw [List.getElem?_eq_getElem (by simpa using hi), List.getElem?_eq_getElem (by simp; omega)] at this
    simp only [List.getElem_range, Option.map_some, Option.some.injEq] at this
    rwa [getD_take h hm, getD_take h' hm] at this
  refine List.ext_getElem hlen fun i hi hi' => ?_
  have hd : Ls.getD i [] = Ls'.getD i [] := by
    by_cases hl : i < Ls.length - 1
    · have := hU (Ls.length - 2 - i) (by omega)
      rwa [show Ls.length - 2 - (Ls.length - 2 - i) = i by omega, show Ls'.length - 2 - (Ls.length - 2 - i) = i by omega] at this
    · by_cases hq : i = p
      · rw [hq]; exact e1
      · have := hR (i - p - 1) (by omega)
        rwa [show p + 1 + (i - p - 1) = i by omega] at this
  rw [List.getD_eq_getElem?_getD, List.getD_eq_getElem?_getD, List.getElem?_eq_getElem hi, List.getElem?_eq_getElem hi'] at hd
  exact hd
theorem cnt_ge {k : Nat} {most : Int} (h : (k : Int) ≤ most) : k ≤ cnt most := by
  unfold cnt
  split <;> omega
theorem br_p {W : World} {b : Br} (h : BrAt W b) : b.p < b.Ls.length := h.2.1.1
/-- The views of two branches of one name. -/
theorem vw_br {W W' : World} {b d : Br} {k : Nat} {most : Int} (hb : BrAt W b) (hd : BrAt W' d) (gb : BrG k b) (gd : BrG k d) (hm : (k : Int) ≤ most) (hn : b.nm = d.nm) : vwOf b.Ls b.p b.bs (cnt most) = vwOf d.Ls d.p d.bs (cnt most) ↔ toB b = toB d := by
  constructor
  · intro e
    obtain ⟨e1, e2, e3⟩ := vw_inj (br_p hb) (br_p hd) (fun L hL => (gb.Ls L hL).1) (fun L hL => (gd.Ls L hL).1) gb.bs.1 gd.bs.1 (cnt_ge hm) e
    unfold toB
    rw [e1, e2, e3, hn]
  · intro e
    unfold toB at e
    injection e with _ e1 e2 e3
    rw [e1, e2, e3]

end Go.Proofs.YtblfdjdhikfjhaaGreat.BZ


namespace Go.Proofs.YtblfdjdhikfjhaaGreat.BZ
open Go.RowKit

theorem idx_one {l : List (List UInt8)} (h : l.Pairwise (· < ·)) {u : List UInt8} {c d : Nat} (h1 : l[c]? = some u) (h2 : l[d]? = some u) : c = d := by
  obtain ⟨l1, e1⟩ := List.getElem?_eq_some_iff.1 h1
  obtain ⟨l2, e2⟩ := List.getElem?_eq_some_iff.1 h2
  refine Decidable.byContradiction fun hne => ?_
  rcases Nat.lt_or_gt_of_ne hne with hlt | hlt
  · have := List.pairwise_iff_getElem.1 h _ _ l1 l2 hlt
    rw [e1, e2] at this
    exact List.lt_irrefl _ this
  · have := List.pairwise_iff_getElem.1 h _ _ l2 l1 hlt
    rw [e1, e2] at this
    exact List.lt_irrefl _ this
theorem ct_up {Bs : List Br} {cur : ByteArray} {xs : List Bc} {c : Nat} (hA : Apart Bs) (h : Ct Bs cur xs c) : (xs.map (·.nm)).Pairwise (· < ·) := by
  rw [← h.1, List.map_map, List.pairwise_map]
  exact srt_up hA
theorem ct_mem {Bs : List Br} {cur : ByteArray} {xs : List Bc} {c : Nat} (h : Ct Bs cur xs c) (i : Nat) (hi : i < xs.length) : ∃ b ∈ Bs, toB b = xs[i] := by
  have hm : ∀ x ∈ xs, ∃ b ∈ Bs, toB b = x := fun x hx => by
    rw [← h.1] at hx
    obtain ⟨b, hb, e⟩ := List.mem_map.1 hx
    exact ⟨b, mem_srt.1 hb, e⟩
  exact hm _ (List.getElem_mem hi)
theorem ct_len {Bs : List Br} {cur : ByteArray} {xs : List Bc} {c : Nat} (h : Ct Bs cur xs c) : xs.length = Bs.length := by rw [← h.1, List.length_map, srt_len]
theorem names_x (lo bb : Nat) (Bs : List Br) (cur : ByteArray) {xs : List Bc} {c : Nat} (hC : Ct Bs cur xs c) (w : World) (h : BookAt w lo bb Bs cur) : Calls Tryz.prog 20 #[.pointer (some ⟨bb, 0, none⟩)] w fun e w' => ∃ v, e = .returned v ∧ TxtAt w' v (xs.map (·.nm)) ∧ Below w.heap.size w w' := by
  refine (names_any lo bb Bs cur w h).mono ?_
  rintro e w' ⟨v, rfl, hr, hb⟩
  rw [← nms_srt, ← ct_nms hC, ← ct_len hC, ← List.length_map (·.nm)] at hr
  exact ⟨v, rfl, txt_row hr, hb⟩

set_option maxRecDepth 8000 in
set_option maxHeartbeats 4000000 in
theorem same_books_x (lo1 b1 lo2 b2 k : Nat) (Bs Ds : List Br) (cu cv : ByteArray) (xs ys : List Bc) (c d : Nat) (most : Int) (hm : (k : Int) ≤ most) (w : World) (hB : BookAt w lo1 b1 Bs cu) (hD : BookAt w lo2 b2 Ds cv) (gB : Gd k Bs) (gD : Gd k Ds) (hC : Ct Bs cu xs c) (hC' : Ct Ds cv ys d) : Calls Tryz.prog 9 #[.pointer (some ⟨b1, 0, none⟩), .pointer (some ⟨b2, 0, none⟩), .int .i64 most] w fun e w' => IffB e (xs = ys ∧ c = d) ∧ Below w.heap.size w w' := by
  have hN1 := names_x lo1 b1 Bs cu hC w hB
  have hN2 := fun W hW => names_x lo2 b2 Ds cv hC' W hW
  obtain ⟨A, hA⟩ : ∃ A, Hid (xs.map (·.nm) = A) := ⟨_, rfl⟩
  obtain ⟨B, hBn⟩ : ∃ B, Hid (ys.map (·.nm) = B) := ⟨_, rfl⟩
  rw [hA.out] at hN1
  rw [hBn.out] at hN2
  have hup : Hid (A.Pairwise (· < ·)) := by show A.Pairwise (· < ·); rw [← hA.out]; exact ct_up (BookAt.apart hB) hC
  have hAl : Hid (A.length = xs.length) := by show A.length = _; rw [← hA.out, List.length_map]
  have hBl : Hid (B.length = ys.length) := by show B.length = _; rw [← hBn.out, List.length_map]
  have hcu : Hid (A[c]? = some cu.data.toList) := by show A[c]? = _; rw [← hA.out]; exact hC.2
  have hcv : Hid (B[d]? = some cv.data.toList) := by show B[d]? = _; rw [← hBn.out]; exact hC'.2
  have h6 : A.length ≤ 6 := by rw [hAl.out, ct_len hC]; exact BookAt.six hB
  have h6' : B.length ≤ 6 := by rw [hBl.out, ct_len hC']; exact BookAt.six hD
  have h1 : 0 < A.length := by have := (List.getElem?_eq_some_iff.1 hcu.out).1; omega
  have hmB : Hid (∀ i (hi : i < xs.length), ∃ b ∈ Bs, toB b = xs[i]) := fun i hi => ct_mem hC i hi
  have hmD : Hid (∀ i (hi : i < ys.length), ∃ b ∈ Ds, toB b = ys[i]) := fun i hi => ct_mem hC' i hi
  have hnoA : Hid (¬ A = B → ¬ (xs = ys ∧ c = d)) := fun h e => h (by rw [← hA.out, ← hBn.out, e.1])
  have hnoC : Hid (¬ cu = cv → ¬ (xs = ys ∧ c = d)) := fun h e => h (by
    have h1 := hcu.out
    have h2 := hcv.out
    rw [← hBn.out, ← e.1, hA.out, ← e.2, h1] at h2
    injection h2 with h2
    exact ByteArray.ext (Array.toList_inj.1 h2))
  clear hC hC'
  go_enter Tryz.func9, Tryz.ntmps9
  go_wp2_with (go_at_call 20; fail)
  refine hN1.mono ?_
  rintro e w1 ⟨v1, rfl, hT1, hb1⟩
  have hB1 := hB.later hb1
  have hD1 := hD.later hb1
  obtain ⟨a1, p1, rfl, hT1c⟩ := id hT1
  clear hN1 hB hD
  go_wp2_with (go_at_call 20; fail)
  refine (hN2 w1 hD1).mono ?_
  rintro e w2 ⟨v2, rfl, hT2, hb2⟩
  have hB2 := hB1.later hb2
  have hD2 := hD1.later hb2
  have hW2 := below_step hb1 hb2
  have hst := same_texts_x _ _ A B (by omega) (by omega) w2 (hT1.later hb2) hT2
  clear hN2 hB1 hD1 hT2
  go_wp2_with (go_at_call 25; fail)
  refine hst.mono ?_
  rintro e w3 ⟨⟨o, rfl, ho⟩, hb3⟩
  have hB3 := hB2.later hb3
  have hD3 := hD2.later hb3
  have hW3 := below_step hW2 hb3
  have hT3 := (hT1.later hb2).later hb3
  clear hst hB2 hD2 hT1 hT1c
  by_cases hAB : A = B
  case neg =>
    obtain rfl : o = false := by
      cases o with
      | false => rfl
      | true => exact absurd (ho.1 rfl) hAB
    have hno := hnoA.out hAB
    have hHno : Hid (¬ (xs = ys ∧ c = d)) := hno
    clear hno hAB ho hB3 hD3 hT3
    go_wp2
    exact bodyPost_ret (v := .bool false) (by simp [results, Tryz.results9, go_sem]) rfl ⟨IffB.no hHno.out, hW3⟩
  case pos =>
    obtain rfl : o = true := ho.2 hAB
    have hHAB : Hid (A = B) := hAB
    clear hAB ho
    go_wp2_with (go_at_call 21; fail)
    refine (current_any lo1 b1 Bs cu w3 hB3).mono ?_
    rintro e w4 ⟨rfl, rfl⟩
    go_wp2_with (go_at_call 21; fail)
    refine (current_any lo2 b2 Ds cv w4 hD3).mono ?_
    rintro e w5 ⟨rfl, rfl⟩
    by_cases hcc : cu = cv
    case neg =>
      have hee := toL_ne hcc
      have hee2 : (cu.toList != cv.toList) = true := by rw [bne, hee]; rfl
      have hHno : Hid (¬ (xs = ys ∧ c = d)) := hnoC.out hcc
      clear hcc hB3 hD3 hT3
      go_wp2
      exact bodyPost_ret (v := .bool false) (by simp [results, Tryz.results9, go_sem]) rfl ⟨IffB.no hHno.out, hW3⟩
    case pos =>
      subst hcc
      have hee : (cu.toList == cu.toList) = true := beq_self_eq_true _
      have hcd : Hid (c = d) := by
        have h2 := hcv.out
        rw [← hHAB.out] at h2
        exact idx_one hup.out hcu.out h2
      have hl1 : ¬ (A.length : Int) < 1 := by omega
      have hl6 : ¬ (6 : Int) < (A.length : Int) := by omega
      have hxy : Hid (xs.length = ys.length) := by show xs.length = _; rw [← hAl.out, ← hBl.out, hHAB.out]
      go_wp2
      go_loopw [8] (fun iv wr => ∃ j : Nat, j ≤ A.length ∧ iv = .int .i64 j ∧ Hid (xs.take j = ys.take j) ∧ Below w5.heap.size w5 wr) (fun iv _ => A.length - (intOf iv).toNat)
      case atStart => exact ⟨0, by omega, rfl, by show xs.take 0 = ys.take 0; simp, Below.refl _ _⟩
      case round =>
        obtain ⟨j, hj, rfl, hT, hbr⟩ := hrel
        have hWr := below_step hW3 hbr
        by_cases hlt : j < A.length
        · have hlt' : (j : Int) < (A.length : Int) := by omega
          have hj0 : (0 : Int) ≤ (j : Int) := by omega
          have hjx : j < xs.length := by rw [← hAl.out]; exact hlt
          have hjy : j < ys.length := by rw [← hxy.out]; exact hjx
          obtain ⟨b, hb, hbe⟩ := hmB.out j hjx
          obtain ⟨dd, hd, hde⟩ := hmD.out j hjy
          have hTr := hT3.later hbr
          obtain ⟨a, p, e0, hTc⟩ := hTr
          rcases hTc with h0 | ⟨g, rfl, hg, hTc⟩
          · rw [h0] at hlt; simp at hlt
          have e0' : a1 = some ⟨g, 0, none⟩ ∧ p1 = p := by
            injection e0 with e1 e2 e3
            exact ⟨e1, e3⟩
          obtain ⟨rfl, rfl⟩ := e0'
          have hAj : A[j] = b.nm.data.toList := by
            have : (xs.map (·.nm))[j]? = A[j]? := by rw [hA.out]
            rw [List.getElem?_map, List.getElem?_eq_getElem hjx, List.getElem?_eq_getElem hlt, ← hbe] at this
            injection this with this
            exact this.symm
          have hnn : b.nm = dd.nm := by
            have h3 : (xs.map (·.nm))[j]? = (ys.map (·.nm))[j]? := by rw [hA.out, hBn.out, hHAB.out]
            rw [List.getElem?_map, List.getElem?_map, List.getElem?_eq_getElem hjx, List.getElem?_eq_getElem hjy, ← hbe, ← hde] at h3
            injection h3 with h3
            exact ByteArray.ext (Array.toList_inj.1 h3)
          have cj : wr.cell? ⟨g, j, none⟩ = some (.string b.nm) := by
            rw [hTc j hlt, hAj]
          have hBr := hB3.later hbr
          have hDr := hD3.later hbr
          have hsz := isNm_len (gB.1 b hb).nm
          rw [ba_len] at hsz
          have hvw := vw_br (most := most) (hBr.br hb) (hDr.br hd) (gB.1 b hb) (gD.1 dd hd) hm hnn
          have hS : Hid (toB b = toB dd → xs.take (j + 1) = ys.take (j + 1)) := fun e => by rw [List.take_succ_eq_append_getElem hjx, List.take_succ_eq_append_getElem hjy, hT.out, ← hbe, ← hde, e]
          have hNo : Hid (¬ toB b = toB dd → ¬ (xs = ys ∧ c = d)) := fun h e => h (by rw [hbe, hde]; simp only [e.1])
          have hlk := blook_any lo1 b1 Bs cu b hb (by omega) most wr hBr
          have hlk2 := fun X (hX : Below wr.heap.size wr X) => blook_any lo2 b2 Ds cu dd hd (by rw [← hnn]; omega) most X (hDr.later hX)
          rw [← hnn] at hlk2
          obtain ⟨nm, hnm⟩ : ∃ nm, Hid (b.nm = nm) := ⟨_, rfl⟩
          rw [hnm.out] at hlk hlk2 cj
          obtain ⟨V, hV⟩ : ∃ V, Hid (vwOf b.Ls b.p b.bs (cnt most) = V) := ⟨_, rfl⟩
          obtain ⟨U, hU⟩ : ∃ U, Hid (vwOf dd.Ls dd.p dd.bs (cnt most) = U) := ⟨_, rfl⟩
          unfold LookP at hlk hlk2
          rw [hV.out] at hlk hvw
          rw [hU.out] at hlk2 hvw
          have hHvw : Hid (V = U ↔ toB b = toB dd) := hvw
          clear hvw hTc hAj hnn hbe hde hsz hBr hDr hjx hjy e0 hT
          go_wp2_with (go_at_call 26; fail)
          refine hlk.mono ?_
          rintro e w6 ⟨va, vb, vs, rfl, hV6, hVo, hb6⟩
          obtain ⟨x1, x2, rfl⟩ := hV6.1.1.len
          obtain ⟨x3, x4, rfl⟩ := hV6.2.1.1.len
          obtain ⟨x5, x6, rfl⟩ := hV6.2.2.len
          unfold vwV
          have hb7 : Below w6.heap.size w6 (w6.alloc (.cells #[.bool true, .slice x1 V.now.length x2, .slice x3 V.base.length x4, .int .i64 (V.undo : Int), .int .i64 (V.redo : Int), .slice x5 V.steps.length x6] 66)) := (Below.refl _ _).alloc (Nat.le_refl _) _
          have hr7 := heap_alloc_last w6 (.cells #[.bool true, .slice x1 V.now.length x2, .slice x3 V.base.length x4, .int .i64 (V.undo : Int), .int .i64 (V.redo : Int), .slice x5 V.steps.length x6] 66)
          clear hlk
          go_upto_region 8 with fail
          generalize w6.alloc (.cells #[.bool true, .slice x1 V.now.length x2, .slice x3 V.base.length x4, .int .i64 (V.undo : Int), .int .i64 (V.redo : Int), .slice x5 V.steps.length x6] 66) = w7 at *
          have hW7 := below_step hb6 hb7
          have hV7 := hV6.later hb7
          have c7 := (hW7.cell (p := ⟨g, j, none⟩) hg).trans cj
          have hg7 : g < w7.heap.size := Nat.lt_of_lt_of_le hg hW7.size
          have B0 : Below w7.heap.size w7 w7.drew := (Below.refl _ _).drew
          have hSS : ∀ X, Below w7.heap.size w7 X → X.cell? ⟨g, j, none⟩ = some (.string nm) ∧ X.cell? ⟨w6.heap.size, 0, none⟩ = some (.bool true) ∧ X.cell? ⟨w6.heap.size, 1, none⟩ = some (.slice x1 V.now.length x2) ∧ X.cell? ⟨w6.heap.size, 2, none⟩ = some (.slice x3 V.base.length x4) ∧ X.cell? ⟨w6.heap.size, 3, none⟩ = some (.int .i64 (V.undo : Int)) ∧ X.cell? ⟨w6.heap.size, 4, none⟩ = some (.int .i64 (V.redo : Int)) ∧ X.cell? ⟨w6.heap.size, 5, none⟩ = some (.slice x5 V.steps.length x6) := fun X hX => by
            have h2 := (hX.block w6.heap.size (Array.getElem?_eq_some_iff.1 hr7).1).trans hr7
            exact ⟨(hX.cell (p := ⟨g, j, none⟩) hg7).trans c7, cell_of_row _ _ 0 _ _ _ h2, cell_of_row _ _ 1 _ _ _ h2, cell_of_row _ _ 2 _ _ _ h2, cell_of_row _ _ 3 _ _ _ h2, cell_of_row _ _ 4 _ _ _ h2, cell_of_row _ _ 5 _ _ _ h2⟩
          have s0 := hSS _ B0
          have hlk3 := fun X (hX : Below w7.heap.size w7 X) => hlk2 X (below_step hW7 hX)
          have hsv := fun X ua ub us (hX : Below w7.heap.size w7 X) (hU' : VwAt X ua ub us U) (hUo : VwOk U) => same_view_x _ _ _ ua ub us V U hVo hUo X (hV7.later hX) hU'
          unfold vwV at hsv hlk3
          clear hlk2 cj c7 hr7 hV6 hb7
          go_region_held3 (fun X => X.cell? ⟨g, j, none⟩ = some (.string nm) ∧ X.cell? ⟨w6.heap.size, 0, none⟩ = some (.bool true) ∧ X.cell? ⟨w6.heap.size, 1, none⟩ = some (.slice x1 V.now.length x2) ∧ X.cell? ⟨w6.heap.size, 2, none⟩ = some (.slice x3 V.base.length x4) ∧ X.cell? ⟨w6.heap.size, 3, none⟩ = some (.int .i64 (V.undo : Int)) ∧ X.cell? ⟨w6.heap.size, 4, none⟩ = some (.int .i64 (V.redo : Int)) ∧ X.cell? ⟨w6.heap.size, 5, none⟩ = some (.slice x5 V.steps.length x6)) (with_reducible assumption)
            (first
              | (go_at_call 26; refine (hlk3 _ B0).mono ?_; rintro e w8 ⟨ua, ub, us, rfl, hU8, hUo, hb8⟩; have hB8 := below_step B0 hb8; have s8 := hSS _ hB8)
              | (go_at_call 27; refine (hsv _ _ _ _ hB8 hU8 hUo).mono ?_; rintro e w9 ⟨⟨o, rfl, ho⟩, hb9⟩; have hB9 := below_step hB8 hb9; have s9 := hSS _ hB9))
          have hW9 := below_step hW7 hB9
          have hWb := below_step hbr hW9
          clear hsv hlk3 hSS s0 s8 s9 B0 hB8 hU8 hUo hV7 hb9 hb8
          cases o with
          | true =>
            have hTn := hS.out (hHvw.out.1 (ho.1 rfl))
            have hTn' : Hid (xs.take (j + 1) = ys.take (j + 1)) := hTn
            clear hTn ho
            go_wp2
            go_roundw
            case rel => exact ⟨j + 1, by omega, by go_num, hTn', hWb⟩
            case measure => simp [intOf]; omega
          | false =>
            have hno := hNo.out (fun e => by have := ho.2 (hHvw.out.2 e); cases this)
            have hHno : Hid (¬ (xs = ys ∧ c = d)) := hno
            clear hno ho
            go_wp2
            exact bodyPost_ret (v := .bool false) (by simp [results, Tryz.results9, go_sem]) rfl ⟨IffB.no hHno.out, below_step hW3 hWb⟩
        · have hlt' : ¬ (j : Int) < (A.length : Int) := by omega
          have hyes : Hid (xs = ys ∧ c = d) := by
            have h2 := hT.out
            rw [List.take_of_length_le (by rw [← hAl.out]; omega), List.take_of_length_le (by rw [← hxy.out, ← hAl.out]; omega)] at h2
            exact ⟨h2, hcd.out⟩
          clear hT
          go_wp2
          exact bodyPost_ret (v := .bool true) (by simp [results, Tryz.results9, go_sem]) rfl ⟨IffB.yes hyes.out, hWr⟩

end Go.Proofs.YtblfdjdhikfjhaaGreat.BZ
