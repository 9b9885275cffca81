import Derived.Test.YtblfdjdhikfjhaaGreatJoin22
import Derived.Test.YtblfdjdhikfjhaaGreatJoin28
import Derived.Test.YtblfdjdhikfjhaaGreatJoin27
import Derived.Test.YtblfdjdhikfjhaaGreatTurnBBk3
namespace Go.Proofs.YtblfdjdhikfjhaaGreat.BZ
open Go.RowKit

/-- A yes or a no, as it should be. -/
def IffB (e : Ending) (P : Prop) : Prop := ∃ o : Bool, e = .returned (.bool o) ∧ (o = true ↔ P)
theorem IffB.yes {P : Prop} (h : P) : IffB (.returned (.bool true)) P := ⟨true, rfl, fun _ => h, fun _ => rfl⟩
theorem IffB.no {P : Prop} (h : ¬ P) : IffB (.returned (.bool false)) P := ⟨false, rfl, fun e => (by cases e), fun p => absurd p h⟩

set_option maxRecDepth 4000 in
set_option maxHeartbeats 1000000 in
/-- sameEntries, exact. -/
theorem same_ents_x (va vb : Value) (A B : Es) (hl : A.length ≤ 9223372036854775806) (hl2 : B.length ≤ 9223372036854775806) (w : World) (ha : EntsAt w va A) (hb : EntsAt w vb B) : Calls Tryz.prog 56 #[va, vb] w fun e w' => IffB e (A = B) ∧ Below w.heap.size w w' := by
  obtain ⟨aa, ca, rfl, hda⟩ := ha
  obtain ⟨ab, cb, rfl, hdb⟩ := hb
  by_cases hlen : A.length = B.length
  case neg =>
    have hne : ((A.length : Int) == (B.length : Int)) = false := by rw [beq_eq_false_iff_ne]; omega
    have hno : Hid (¬ A = B) := fun e => hlen (by rw [e])
    clear hlen hda hdb
    go_enter Tryz.func56, Tryz.ntmps56
    go_wp2
    go_ret
    exact ⟨IffB.no hno, Below.refl _ _⟩
  case pos =>
    rw [← hlen]
    have hBl : Hid (B.length = A.length) := hlen.symm
    have hT0 : Hid (A.take 0 = B.take 0) := by show A.take 0 = B.take 0; simp
    clear hlen
    go_enter Tryz.func56, Tryz.ntmps56
    go_wp2
    go_loopw [5] (fun i wr => ∃ j : Nat, j ≤ A.length ∧ i = .int .i64 j ∧ Hid (A.take j = B.take j) ∧ Below w.heap.size w wr) (fun i _ => A.length - (intOf i).toNat)
    case atStart => exact ⟨0, by omega, rfl, hT0, Below.refl _ _⟩
    case round =>
      obtain ⟨j, hj, rfl, hT, hB⟩ := hrel
      by_cases hlt : j < A.length
      · have hltB : j < B.length := by rw [hBl.out]; exact hlt
        have hlt' : (j : Int) < A.length := by omega
        have hj0 : (0 : Int) ≤ (j : Int) := by omega
        rcases hda with h0 | ⟨ga, oa, rfl, hga, hca⟩
        · rw [h0] at hlt; simp at hlt
        rcases hdb with h0 | ⟨gb, ob, rfl, hgb, hcb⟩
        · rw [h0] at hltB; simp at hltB
        obtain ⟨a0, a1, a2⟩ := hca j hlt
        obtain ⟨b0, b1, b2⟩ := hcb j hltB
        have hS : Hid (A[j] = B[j] → A.take (j + 1) = B.take (j + 1)) := fun e => by rw [List.take_succ_eq_append_getElem hlt, List.take_succ_eq_append_getElem hltB, hT.out, e]
        have hN : Hid (¬ A[j] = B[j] → ¬ A = B) := fun e h => e (by subst h; rfl)
        generalize A[j] = x at *
        generalize B[j] = y at *
        obtain ⟨k, x1, x2⟩ := x
        obtain ⟨k', y1, y2⟩ := y
        simp only at a0 a1 a2 b0 b1 b2
        replace a0 := (hB.cell (p := ⟨ga, _, none⟩) hga).trans a0
        replace a1 := (hB.cell (p := ⟨ga, _, none⟩) hga).trans a1
        replace a2 := (hB.cell (p := ⟨ga, _, none⟩) hga).trans a2
        replace b0 := (hB.cell (p := ⟨gb, _, none⟩) hgb).trans b0
        replace b1 := (hB.cell (p := ⟨gb, _, none⟩) hgb).trans b1
        replace b2 := (hB.cell (p := ⟨gb, _, none⟩) hgb).trans b2
        clear hca hcb
        by_cases h1 : k = k'
        · subst h1
          by_cases h2 : x1 = y1
          · subst h2
            by_cases h3 : x2 = y2
            · subst h3
              have hT2 : Hid (A.take (j + 1) = B.take (j + 1)) := hS.out rfl
              clear hS hN
              go_wp2
              go_quiet (fail)
              go_wp2
              go_roundw
              case rel => exact ⟨j + 1, by omega, by go_num, hT2, below_drewN hB nq⟩
              case measure => simp [intOf]; omega
            · have hno : Hid (¬ A = B) := hN.out (fun e => h3 (by cases e; rfl))
              have h3' : (x2 == y2) = false := beq_eq_false_iff_ne.2 h3
              clear hS hN h3
              go_wp2
              go_quiet (fail)
              go_wp2
              go_ret
              exact ⟨IffB.no hno, below_drewN hB _⟩
          · have hno : Hid (¬ A = B) := hN.out (fun e => h2 (by cases e; rfl))
            have h2' : (x1 == y1) = false := beq_eq_false_iff_ne.2 h2
            clear hS hN h2
            have h2n : (x1 != y1) = true := by rw [bne, h2']; rfl
            go_wp2
            go_quiet (fail)
            go_wp2
            exact bodyPost_ret (v := .bool false) (by simp [results, Tryz.results56, go_sem]) rfl ⟨IffB.no hno.out, below_drewN hB _⟩
        · have hno : Hid (¬ A = B) := hN.out (fun e => h1 (by cases e; rfl))
          have h1' : ((k : Int) == (k' : Int)) = false := by rw [beq_eq_false_iff_ne]; omega
          have h1n : (k == k') = false := beq_eq_false_iff_ne.2 h1
          have h1d : ¬ (k : Int) = (k' : Int) := by omega
          clear hS hN h1
          have h1m : (k != k') = true := by rw [bne, h1n]; rfl
          have h1o : ((k : Int) != (k' : Int)) = true := by rw [bne, h1']; rfl
          go_wp2
          go_quiet (fail)
          go_wp2
          exact bodyPost_ret (v := .bool false) (by simp [results, Tryz.results56, go_sem]) rfl ⟨IffB.no hno.out, below_drewN hB _⟩
      · have hlt' : ¬ (j : Int) < A.length := by omega
        have hAB : Hid (A = B) := by
          have h := hT.out
          rw [List.take_of_length_le (by omega), List.take_of_length_le (by rw [hBl.out]; omega)] at h
          exact h
        clear hT
        go_wp2
        go_ret
        exact ⟨IffB.yes hAB, hB⟩

theorem vw_ext {V U : Vw} (h1 : V.now = U.now) (h2 : V.base = U.base) (h3 : V.undo = U.undo) (h4 : V.redo = U.redo) (h5 : V.steps = U.steps) : V = U := by
  cases V; cases U
  simp only at h1 h2 h3 h4 h5
  subst h1 h2 h3 h4 h5
  rfl

end Go.Proofs.YtblfdjdhikfjhaaGreat.BZ


namespace Go.Proofs.YtblfdjdhikfjhaaGreat.BZ
open Go.RowKit

/-- A list of texts. -/
def TxtAt (W : World) (v : Value) (l : List (List UInt8)) : Prop := ∃ a cap, v = .slice a l.length cap ∧ (l = [] ∨ ∃ g, a = some ⟨g, 0, none⟩ ∧ g < W.heap.size ∧ ∀ i (h : i < l.length), W.cell? ⟨g, i, none⟩ = some (.string ⟨l[i].toArray⟩))
theorem TxtAt.later {W W' : World} {v : Value} {l : List (List UInt8)} (h : TxtAt W v l) (hb : Below W.heap.size W W') : TxtAt W' v l := by
  obtain ⟨a, cap, rfl, h | ⟨g, rfl, hg, hc⟩⟩ := h
  · exact ⟨a, cap, rfl, .inl h⟩
  · exact ⟨_, cap, rfl, .inr ⟨g, rfl, Nat.lt_of_lt_of_le hg hb.size, fun i hi => (hb.cell (p := ⟨g, i, none⟩) hg).trans (hc i hi)⟩⟩
theorem txt_row {W : World} {lo : Nat} {v : Value} {l : List (List UInt8)} (h : W.ownsRow lo 9 1 v l.length (l.map encStr)) : TxtAt W v l := by
  obtain ⟨_, ⟨e, h0⟩ | ⟨g, cap, cur, e, _⟩⟩ := id h
  · exact ⟨none, 0, by rw [e, h0], .inl (List.length_eq_zero_iff.1 h0)⟩
  · subst e
    refine ⟨_, cap, rfl, .inr ⟨g, rfl, (h.lt g rfl).2, fun i hi => ?_⟩⟩
    refine (h.cellAt i (by omega)).trans ?_
    rw [List.getElem?_map, List.getElem?_eq_getElem hi]
    rfl

set_option maxRecDepth 4000 in
set_option maxHeartbeats 1000000 in
/-- sameTexts, exact. -/
theorem same_texts_x (va vb : Value) (A B : List (List UInt8)) (hl : A.length ≤ 1000) (hl2 : B.length ≤ 1000) (w : World) (ha : TxtAt w va A) (hb : TxtAt w vb B) : Calls Tryz.prog 25 #[va, vb] w fun e w' => IffB e (A = B) ∧ Below w.heap.size w w' := by
  obtain ⟨aa, ca, rfl, hda⟩ := ha
  obtain ⟨ab, cb, rfl, hdb⟩ := hb
  by_cases hlen : A.length = B.length
  case neg =>
    have hne : ((A.length : Int) == (B.length : Int)) = false := by rw [beq_eq_false_iff_ne]; omega
    have hno : Hid (¬ A = B) := fun e => hlen (by rw [e])
    clear hlen hda hdb
    go_enter Tryz.func25, Tryz.ntmps25
    go_wp2
    go_ret
    exact ⟨IffB.no hno, Below.refl _ _⟩
  case pos =>
    rw [← hlen]
    have hBl : Hid (B.length = A.length) := hlen.symm
    have hT0 : Hid (A.take 0 = B.take 0) := by show A.take 0 = B.take 0; simp
    clear hlen
    go_enter Tryz.func25, Tryz.ntmps25
    go_wp2
    go_loopw [5] (fun i wr => ∃ j : Nat, j ≤ A.length ∧ i = .int .i64 j ∧ Hid (A.take j = B.take j) ∧ Below w.heap.size w wr) (fun i _ => A.length - (intOf i).toNat)
    case atStart => exact ⟨0, by omega, rfl, hT0, Below.refl _ _⟩
    case round =>
      obtain ⟨j, hj, rfl, hT, hB⟩ := hrel
      by_cases hlt : j < A.length
      · have hltB : j < B.length := by rw [hBl.out]; exact hlt
        have hlt' : (j : Int) < A.length := by omega
        have hj0 : (0 : Int) ≤ (j : Int) := by omega
        rcases hda with h0 | ⟨ga, rfl, hga, hca⟩
        · rw [h0] at hlt; simp at hlt
        rcases hdb with h0 | ⟨gb, rfl, hgb, hcb⟩
        · rw [h0] at hltB; simp at hltB
        have a0 := hca j hlt
        have b0 := hcb j hltB
        have hS : Hid (A[j] = B[j] → A.take (j + 1) = B.take (j + 1)) := fun e => by rw [List.take_succ_eq_append_getElem hlt, List.take_succ_eq_append_getElem hltB, hT.out, e]
        have hN : Hid (¬ A[j] = B[j] → ¬ A = B) := fun e h => e (by subst h; rfl)
        have hS2 : Hid ((⟨A[j].toArray⟩ : ByteArray) = ⟨B[j].toArray⟩ → A[j] = B[j]) := fun e => by injection e with e; injection e with e
        have hS3 : Hid (A[j] = B[j] → (⟨A[j].toArray⟩ : ByteArray) = ⟨B[j].toArray⟩) := fun e => by rw [e]
        generalize (⟨A[j].toArray⟩ : ByteArray) = x at *
        generalize (⟨B[j].toArray⟩ : ByteArray) = y at *
        generalize A[j] = x' at *
        generalize B[j] = y' at *
        replace a0 := (hB.cell (p := ⟨ga, _, none⟩) hga).trans a0
        replace b0 := (hB.cell (p := ⟨gb, _, none⟩) hgb).trans b0
        have hltB' : (j : Int) < B.length := by omega
        replace hltB' : Hid ((j : Int) < B.length) := hltB'
        clear hca hcb hltB
        by_cases hxy : x = y
        · subst hxy
          have hee : (x.toList == x.toList) = true := beq_self_eq_true _
          have hT1 : Hid (A.take (j + 1) = B.take (j + 1)) := hS.out (hS2.out rfl)
          clear hS hN hS2 hS3 hT
          go_wp2
          go_quiet (fail)
          go_wp2
          go_roundw
          case rel => exact ⟨j + 1, by omega, by go_num, hT1, below_drewN hB _⟩
          case measure => simp [intOf]; omega
        · have hee := toL_ne hxy
          have hee2 : (x.toList != y.toList) = true := by rw [bne, hee]; rfl
          have hno : Hid (¬ A = B) := hN.out fun e => hxy (hS3.out e)
          clear hS hN hS2 hS3 hT hxy
          go_wp2
          go_quiet (fail)
          go_wp2
          go_ret
          exact ⟨IffB.no hno, below_drewN hB _⟩
      · have hlt' : ¬ (j : Int) < A.length := by omega
        have hyes : Hid (A = B) := by
          have h1 := hT.out
          obtain rfl : j = A.length := by omega
          rw [List.take_length, ← hBl.out, List.take_length] at h1
          exact h1
        clear hT
        go_wp2
        go_ret
        exact ⟨IffB.yes hyes, hB⟩

/-- How many entries the steps hold. -/
def tot (Os : List OpR) : Nat := (Os.map fun o => o.In.length).sum
theorem tot_take (Os : List OpR) (j : Nat) (h : j < Os.length) : tot (Os.take (j + 1)) = tot (Os.take j) + Os[j].In.length := by
  unfold tot
  rw [List.take_succ_eq_append_getElem h, List.map_append, List.sum_append]
  simp
theorem tot_le (Os : List OpR) (j : Nat) : tot (Os.take j) ≤ tot Os := by
  have h : tot Os = tot (Os.take j) + tot (Os.drop j) := by
    unfold tot
    rw [← List.sum_append, ← List.map_append, List.take_append_drop]
  omega
set_option maxRecDepth 4000 in
set_option maxHeartbeats 1000000 in
/-- laid, exact. -/
theorem laid_x (va vl : Value) (L : Es) (Os : List OpR) (hs : L.length + tot Os ≤ 1000000000000000000) (w : World) (ha : EntB w va L) (hl : OpsB w vl Os) : Calls Tryz.prog 8 #[va, vl] w fun e w' => e = .returned (.int .i64 ((L.length + tot Os : Nat) : Int)) ∧ Below w.heap.size w w' := by
  obtain ⟨a, cap, rfl⟩ := ha.1.len
  have hLl := ha.2.1
  obtain ⟨a2, cap2, rfl, hOl, hO⟩ := hl
  have hHs : Hid (L.length + tot Os ≤ 1000000000000000000) := hs
  clear ha hs
  go_enter Tryz.func8, Tryz.ntmps8
  go_wp2
  go_loopw [5, 6] (fun n i wr => ∃ (j : Nat) (m : Nat), j ≤ Os.length ∧ i = .int .i64 j ∧ n = .int .i64 (m : Int) ∧ Hid (m = L.length + tot (Os.take j)) ∧ Below w.heap.size w wr) (fun _ i _ => Os.length - (intOf i).toNat)
  case atStart => exact ⟨0, _, by omega, rfl, rfl, by show L.length = _; simp [tot], Below.refl _ _⟩
  case round =>
    obtain ⟨j, m, hj, rfl, rfl, hm, hB⟩ := hrel
    by_cases hlt : j < Os.length
    · have hlt' : (j : Int) < Os.length := by omega
      have hj0 : (0 : Int) ≤ (j : Int) := by omega
      rcases hO with h0 | ⟨g, off, rfl, hg, hc⟩
      · rw [h0] at hlt; simp at hlt
      obtain ⟨⟨-, -, -, -, c4⟩, hI⟩ := hc j hlt
      obtain ⟨a3, cap3, e3⟩ := hI.1.1.len
      rw [e3] at c4
      replace c4 := (hB.cell (p := ⟨g, _, none⟩) hg).trans c4
      have hm1 : Hid (m + Os[j].In.length = L.length + tot (Os.take (j + 1)) ∧ m + Os[j].In.length ≤ 1000000000000000000) := by
        have h1 := tot_take Os j hlt
        have h2 := tot_le Os (j + 1)
        have h3 := hHs.out
        have h4 := hm.out
        exact ⟨by omega, by omega⟩
      generalize Os[j].In.length = n at *
      have hw : IntKind.i64.wrap ((m : Int) + (n : Int)) = ((m + n : Nat) : Int) := by have := hm1.out.2; rw [IntKind.wrap_i64]; omega
      have hw2 : wrap64 ((m : Int) + (n : Int)) = ((m + n : Nat) : Int) := by have := hm1.out.2; unfold wrap64; omega
      clear hc hI e3 hm
      go_wp2
      go_roundw
      case rel => exact ⟨j + 1, m + n, by omega, by go_num, by first | rfl | (rw [hw]) | (rw [hw2]), hm1.out.1, hB⟩
      case measure => simp [intOf]; omega
    · have hlt' : ¬ (j : Int) < Os.length := by omega
      have e : m = L.length + tot Os := by
        have h1 := hm.out
        obtain rfl : j = Os.length := by omega
        rwa [List.take_length] at h1
      go_wp2
      go_ret
      exact ⟨rfl, hB⟩

end Go.Proofs.YtblfdjdhikfjhaaGreat.BZ
