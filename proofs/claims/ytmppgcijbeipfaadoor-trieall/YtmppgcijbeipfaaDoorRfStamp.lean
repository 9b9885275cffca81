import Derived.Test.YtmppgcijbeipfaaDoorRfNew
import Derived.BigQuiet
namespace Go.Proofs.YtmppgcijbeipfaaDoor
open Go.RowKit

/-- One cell of a row is written. -/
theorem own_put {W : World} {base k n g cap : Nat} {t : TypeId} {xs : List Value} (h : W.ownsRow base t k (.slice (some ⟨g, 0, none⟩) n cap) n xs) {j : Nat} (u : Value) : (W.setCell ⟨g, j, none⟩ u).ownsRow base t k (.slice (some ⟨g, 0, none⟩) n cap) n (xs.set j u) ∧ W.frozen? ⟨g, j, none⟩ = false := by
  obtain ⟨h1, ⟨e, _⟩ | ⟨g', cap', cur, e, h2, h3, h4, h5, h6, h7⟩⟩ := h
  · cases e
  · cases e
    refine ⟨⟨by rw [List.length_set]; exact h1, .inr ⟨g, cap, cur.setIfInBounds j u, rfl, h2, heap_setCell_same W g j _ _ u h3, h4, h5, by rw [Array.size_setIfInBounds]; exact h6, ?_⟩⟩, frozen_of_row h3 j⟩
    rw [Array.toList_setIfInBounds, ← h7, List.take_set]
theorem stV_set (st : List Int) (j : Nat) (s : Int) : (stV st).set j (.int .i64 s) = stV (st.set j s) := by unfold stV; rw [List.map_set]
theorem own_sl {W : World} {b t k n : Nat} {v : Value} {xs : List Value} (ho : W.ownsRow b t k v n xs) : ∃ a c, v = .slice a n c ∧ (0 < n → ∃ g, a = some ⟨g, 0, none⟩ ∧ g < W.heap.size) := by
  have h' := ho
  obtain ⟨_, ⟨e, h0⟩ | ⟨g, cap, cur, rfl, _⟩⟩ := ho
  · exact ⟨none, 0, by rw [e, h0], fun h => by omega⟩
  · exact ⟨_, cap, rfl, fun _ => ⟨g, rfl, (h'.lt g rfl).2⟩⟩
/-- A stamp is written. -/
theorem RfR.stamp {W : World} {nb g cap : Nat} {vi vv : Value} {I V : Es} {k : Nat} {st : List Int} (h : RfR W nb vi vv (.slice (some ⟨g, 0, none⟩) k cap) I V k st) {j : Nat} (s : Int) :
    RfR (W.setCell ⟨g, j, none⟩ (.int .i64 s)) nb vi vv (.slice (some ⟨g, 0, none⟩) k cap) I V k (st.set j s) ∧ Below nb W (W.setCell ⟨g, j, none⟩ (.int .i64 s)) ∧ W.frozen? ⟨g, j, none⟩ = false := by
  obtain ⟨o1, o2⟩ := own_put (j := j) h.sts (.int .i64 s)
  have hlt := (h.sts.lt g rfl).1
  have hs := grown_set W g j (.int .i64 s)
  have hv : (Value.slice (some ⟨g, 0, none⟩) k cap).ownBlock = some g := rfl
  refine ⟨⟨(hs.block nb (Array.getElem?_eq_some_iff.1 h.row).1 (fun e => by have := Option.some.inj e; omega)).trans h.row, h.ids.kept hs (hv ▸ own_tags h.sts h.ids (by decide)), h.vals.kept hs (hv ▸ own_tags h.sts h.vals (by decide)), by rw [← stV_set]; exact o1, by rw [List.length_set]; exact h.len⟩, ?_, o2⟩
  exact ((Below.refl W.heap.size W).mono (Nat.le_of_lt (Array.getElem?_eq_some_iff.1 h.row).1)).setCell (p := ⟨g, j, none⟩) (by show nb ≤ g; omega) _

/-- The first bits of a key. -/
def rfPre (id l : Nat) : Nat := id / 16 ^ (8 - l)
theorem rfPre_step (id k : Nat) (hk : 0 < k) (h8 : k ≤ 8) : rfPre id k / 16 = rfPre id (k - 1) := by
  unfold rfPre
  rw [Nat.div_div_eq_div_mul, show 8 - (k - 1) = 8 - k + 1 from by omega, Nat.pow_succ]
theorem rfPre_lt (id k : Nat) (h : id < 4294967296) : rfPre id k < 4294967296 := Nat.lt_of_le_of_lt (Nat.div_le_self _ _) h

set_option maxRecDepth 4000 in
set_option maxHeartbeats 2000000 in
theorem prefix_rf (id l : Nat) (hid : id < 4294967296) (hl : l ≤ 8) (w : World) : Calls Tryd.prog 43 #[.int .u32 (id : Int), .int .i64 (l : Int)] w fun e w' => e = .returned (.int .u32 (rfPre id l : Int)) ∧ w' = w := by
  go_enter Tryd.func43, Tryd.ntmps43
  go_wp2
  go_loopw [5, 6] (fun p iv X => ∃ k : Nat, l ≤ k ∧ k ≤ 8 ∧ p = .int .u32 (rfPre id k : Int) ∧ iv = .int .i64 (k : Int) ∧ X = w) (fun _ iv _ => (intOf iv).toNat)
  case atStart => exact ⟨8, hl, Nat.le_refl _, by simp [rfPre], rfl, rfl⟩
  case round =>
    obtain ⟨k, h1, h2, rfl, rfl, rfl⟩ := hrel
    by_cases hk : l < k
    · have hk' : (l : Int) < (k : Int) := Int.ofNat_lt.2 hk
      have hst := rfPre_step id k (by omega) h2
      have hq := rfPre_lt id k hid
      have hq' := rfPre_lt id (k - 1) hid
      have hst1 : ((rfPre id k : Nat) : Int) / 16 = ((rfPre id (k - 1) : Nat) : Int) := by rw [← hst]; rfl
      have hst2 : Int.tdiv ((rfPre id k : Nat) : Int) 16 = ((rfPre id (k - 1) : Nat) : Int) := by rw [← hst]; rfl
      obtain ⟨k', rfl⟩ : ∃ k', k = k' + 1 := ⟨k - 1, by omega⟩
      rw [Nat.add_sub_cancel] at hq' hst1 hst2
      clear hst
      generalize rfPre id (k' + 1) = q at *
      generalize hq2 : rfPre id k' = q' at hq' hst1 hst2
      go_wp2
      exact ⟨⟨k', by omega, by omega, by rw [hq2], rfl, trivial⟩, by simp [intOf]⟩
    · have hk' : ¬ (l : Int) < (k : Int) := fun h => hk (Int.ofNat_lt.1 h)
      obtain rfl : k = l := by omega
      go_wp2
      go_ret
      exact ⟨rfl, rfl⟩

set_option maxRecDepth 4000 in
set_option maxHeartbeats 4000000 in
theorem stamped_rf (nb id : Nat) (hid : id < 4294967296) (s : Int) (vi vv vs : Value) (N : Es) (hk : ∀ e ∈ N, e.1 < 4294967296) (hN : N.length ≤ 6000000000) (st : List Int) (w : World) (h : RfR w nb vi vv vs N N N.length st) : Calls Tryd.prog 36 #[.pointer (some ⟨nb, 0, none⟩), .int .u32 (id : Int), .int .i64 s] w fun e w' => e = .returned (.tuple #[]) ∧ (∃ st', RfR w' nb vi vv vs N N N.length st') ∧ Below nb w w' := by
  have hnb := (Array.getElem?_eq_some_iff.1 h.row).1
  go_enter Tryd.func36, Tryd.ntmps36
  go_wp2
  go_loopw [6] (fun iv X => ∃ i : Nat, Hid (i ≤ N.length) ∧ iv = .int .i64 (i : Int) ∧ (∃ st', RfR X nb vi vv vs N N N.length st') ∧ Below nb w X) (fun iv _ => N.length - (intOf iv).toNat)
  case atStart => exact ⟨0, Nat.zero_le _, rfl, ⟨st, h⟩, (Below.refl _ _).mono (Nat.le_of_lt hnb)⟩
  case round =>
    obtain ⟨i, hi, rfl, ⟨st1, h1⟩, hB1⟩ := hrel
    obtain ⟨ai, ci, rfl, qi⟩ := own_sl h1.ids
    have c0 : wr.cell? ⟨nb, 0, none⟩ = some (.slice ai N.length ci) := cell_of_row _ _ 0 _ _ _ h1.row
    by_cases hlt : i < N.length
    · have hlt' : (i : Int) < (N.length : Int) := Int.ofNat_lt.2 hlt
      have hi0 : (0 : Int) ≤ (i : Int) := Int.natCast_nonneg _
      have hpos : 0 < N.length := Nat.lt_of_le_of_lt (Nat.zero_le _) hlt
      have hkey := hk _ (List.getElem_mem hlt)
      go_wp2
      go_loopw [7] (fun iv X => ∃ l : Nat, l ≤ 8 ∧ iv = .int .i64 (l : Int) ∧ (∃ st', RfR X nb (.slice ai N.length ci) vv vs N N N.length st') ∧ Below nb w X) (fun iv _ => 8 - (intOf iv).toNat)
      case atStart => exact ⟨0, Nat.zero_le _, rfl, ⟨st1, h1⟩, hB1⟩
      case round =>
        clear c0 h1 hB1
        obtain ⟨l, hl, rfl, ⟨st2, h2⟩, hB2⟩ := hrel
        by_cases hl8 : l < 8
        · have hl8' : (l : Int) < 8 := Int.ofNat_lt.2 hl8
          have hl0 : (0 : Int) ≤ (l : Int) := Int.natCast_nonneg _
          obtain ⟨gi, rfl, hgi⟩ := qi hpos
          obtain ⟨az, cz, rfl, qs⟩ := own_sl h2.sts
          obtain ⟨gs, rfl, hgs⟩ := qs hpos
          have c0 : wr.cell? ⟨nb, 0, none⟩ = some (.slice (some ⟨gi, 0, none⟩) N.length ci) := cell_of_row _ _ 0 _ _ _ h2.row
          have c2 : wr.cell? ⟨nb, 2, none⟩ = some (.slice (some ⟨gs, 0, none⟩) N.length cz) := cell_of_row _ _ 2 _ _ _ h2.row
          have a0 : wr.cell? ⟨gi, i, none⟩ = some (.int .u32 (N[i].1 : Int)) := by
            rw [h2.ids.cellAt i (by omega)]
            unfold idV
            rw [List.getElem?_map, List.getElem?_eq_getElem hlt]
            rfl
          have hj8 : i * 8 + l < N.length * 8 := by omega
          obtain ⟨o, ho⟩ : ∃ o, wr.cell? ⟨gs, i * 8 + l, none⟩ = some (.int .i64 o) := by
            refine ⟨st2[i * 8 + l]'(by rw [h2.len]; exact hj8), ?_⟩
            rw [h2.sts.cellAt (i * 8 + l) (by omega)]
            unfold stV
            rw [List.getElem?_map, List.getElem?_eq_getElem (by rw [h2.len]; exact hj8)]
            rfl
          obtain ⟨h3, hB3, hf3⟩ := h2.stamp (j := i * 8 + l) s
          have hB4 : Below nb w (wr.setCell ⟨gs, i * 8 + l, none⟩ (.int .i64 s)) := hB2.trans hB3
          clear hB3
          generalize N[i].1 = key at *
          have p1 : Hid (∀ X, _) := fun X => prefix_rf key l hkey (Nat.le_of_lt hl8) X
          have p2 : Hid (∀ X, _) := fun X => prefix_rf id l hid (Nat.le_of_lt hl8) X
          have hidn : Hid (i < N.length) := hlt
          clear hk hid hkey
          by_cases he : rfPre key l = rfPre id l
          · rw [he] at p1
            clear he
            go_wp2_with (go_at_call 43; fail)
            refine (p1.out _).mono ?_
            rintro e w1 ⟨rfl, rfl⟩
            clear p1
            go_wp2_with (go_at_call 43; fail)
            refine (p2.out _).mono ?_
            rintro e w1 ⟨rfl, rfl⟩
            clear p2
            go_wp2
            exact ⟨⟨l + 1, hl8, by go_num, ⟨_, h3⟩, hB4⟩, by simp [intOf]; omega⟩
          · have he1 : ¬ ((rfPre key l : Nat) : Int) = ((rfPre id l : Nat) : Int) := fun h => he (Int.ofNat_inj.1 h)
            generalize rfPre key l = q1 at *
            generalize rfPre id l = q2 at *
            clear he h3 hB4 hf3
            go_wp2_with (go_at_call 43; fail)
            refine (p1.out _).mono ?_
            rintro e w1 ⟨rfl, rfl⟩
            clear p1
            go_wp2_with (go_at_call 43; fail)
            refine (p2.out _).mono ?_
            rintro e w1 ⟨rfl, rfl⟩
            clear p2
            go_wp2
            exact ⟨⟨l + 1, hl8, by go_num, ⟨_, h2⟩, hB2⟩, by simp [intOf]; omega⟩
        · have hl8' : ¬ (l : Int) < 8 := fun h => hl8 (Int.ofNat_lt.1 h)
          have hidn : Hid (i < N.length) := hlt
          clear hk hid hkey
          go_wp2
          exact ⟨⟨i + 1, hidn.out, by go_num, ⟨_, h2⟩, hB2⟩, by simp [intOf]; omega⟩
    · have hlt' : ¬ (i : Int) < (N.length : Int) := fun h => hlt (Int.ofNat_lt.1 h)
      go_wp2
      go_end0
      exact ⟨rfl, ⟨st1, h1⟩, hB1⟩

end Go.Proofs.YtmppgcijbeipfaaDoor
