import Derived.Test.YtpmfgffhkklfeaaDoorTMade
import Derived.Test.YtpmfgffhkklfeaaDoorTShL
namespace Go.Proofs.YtpmfgffhkklfeaaDoor
open Go.RowKit

/-- How many nodes a step makes. -/
def FrsP (t t' : Tr) (id : Nat) (v : Int × Int) (gone : Bool) : Prop := (gone = true → (t.get 7 id = none → t'.frs t = 0) ∧ (t.get 7 id ≠ none → t'.frs t ≤ 8 ∧ (0 < t'.frs t ↔ 0 < t'.cnt))) ∧ (gone = false → (t.get 7 id = some v → t'.frs t = 0) ∧ (t.get 7 id ≠ some v → t'.frs t = 8))
theorem frsP_le {t t' : Tr} {id : Nat} {v : Int × Int} {gone : Bool} (h : FrsP t t' id v gone) : t'.frs t ≤ 8 := by
  cases gone with
  | true =>
    by_cases e : t.get 7 id = none
    · rw [(h.1 rfl).1 e]; omega
    · exact ((h.1 rfl).2 e).1
  | false =>
    by_cases e : t.get 7 id = some v
    · rw [(h.2 rfl).1 e]; omega
    · exact Nat.le_of_eq ((h.2 rfl).2 e)

def OneP (w : World) (t : Tr) (id : Nat) (v : Int × Int) (gone : Bool) (e : Ending) (w' : World) : Prop := ∃ mb' t', e = .returned (.pointer (some ⟨mb', 0, none⟩)) ∧ MapT w' mb' t' ∧ t'.ents 7 0 = stepL (t.ents 7 0) id v gone ∧ FrsP t t' id v gone ∧ Below w.heap.size w w'

theorem mput_frs (mb id : Nat) (hi : id < 4294967296) (v : Int × Int) (t : Tr) (w : World) (h : MapT w mb t) : Calls Tryd.prog 15 #[.pointer (some ⟨mb, 0, none⟩), .int .u32 (id : Int), .agg #[.int .i64 v.1, .int .i64 v.2]] w (OneP w t id v false) := by
  have hw := h.2.2.2.2
  have ho := lies_old h.2.2.2.1
  have hlen := length_ins (t.ents 7 0) id v
  cases hg : t.get 7 id with
  | none =>
    refine (put_none mb id v t w h hg).mono ?_
    rintro e w' ⟨mb', t', rfl, -, h1, h2, h3, h4, h5, h6⟩
    have he := ents_put h5 hw hi
    have hf : (t.ents 7 0).filter (fun e => decide (e.1 = id)) = [] := filter_none fun x hx => by rw [mem_of_get hw hi, hg] at hx; cases hx
    rw [hf] at hlen
    refine ⟨mb', t', rfl, ⟨h1, h2, ?_, h4, put_wf 7 h5 hw⟩, he, ⟨fun h => (by cases h), fun _ => ⟨fun hc => (by rw [hg] at hc; cases hc), fun _ => frs_put 7 h5 ho⟩⟩, h6⟩
    rw [h3, he, ← hlen]
    simp
  | some x =>
    have hf := filter_one (ents_rises 7 hw 0) ((mem_of_get hw hi).2 hg)
    by_cases hx : x = v
    · subst hx
      refine (put_same mb id x t w h hg).mono ?_
      rintro e w' ⟨rfl, hb⟩
      exact ⟨mb, t, rfl, h.later hb, (ins_same (ents_rises 7 hw 0) ((mem_of_get hw hi).2 hg)).symm, ⟨fun h => (by cases h), fun _ => ⟨fun _ => frs_self t, fun hc => absurd hg hc⟩⟩, hb⟩
    · refine (put_other mb id v t w h x hx hg).mono ?_
      rintro e w' ⟨mb', t', rfl, -, h1, h2, h3, h4, h5, h6⟩
      have he := ents_put h5 hw hi
      refine ⟨mb', t', rfl, ⟨h1, h2, ?_, h4, put_wf 7 h5 hw⟩, he, ⟨fun h => (by cases h), fun _ => ⟨fun hc => (by rw [hg] at hc; exact absurd (Option.some.inj hc) hx), fun _ => frs_put 7 h5 ho⟩⟩, h6⟩
      rw [h3, he]
      congr 3
      omega

theorem mdrop_frs (mb id : Nat) (hi : id < 4294967296) (v : Int × Int) (t : Tr) (w : World) (h : MapT w mb t) : Calls Tryd.prog 19 #[.pointer (some ⟨mb, 0, none⟩), .int .u32 (id : Int)] w (OneP w t id v true) := by
  have hw := h.2.2.2.2
  have ho := lies_old h.2.2.2.1
  have hlen := length_del (t.ents 7 0) id
  cases hg : t.get 7 id with
  | none =>
    refine (drop_none mb id t w h hg).mono ?_
    rintro e w' ⟨rfl, hb⟩
    exact ⟨mb, t, rfl, h.later hb, (del_none fun x hx => by rw [mem_of_get hw hi, hg] at hx; cases hx).symm, ⟨fun _ => ⟨fun _ => frs_self t, fun hc => absurd hg hc⟩, fun h => (by cases h)⟩, hb⟩
  | some x =>
    have hf := filter_one (ents_rises 7 hw 0) ((mem_of_get hw hi).2 hg)
    refine (drop_some mb id (del (t.ents 7 0) id).length t w h x hg (by omega)).mono ?_
    rintro e w' ⟨mb', t', rfl, -, h1, h2, h3, h4, h5, h6⟩
    have he := ents_drop h5 hw hi
    refine ⟨mb', t', rfl, ⟨h1, h2, ?_, h4, drop_wf 7 h5 hw⟩, he, ⟨fun _ => ⟨fun hc => (by rw [hg] at hc; cases hc), fun _ => frs_drop 7 h5 ho⟩, fun h => (by cases h)⟩, h6⟩
    rw [h3, he]

set_option maxHeartbeats 1000000 in
theorem one_frs (mb id : Nat) (hi : id < 4294967296) (x y : Int) (gone : Bool) (t : Tr) (w : World) (h : MapT w mb t) : Calls Tryd.prog 8 #[.pointer (some ⟨mb, 0, none⟩), .agg #[.int .u32 (id : Int), .int .i64 x, .int .i64 y, .bool gone]] w (OneP w t id (x, y) gone) := by
  have hb1 := (Below.refl w.heap.size w).alloc (Nat.le_refl _) (.cells #[.int .u32 (id : Int), .int .i64 x, .int .i64 y, .bool gone] 27)
  have hM := h.later hb1
  cases gone with
  | true =>
    go_enter Tryd.func8, Tryd.ntmps8
    go_wp2_with (go_at_call 19; refine (mdrop_frs mb id hi (x, y) t _ hM).mono ?_; rintro e w2 ⟨mb', t', rfl, h1, h2, h4, h3⟩)
    go_ret
    exact ⟨mb', t', rfl, h1, h2, h4, below_step hb1 h3⟩
  | false =>
    go_enter Tryd.func8, Tryd.ntmps8
    go_wp2_with (go_at_call 15; refine (mput_frs mb id hi (x, y) t _ hM).mono ?_; rintro e w2 ⟨mb', t', rfl, h1, h2, h4, h3⟩)
    go_ret
    exact ⟨mb', t', rfl, h1, h2, h4, below_step hb1 h3⟩

/-- What made answers, with the nodes that were made since. -/
def MadeF (w : World) (L : List (Nat × (Int × (Int × Bool)))) (n : Int) (e : Ending) (w' : World) : Prop := ∃ (mb : Nat) (t : Tr) (ab : Nat) (ta : Tr), e = .returned (.tuple #[.pointer (some ⟨mb, 0, none⟩), .pointer (some ⟨ab, 0, none⟩)]) ∧ MapT w' mb t ∧ t.ents 7 0 = scr [] (L.take 200) ∧ MapT w' ab ta ∧ ta.ents 7 0 = scr [] (L.take (atN n (min L.length 200))) ∧ t.frs ta ≤ 8 * (min L.length 200 - atN n (min L.length 200)) ∧ Below w.heap.size w w'

theorem atN_le (n : Int) (k : Nat) : atN n k ≤ k := by unfold atN; split <;> omega

set_option maxRecDepth 4000 in
set_option maxHeartbeats 1000000 in
theorem made_frs (vl : Value) (L : List (Nat × (Int × (Int × Bool)))) (n : Int) (w : World) (hL : PutsAt w vl L) :
    Calls Tryd.prog 5 #[vl, .int .i64 n] w (MadeF w L n) := by
  obtain ⟨aa, ca, rfl, hda⟩ := hL
  go_enter Tryd.func5, Tryd.ntmps5
  go_wp2_with (first | (go_at_call 14; refine (empty_any _).mono ?_; rintro e w1 ⟨rfl, hM1, hB1⟩))
  go_loopw [6, 7, 8] (fun m at_ i wr => ∃ (j mb ab : Nat) (t ta : Tr), j ≤ 200 ∧ j ≤ L.length ∧ i = .int .i64 j ∧ m = .pointer (some ⟨mb, 0, none⟩) ∧ at_ = .pointer (some ⟨ab, 0, none⟩) ∧ MapT wr mb t ∧ t.ents 7 0 = scr [] (L.take j) ∧ MapT wr ab ta ∧ ta.ents 7 0 = scr [] (L.take (atN n j)) ∧ t.frs ta ≤ 8 * (j - atN n j) ∧ Below w.heap.size w wr) (fun _ _ i _ => L.length - (intOf i).toNat)
  case atStart => exact ⟨0, _, _, .nil, .nil, by omega, by omega, rfl, rfl, rfl, hM1, rfl, hM1, by rw [show atN n 0 = 0 from by unfold atN; rw [if_neg (by omega)]]; rfl, Nat.zero_le _, hB1⟩
  case round =>
    obtain ⟨j, mb, ab, t, ta, hj200, hj, rfl, rfl, rfl, hM, hE, hA, hEa, hF, hB⟩ := hrel
    clear hM1 hB1
    by_cases hlt : j < L.length ∧ j < 200
    · obtain ⟨hlt, h200⟩ := hlt
      have hlt' : (j : Int) < L.length := by omega
      have h200' : (j : Int) < 200 := by omega
      have hj0 : (0 : Int) ≤ (j : Int) := by omega
      rcases hda with h0 | ⟨ga, oa, rfl, hga, hca⟩
      · rw [h0] at hlt; simp at hlt
      obtain ⟨hid, q0, q1, q2, q3⟩ := hca j hlt
      have hts : scr [] (L.take (j + 1)) = stepL (scr [] (L.take j)) L[j].1 (L[j].2.1, L[j].2.2.1) L[j].2.2.2 := by rw [take_step hlt, scr_snoc]
      clear hca
      obtain ⟨e, he⟩ : ∃ e, L[j] = e := ⟨_, rfl⟩
      rw [he] at hid q0 q1 q2 q3 hts
      obtain ⟨id, x, y, gone⟩ := e
      simp only at hid q0 q1 q2 q3 hts
      have hTs : Hid (scr [] (L.take (j + 1)) = stepL (scr [] (L.take j)) id (x, y) gone) := hts
      have hE' : Hid (t.ents 7 0 = scr [] (L.take j)) := hE
      have hEa' : Hid (ta.ents 7 0 = scr [] (L.take (atN n j))) := hEa
      have hF' : Hid (t.frs ta ≤ 8 * (j - atN n j)) := hF
      clear he hts hE hEa hF
      have c0 := (hB.cell (p := ⟨ga, oa + j * 4, none⟩) hga).trans q0
      have c1 := (hB.cell (p := ⟨ga, oa + j * 4 + 1, none⟩) hga).trans q1
      have c2 := (hB.cell (p := ⟨ga, oa + j * 4 + 2, none⟩) hga).trans q2
      have c3 := (hB.cell (p := ⟨ga, oa + j * 4 + 3, none⟩) hga).trans q3
      by_cases hn : (j : Int) + 1 = n
      · have hnb : ((j : Int) + 1 == n) = true := by simpa using hn
        have hat : atN n (j + 1) = j + 1 := by unfold atN; rw [if_pos (by omega)]; omega
        have hAt : Hid (atN n (j + 1) = j + 1) := hat
        clear hn hat
        go_wp2_with (first | (go_at_call 8; refine (one_frs mb id hid x y gone t _ hM).mono ?_; rintro e w2 ⟨mb', t', rfl, hM2, hE2, hF2, hB2⟩))
        go_roundw
        case rel => exact ⟨j + 1, mb', mb', t', t', by omega, by omega, by go_num, rfl, rfl, hM2, by rw [hE2, hE'.out, hTs.out], hM2, by rw [hAt.out, hE2, hE'.out, hTs.out], by rw [frs_self]; exact Nat.zero_le _, below_step hB hB2⟩
        case measure => simp [intOf]; omega
      · have hnb : ((j : Int) + 1 == n) = false := by simpa using hn
        have hat : atN n (j + 1) = atN n j := by unfold atN; split <;> split <;> omega
        have hAt : Hid (atN n (j + 1) = atN n j) := hat
        clear hn hat
        go_wp2_with (first | (go_at_call 8; refine (one_frs mb id hid x y gone t _ hM).mono ?_; rintro e w2 ⟨mb', t', rfl, hM2, hE2, hF2, hB2⟩))
        go_roundw
        case rel => exact ⟨j + 1, mb', ab, t', ta, by omega, by omega, by go_num, rfl, rfl, hM2, by rw [hE2, hE'.out, hTs.out], hA.later hB2, by rw [hAt.out, hEa'.out], by
            have h1 := frs_lies t' t ta hM2.2.2.2.1 (hM.later hB2).2.2.2.1 (hA.later hB2).2.2.2.1
            have h2 := frsP_le hF2
            have h3 := hF'.out
            have h4 := atN_le n j
            rw [hAt.out]
            omega, below_step hB hB2⟩
        case measure => simp [intOf]; omega
    · have hx : ¬ (j : Int) < L.length ∨ ((j : Int) < L.length ∧ ¬ (j : Int) < 200) := by omega
      have hjm : min L.length 200 = j := by omega
      have htk : L.take 200 = L.take j := by
        by_cases h : j = 200
        · rw [h]
        · rw [List.take_of_length_le (by omega), List.take_of_length_le (by omega)]
      have hTk : Hid (L.take 200 = L.take j) := htk
      have hJm : Hid (min L.length 200 = j) := hjm
      have hF' : Hid (t.frs ta ≤ 8 * (j - atN n j)) := hF
      clear hlt hjm htk hF
      rcases hx with hx | ⟨hx, hx2⟩
      all_goals
        go_wp2
        exact bodyPost_ret (v := .tuple #[.pointer (some ⟨mb, 0, none⟩), .pointer (some ⟨ab, 0, none⟩)]) (by simp [results, Tryd.results5, go_sem]) rfl ⟨mb, t, ab, ta, rfl, hM, by rw [hTk.out]; exact hE, hA, by rw [hJm.out]; exact hEa, by rw [hJm.out]; exact hF'.out, hB⟩

end Go.Proofs.YtpmfgffhkklfeaaDoor
