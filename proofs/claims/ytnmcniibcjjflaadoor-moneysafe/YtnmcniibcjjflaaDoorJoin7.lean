import Derived.Test.YtnmcniibcjjflaaDoorJoin4
import Derived.Test.YtnmcniibcjjflaaDoorJoin5
import Derived.OwnWalk
namespace Go.Proofs.YtnmcniibcjjflaaDoor
open Go.RowKit

set_option maxHeartbeats 400000 in
theorem fitting_any (k n : Int) (near : Bool) (w : World) (hK : Kinds w) :
    Calls Tryd.prog 53 #[.int .i64 k, .int .i64 n, .bool near] w fun e w' => e = .returned (.agg #[.int .i64 (M.fit near k n).1, .int .i64 (M.fit near k n).2]) ∧ Below w.heap.size w w' := by
  have hR := (Box.new w (.int .i64 0) (.int .i64 0) 24).alloc (.cells #[.int .i64 k, .int .i64 n] 24)
  have hX := Box.new (w.alloc (.cells #[.int .i64 0, .int .i64 0] 24)) (.int .i64 k) (.int .i64 n) 24
  have hX' : Box ((w.alloc (.cells #[.int .i64 0, .int .i64 0] 24)).alloc (.cells #[.int .i64 k, .int .i64 n] 24)) (w.heap.size + 1) (.int .i64 k) (.int .i64 n) := hX.of (by simp)
  have hB : Below w.heap.size w ((w.alloc (.cells #[.int .i64 0, .int .i64 0] 24)).alloc (.cells #[.int .i64 k, .int .i64 n] 24)) := ((Below.refl _ _).alloc (Nat.le_refl _) _).alloc (by simp) _
  clear hX
  cases near with
  | false =>
    go_enter Tryd.func53, Tryd.ntmps53
    go_wp2_with (go_at_call 18; refine (fault_any _ _).mono ?_; rintro e w2 ⟨rfl, hb2⟩; obtain ⟨r0, r1, q0, q1⟩ := hR.later hb2; have hB2 := below_step hB hb2; clear hb2)
    exact bodyPost_ret (v := .agg #[.int .i64 6, .int .i64 1]) (by simp [results, Tryd.results53, go_sem, r0, r1]) rfl ⟨by rw [M.fit_far], (hB2.setCell (by simp) _).setCell (by simp) _⟩
  | true =>
    cases hv : M.valid k n with
    | false =>
      go_enter Tryd.func53, Tryd.ntmps53
      go_wp2_with (first | (go_at_call 12; refine (valid_any _ _ _ ((hK.alloc _).alloc _)).mono ?_; rintro e w1 ⟨rfl, hb1⟩; have hR1 := hR.later hb1; have hB1 := below_step hB hb1; clear hb1) | (go_at_call 18; refine (fault_any _ _).mono ?_; rintro e w2 ⟨rfl, hb2⟩; obtain ⟨r0, r1, q0, q1⟩ := hR1.later hb2; have hB2 := below_step hB1 hb2; clear hb2))
      exact bodyPost_ret (v := .agg #[.int .i64 6, .int .i64 1]) (by simp [results, Tryd.results53, go_sem, r0, r1]) rfl ⟨by rw [M.fit_over hv], (hB2.setCell (by simp) _).setCell (by simp) _⟩
    | true =>
      go_enter Tryd.func53, Tryd.ntmps53
      go_wp2_with (go_at_call 12; refine (valid_any _ _ _ ((hK.alloc _).alloc _)).mono ?_; rintro e w1 ⟨rfl, hb1⟩; obtain ⟨r0, r1, q0, q1⟩ := hR.later hb1; obtain ⟨s0, s1, -, -⟩ := hX'.later hb1; have hB1 := below_step hB hb1; clear hb1)
      exact bodyPost_ret (v := .agg #[.int .i64 k, .int .i64 n]) (by simp [results, Tryd.results53, go_sem, r0, r1]) rfl ⟨by rw [M.fit_ok hv], (hB1.setCell (by simp) _).setCell (by simp) _⟩

set_option maxHeartbeats 400000 in
theorem bounded_any (k n : Int) (w : World) :
    Calls Tryd.prog 16 #[.int .i64 k, .int .i64 n] w fun e w' => e = .returned (.agg #[.int .i64 (M.fit true k n).1, .int .i64 (M.fit true k n).2]) ∧ Below w.heap.size w w' := by
  have hR := (Box.new w (.int .i64 0) (.int .i64 0) 24).alloc (.cells #[.int .i64 k, .int .i64 n] 24)
  have hX := Box.new (w.alloc (.cells #[.int .i64 0, .int .i64 0] 24)) (.int .i64 k) (.int .i64 n) 24
  have hX' : Box ((w.alloc (.cells #[.int .i64 0, .int .i64 0] 24)).alloc (.cells #[.int .i64 k, .int .i64 n] 24)) (w.heap.size + 1) (.int .i64 k) (.int .i64 n) := hX.of (by simp)
  have hB : Below w.heap.size w ((w.alloc (.cells #[.int .i64 0, .int .i64 0] 24)).alloc (.cells #[.int .i64 k, .int .i64 n] 24)) := ((Below.refl _ _).alloc (Nat.le_refl _) _).alloc (by simp) _
  clear hX
  cases hv : M.valid k n with
  | false =>
    go_enter Tryd.func16, Tryd.ntmps16
    go_wp2_with (first | (go_at_call 15; refine (rvalid_any _ _ _).mono ?_; rintro e w1 ⟨rfl, hb1⟩; have hR1 := hR.later hb1; have hB1 := below_step hB hb1; clear hb1) | (go_at_call 14; refine (bad_any _ _).mono ?_; rintro e w2 ⟨rfl, hb2⟩; obtain ⟨r0, r1, q0, q1⟩ := hR1.later hb2; have hB2 := below_step hB1 hb2; clear hb2))
    exact bodyPost_ret (v := .agg #[.int .i64 6, .int .i64 1]) (by simp [results, Tryd.results16, go_sem, r0, r1]) rfl ⟨by rw [M.fit_over hv], (hB2.setCell (by simp) _).setCell (by simp) _⟩
  | true =>
    go_enter Tryd.func16, Tryd.ntmps16
    go_wp2_with (go_at_call 15; refine (rvalid_any _ _ _).mono ?_; rintro e w1 ⟨rfl, hb1⟩; obtain ⟨r0, r1, q0, q1⟩ := hR.later hb1; obtain ⟨s0, s1, -, -⟩ := hX'.later hb1; have hB1 := below_step hB hb1; clear hb1)
    exact bodyPost_ret (v := .agg #[.int .i64 k, .int .i64 n]) (by simp [results, Tryd.results16, go_sem, r0, r1]) rfl ⟨by rw [M.fit_ok hv], (hB1.setCell (by simp) _).setCell (by simp) _⟩

end Go.Proofs.YtnmcniibcjjflaaDoor


namespace Go.Proofs.YtnmcniibcjjflaaDoor
open Go.RowKit

set_option maxHeartbeats 1000000 in
theorem looked_any (a : Option Addr) (cap : Nat) (vs : List (Int × Int)) (w : World) (hV : Vals w a vs) :
    Calls Tryd.prog 64 #[.slice a vs.length cap] w fun e w' => e = .returned (.tuple #[.agg #[.int .i64 (M.vk (M.mish vs)), .int .i64 (M.vn (M.mish vs))], .bool (M.mish vs).isSome]) ∧ Below w.heap.size w w' := by
  have hlen := hV.1
  unfold maxLen at hlen
  have hV0 := hV.later ((Below.refl _ _).alloc (Nat.le_refl _) (.cells #[.int .i64 0, .int .i64 0] 24))
  have hB0 : Below w.heap.size w (w.alloc (.cells #[.int .i64 0, .int .i64 0] 24)) := (Below.refl _ _).alloc (Nat.le_refl _) _
  clear hV
  go_enter Tryd.func64, Tryd.ntmps64
  go_wp2
  go_loopw [4] (fun i wr => ∃ j : Nat, j ≤ vs.length ∧ i = .int .i64 j ∧ M.mish (vs.drop j) = M.mish vs ∧ Below (w.alloc (.cells #[.int .i64 0, .int .i64 0] 24)).heap.size (w.alloc (.cells #[.int .i64 0, .int .i64 0] 24)) wr) (fun i _ => vs.length - (intOf i).toNat)
  case atStart => exact ⟨0, Nat.zero_le _, rfl, rfl, Below.refl _ _⟩
  case round =>
    obtain ⟨j, hj, rfl, hm, hb⟩ := hrel
    have hBw := below_step hB0 hb
    have hVr := hV0.later hb
    have hR := (Box.new w (.int .i64 0) (.int .i64 0) 24).later hb
    have HB : Hid (Below (w.alloc (.cells #[.int .i64 0, .int .i64 0] 24)).heap.size (w.alloc (.cells #[.int .i64 0, .int .i64 0] 24)) wr) := hb
    clear hb hB0 hV0
    by_cases hlt : j < vs.length
    · obtain ⟨-, h | ⟨b, off, rfl, hbw, hcs⟩⟩ := hVr
      · subst h; simp at hlt
      obtain ⟨hc0, hc1⟩ := hcs j hlt
      have hdr := M.drop_at hlt
      generalize (vs.getD j (0, 0)).1 = k at *
      generalize (vs.getD j (0, 0)).2 = n at *
      clear hcs
      have hlt' : (j : Int) < vs.length := by omega
      have HD : Hid (vs.drop j = (k, n) :: vs.drop (j + 1)) := hdr
      have HM : Hid (M.mish (vs.drop j) = M.mish vs) := hm
      clear hdr hm
      cases hv : M.valid k n with
      | false =>
        go_wp2_with (first | (go_at_call 15; refine (rvalid_any _ _ _).mono ?_; rintro e w1 ⟨rfl, hb1⟩; have hR1 := hR.later hb1; have hB1 := below_step hBw hb1; clear hb1) | (go_at_call 14; refine (bad_any _ _).mono ?_; rintro e w2 ⟨rfl, hb2⟩; obtain ⟨r0, r1, q0, q1⟩ := hR1.later hb2; have hB2 := below_step hB1 hb2; clear hb2))
        exact bodyPost_ret (v := .tuple #[.agg #[.int .i64 6, .int .i64 5], .bool true]) (by simp [results, Tryd.results64, go_sem, r0, r1]) rfl ⟨by rw [← HM.out, HD.out, M.mish_cons_bad hv]; rfl, (hB2.setCell (Nat.le_refl _) _).setCell (Nat.le_refl _) _⟩
      | true =>
        by_cases h6 : k = 6
        · subst h6
          go_wp2_with (go_at_call 15; refine (rvalid_any _ _ _).mono ?_; rintro e w1 ⟨rfl, hb1⟩; obtain ⟨r0, r1, q0, q1⟩ := hR.later hb1; have c0 := (hb1.cell (p := ⟨b, off + j * 2, none⟩) hbw).trans hc0; have c1 := (hb1.cell (p := ⟨b, off + j * 2 + 1, none⟩) hbw).trans hc1; have hB1 := below_step hBw hb1; clear hb1)
          exact bodyPost_ret (v := .tuple #[.agg #[.int .i64 6, .int .i64 n], .bool true]) (by simp [results, Tryd.results64, go_sem, r0, r1]) rfl ⟨by rw [← HM.out, HD.out, M.mish_cons_fault hv]; rfl, (hB1.setCell (Nat.le_refl _) _).setCell (Nat.le_refl _) _⟩
        · by_cases h0 : k = 0
          · subst h0
            go_wp2_with (first | (go_at_call 15; refine (rvalid_any _ _ _).mono ?_; rintro e w1 ⟨rfl, hb1⟩; have hR1 := hR.later hb1; have c0 := (hb1.cell (p := ⟨b, off + j * 2, none⟩) hbw).trans hc0; have hB1 := below_step hBw hb1; clear hb1) | (go_at_call 14; refine (bad_any _ _).mono ?_; rintro e w2 ⟨rfl, hb2⟩; obtain ⟨r0, r1, q0, q1⟩ := hR1.later hb2; have hB2 := below_step hB1 hb2; clear hb2))
            exact bodyPost_ret (v := .tuple #[.agg #[.int .i64 6, .int .i64 3], .bool true]) (by simp [results, Tryd.results64, go_sem, r0, r1]) rfl ⟨by rw [← HM.out, HD.out, M.mish_cons_blank hv]; rfl, (hB2.setCell (Nat.le_refl _) _).setCell (Nat.le_refl _) _⟩
          · have e6 : (k == 6) = false := by simpa using h6
            have e0 : (k == 0) = false := by simpa using h0
            have HN : Hid (M.mish (vs.drop (j + 1)) = M.mish vs) := by have := HM.out; rw [HD.out, M.mish_cons_ok hv h6 h0] at this; exact this
            clear h6 h0
            go_wp2_with (go_at_call 15; refine (rvalid_any _ _ _).mono ?_; rintro e w1 ⟨rfl, hb1⟩; have c0 := (hb1.cell (p := ⟨b, off + j * 2, none⟩) hbw).trans hc0; have hB1 := below_step HB.out hb1; clear hb1)
            go_roundw
            case rel => exact ⟨j + 1, by omega, by go_num, HN.out, hB1⟩
            case measure => simp [intOf]; omega
    · have HE : Hid (M.mish vs = none) := by
        have e : j = vs.length := by omega
        rw [e, List.drop_length] at hm
        exact hm.symm
      clear hm
      obtain ⟨r0, r1, q0, q1⟩ := hR
      go_wp2
      exact bodyPost_ret (v := .tuple #[.agg #[.int .i64 0, .int .i64 0], .bool false]) (by simp [results, Tryd.results64, go_sem, r0, r1]) rfl ⟨by rw [HE.out]; rfl, (hBw.setCell (Nat.le_refl _) _).setCell (Nat.le_refl _) _⟩

end Go.Proofs.YtnmcniibcjjflaaDoor


namespace Go.Proofs.YtnmcniibcjjflaaDoor
open Go.RowKit

theorem infoInt : (Tryd.prog.info? 3).map (fun i => (i.zero, i.size, i.bytes)) = some (some (.int .i64 0), 1, 8) := by kernel_rfl

/-- Digits in a row of memory. -/
def Dig (w : World) (a : Option Addr) (ds : List Nat) : Prop := ds = [] ∨ ∃ g, a = some ⟨g, 0, none⟩ ∧ g < w.heap.size ∧ ∀ i, i < ds.length → w.cell? ⟨g, i, none⟩ = some (.int .i64 (ds.getD i 0 : Nat))

theorem Dig.later {w w' : World} {a : Option Addr} {ds : List Nat} (h : Dig w a ds) (hb : Below w.heap.size w w') : Dig w' a ds := by
  rcases h with h | ⟨g, rfl, hg, hc⟩
  · exact .inl h
  · exact .inr ⟨g, rfl, Nat.lt_of_lt_of_le hg hb.size, fun i hi => (hb.cell (p := ⟨g, i, none⟩) hg).trans (hc i hi)⟩

abbrev dv (d : Nat) : Value := .int .i64 (d : Int)

theorem dig_of_owns {w : World} {base : Nat} {v : Value} {ds : List Nat} (h : w.ownsRow base 3 1 v ds.length (ds.map dv)) : ∃ a cap, v = .slice a ds.length cap ∧ Dig w a ds := by
  obtain ⟨hl, h | ⟨g, cap, cur, rfl, hg, hh, hn, hm, hs, ht⟩⟩ := h
  · exact ⟨none, 0, by rw [h.2]; exact h.1, .inl (List.eq_nil_of_length_eq_zero h.2)⟩
  · refine ⟨_, cap, rfl, .inr ⟨g, rfl, (Array.getElem?_eq_some_iff.1 hh).1, fun i hi => ?_⟩⟩
    have e : cur.toList[i]? = some (dv (ds.getD i 0)) := by
      have h1 : (cur.toList.take (ds.length * 1))[i]? = cur.toList[i]? := by rw [List.getElem?_take, if_pos (by omega)]
      rw [← h1, ht, List.getElem?_map, List.getD_eq_getElem?_getD, List.getElem?_eq_getElem hi]
      rfl
    simp only [World.cell?, hh]
    simpa using e

set_option maxRecDepth 4000 in
set_option maxHeartbeats 1600000 in
theorem digits_any (N : Nat) (hN : N < 10000000000000000) (w : World) :
    Calls Tryd.prog 67 #[.int .i64 N] w fun e w' => ∃ a cap, e = .returned (.slice a (M.digs N).length cap) ∧ Dig w' a (M.digs N) ∧ Below w.heap.size w w' := by
  obtain ⟨i0, hi, hz0, hz1, hz2⟩ := info_parts infoInt
  have hlen := M.digs_len 16 N hN
  go_enter Tryd.func67, Tryd.ntmps67
  go_wp2
  go_loopw [0, 3] (fun x v wr => ∃ (m : Nat) (ds : List Nat), x = .int .i64 m ∧ Hid (M.digs N = ds ++ M.digs m) ∧ m ≤ N ∧ wr.ownsRow w.heap.size 3 1 v ds.length (ds.map dv) ∧ Below w.heap.size w wr) (fun x _ _ => (intOf x).toNat)
  case atStart => exact ⟨N, [], rfl, rfl, Nat.le_refl _, World.ownsRow_nil _ _ _ _, Below.refl _ _⟩
  case round =>
    obtain ⟨m, ds, rfl, hd, hm, hown, hb⟩ := hrel
    have hdl : ds.length ≤ 16 := by
      have := congrArg List.length hd.out
      simp at this
      omega
    by_cases h0 : m = 0
    · have e : M.digs N = ds := by rw [hd.out, h0, M.digs_zero, List.append_nil]
      have hpos : ¬ (0 : Int) < m := by omega
      obtain ⟨a, cap, hv, hD⟩ := dig_of_owns hown
      have HE : Hid (M.digs N = ds) := e
      rw [hv]
      clear hown hd e hv
      go_wp2
      go_ret
      exact ⟨a, ⟨cap, by rw [HE.out]; rfl⟩, by rw [HE.out]; exact hD, hb⟩
    · have hpos : (0 : Int) < m := by omega
      have HE : Hid (M.digs N = (ds ++ [m % 10]) ++ M.digs (m / 10)) := by unfold Hid; rw [hd.out, M.digs_pos h0]; simp
      have hm2 : (m : Int) ≤ 10000000000000000 := by omega
      clear hd
      go_wp2_with (at_builtin; refine wpList_append_own _ rfl _ _ 83 rfl w.heap.size 3 i0 (.int .i64 0) 1 8 Tryd.underlying83 hi hz0 hz1 hz2 rfl (by decide) _ _ _ rfl (hown.alloc _) ⟨wr.heap.size, 0, none⟩ 1 1 [dv (m % 10)] rfl rfl ?c1 ?c2 ?c3 ?c4 ?c5 ?_)
      case c1 =>
        intro j u hj
        match j, hj with
        | 0, hj => simp at hj; subst hj; simp [Addr.add]
      case c2 => intro u hu; simp at hu; subst hu; rfl
      case c3 => unfold maxLen; omega
      case c4 => omega
      case c5 => have := hb.size; simp; omega
      · intro v' w1 hown' hgrow _
        have hB1 : Below w.heap.size w w1 := (hb.alloc hb.size _).grown hgrow (by have := hb.size; simp; omega) (fun k hk => by
          obtain ⟨-, h | ⟨g, cap, cur, rfl, hg, -⟩⟩ := hown
          · rw [h.1] at hk; cases hk
          · cases hk; exact hg)
        clear hown hgrow
        go_wp2
        go_roundw
        case rel => exact ⟨m / 10, ds ++ [m % 10], by go_num, HE, by omega, by simpa using hown', hB1⟩
        case measure => simp [intOf]; omega

end Go.Proofs.YtnmcniibcjjflaaDoor


namespace Go.Proofs.YtnmcniibcjjflaaDoor
open Go.RowKit

theorem wrap64_id {x : Int} (h1 : -9000000000000000000 ≤ x) (h2 : x ≤ 9000000000000000000) : wrap64 x = x := by unfold wrap64; omega

set_option maxHeartbeats 1600000 in
theorem divided_any (a : Option Addr) (cap : Nat) (ds : List Nat) (n : Nat) (hn : 0 < n) (hn2 : n ≤ 10000000000000) (hlen : ds.length ≤ 100) (hds : ∀ i, ds.getD i 0 ≤ 1000000) (w : World) (hD : Dig w a ds) (Q R : Nat) (hQ : Hid (Q = M.cap14 (M.val ds / n))) (hR : Hid (R = M.val ds % n)) :
    Calls Tryd.prog 79 #[.slice a ds.length cap, .int .i64 n] w fun e w' => e = .returned (.tuple #[.int .i64 (Q : Int), .int .i64 (R : Int)]) ∧ w' = w := by
  go_enter Tryd.func79, Tryd.ntmps79
  go_wp2
  go_loop [6, 7, 8] (fun q r i => ∃ (j c s : Nat), j ≤ ds.length ∧ i = .int .i64 ((j : Int) - 1) ∧ q = .int .i64 c ∧ r = .int .i64 s ∧ Hid (c = M.cap14 (M.val (ds.drop j) / n)) ∧ Hid (s = M.val (ds.drop j) % n)) (fun _ _ i => (intOf i + 1).toNat)
  case atStart => exact ⟨ds.length, 0, 0, Nat.le_refl _, by go_num, rfl, rfl, by simp [Hid, M.val, M.cap14], by simp [Hid, M.val]⟩
  case round =>
    obtain ⟨j, c, s, hj, rfl, rfl, rfl, hc, hs⟩ := hrel
    have hc2 : (c : Int) ≤ 100000000000000 := by have := M.cap14_le (M.val (ds.drop j) / n); rw [← hc.out] at this; omega
    have hs2 : (s : Int) < n := by have := Nat.mod_lt (M.val (ds.drop j)) hn; rw [← hs.out] at this; omega
    have hn3 : (n : Int) ≤ 10000000000000 := by omega
    have hn4 : (0 : Int) < n := by omega
    by_cases h0 : j = 0
    · subst h0
      obtain rfl : c = Q := by rw [hQ.out]; exact hc.out
      obtain rfl : s = R := by rw [hR.out]; exact hs.out
      go_wp2
      go_ret2
      exact ⟨rfl, rfl⟩
    · obtain ⟨k, rfl⟩ : ∃ k, j = k + 1 := ⟨j - 1, by omega⟩
      rcases hD with h | ⟨g, rfl, hg, hcell⟩
      · subst h; simp at hj
      have hx := hcell k (by omega)
      have hd := hds k
      have hv := M.val_drop ds k (by omega)
      generalize ds.getD k 0 = d at *
      obtain ⟨st1, st2⟩ := M.div_step (M.val (ds.drop (k + 1))) d n hn
      have hcs := M.cap14_step (M.val (ds.drop (k + 1)) / n) ((10 * (M.val (ds.drop (k + 1)) % n) + d) / n)
      rw [← st1, ← hv, ← hc.out, ← hs.out] at hcs
      rw [← hv, ← hs.out] at st2
      have HC : Hid (M.cap14 (M.val (ds.drop k) / n) = if 100000000000000 < 10 * c + (10 * s + d) / n then 100000000000000 else 10 * c + (10 * s + d) / n) := hcs
      have HS : Hid (M.val (ds.drop k) % n = (10 * s + d) % n) := st2
      have hd2 : (d : Int) ≤ 1000000 := by omega
      have hk0 : (0 : Int) ≤ (k : Int) := by omega
      have hk1 : (k : Int) < ds.length := by omega
      have e1 : ((k + 1 : Nat) : Int) - 1 = k := by omega
      clear hc hs hv st1 st2 hcs hds hcell
      rw [e1]
      clear e1
      have hb1 : ((10 * s + d) / n : Nat) ≤ 10 * s + d := Nat.div_le_self _ _
      have HQ : Hid ((if (100000000000000 : Int) < wrap64 (10 * (c : Int) + (10 * (s : Int) + d) / n) then 100000000000000 else wrap64 (10 * (c : Int) + (10 * (s : Int) + d) / n)) = (M.cap14 (M.val (ds.drop k) / n) : Nat)) := by
        unfold Hid
        have e2 : (10 * (s : Int) + d) / n = (((10 * s + d) / n : Nat) : Int) := by rw [Int.natCast_ediv]; simp
        have e3 := HC.out
        rw [e2]
        generalize (10 * s + d) / n = t at e3 hb1 ⊢
        rw [wrap64_id (by omega) (by omega), e3]
        split
        · rw [if_pos (by omega)]; rfl
        · rw [if_neg (by omega)]; simp
      go_wp2
      go_round
      case rel => exact ⟨k, M.cap14 (M.val (ds.drop k) / n), M.val (ds.drop k) % n, by omega, rfl, by rw [HQ.out], by rw [HS.out]; simp, rfl, rfl⟩
      case measure => simp [intOf]

end Go.Proofs.YtnmcniibcjjflaaDoor
