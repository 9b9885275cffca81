import Derived.Test.YtblfdjdhikfjhaaGreatTurnBzR5
import Derived.LaidEqlPtr
namespace Go.Proofs.YtblfdjdhikfjhaaGreat.BZ
open Go.RowKit

theorem leq_str (s x : List UInt8) : (Op.bytesLess (ByteArray.mk s.toArray).toList (ByteArray.mk x.toArray).toList || (ByteArray.mk s.toArray).toList == (ByteArray.mk x.toArray).toList) = true ↔ ¬ x < s := by
  rw [Lib.toList_data, Lib.toList_data, bytesLess_eq, Bool.or_eq_true, decide_eq_true_iff, beq_iff_eq]
  show s < x ∨ s = x ↔ ¬ x < s
  constructor
  · rintro (h | rfl) h2
    · exact List.lt_irrefl _ (List.lt_trans h h2)
    · exact List.lt_irrefl _ h2
  · intro h
    by_cases e : s = x
    · exact .inr e
    · refine .inl ?_
      by_cases h2 : s < x
      · exact h2
      · exact absurd (List.le_antisymm (List.not_lt.1 h) (List.not_lt.1 h2)) e

set_option maxRecDepth 4000 in
set_option maxHeartbeats 2000000 in
theorem rname_any (rb : Nat) (W : World) (av : Value) (l : List (List UInt8)) {t : List UInt8} {bad : Bool} (hl : t.length ≤ 9223372036854775806) (h : RAt W rb t bad) (ha : AhAt W rb av l) : Calls Tryz.prog 52 #[.pointer (some ⟨rb, 0, none⟩), av] W (Xc (rNm l) VS rb t bad W) := by
  have hk := rbet_any rb 1 8 W hl h
  have hHa : Hid (AhAt W rb av l) := ha
  obtain ⟨aa, ac, rfl⟩ : ∃ a c, av = .slice a l.length c := by
    rcases ha with ⟨rfl, a, c, rfl⟩ | ⟨g, off, cap, x, -, h1, h2, -⟩
    · exact ⟨a, c, rfl⟩
    · exact ⟨_, cap, h2⟩
  clear h ha
  go_enter Tryz.func52, Tryz.ntmps52
  go_wp2_with (go_at_call 51; fail)
  refine hk.mono ?_
  intro e w1 hx
  obtain ⟨n, t1, b1, rfl, hn, hR1, hG1, hX1⟩ := hx.outB
  have hl1 := hX1.short (sh_B 1 8) hR1
  have hr := rraw_any rb n w1 (by omega) hR1
  clear hk hx
  go_wp2_with (go_at_call 74; fail)
  refine hr.mono ?_
  intro e w2 hx
  obtain ⟨s, t2, b2, rfl, hs, hR2, hG2, hX2⟩ := hx.outS
  obtain ⟨S, hS⟩ : ∃ S, Hid ((⟨s.toArray⟩ : ByteArray) = S) := ⟨_, rfl⟩
  rw [hS.out]
  have hN := isName_nm S w2
  clear hr hx
  go_wp2_with (go_at_call 35; fail)
  refine hN.mono ?_
  rintro e w3 ⟨o, rfl, ho, hb3⟩
  have hR3 := hR2.later hb3
  have hG3 := (hG1.trans hG2).trans (Gr.of_below hb3)
  have hf := rfail_any rb w3 hR3
  have hos : Hid (o = isNm s) := by
    show o = isNm s
    have : S.data.toList = s := by rw [← hS.out]
    rw [← this]
    exact ho.out
  have hA3 := hHa.out.gr hG3
  have hbad : ¬ (isNm s = true ∧ ∀ x, l.getLast? = some x → x < s) → ∀ w4, RAt w4 rb [] true → Gr rb w3 w4 → Xc (rNm l) VS rb t bad W (.returned (.string S)) w4 := fun hc w4 hR4 hG4 => ⟨s, _, _, _, rfl, ⟨by rw [hS.out], hs.out⟩, hR4, hG3.trans hG4, hX1.bd (hX2.bd (Xq.fail fun _ => if_neg hc))⟩
  have hgood : (isNm s = true ∧ ∀ x, l.getLast? = some x → x < s) → Xc (rNm l) VS rb t bad W (.returned (.string S)) w3 := fun hc => ⟨s, _, t2, b2, rfl, ⟨by rw [hS.out], hs.out⟩, hR3, hG3, hX1.bd (hX2.bd (by rw [if_pos hc]; exact Xq.pure))⟩
  clear hN ho hX1 hX2 hR1 hR2 hG1 hG2 hG3 hHa
  cases o with
  | false =>
    have hfin := hbad (fun h => by have := hos.out; rw [h.1] at this; cases this)
    clear hbad hgood hA3 hos hS
    go_wp2_with (go_at_call 50; refine hf.mono ?_; rintro e w4 ⟨rfl, hR4, hG4⟩)
    exact bodyPost_ret (v := .string S) (by simp [results, Tryz.results52, go_sem]) rfl (hfin _ hR4 hG4)
  | true =>
    have hyes : isNm s = true := hos.out.symm
    rcases hA3 with ⟨rfl, a0, c0, e0⟩ | ⟨g, off, cap, x, h0, h1, h2, h3, h4, h5⟩
    · have hfin := hgood ⟨hyes, fun x hx => by cases hx⟩
      clear hbad hgood hos hf hS e0 hyes
      go_wp2
      exact bodyPost_ret (v := .string S) (by simp [results, Tryz.results52, go_sem]) rfl hfin
    · simp at h2
      obtain ⟨rfl, rfl⟩ := h2
      have hcm := leq_str s x
      rw [hS.out] at hcm
      obtain ⟨X, hX⟩ : ∃ X, Hid ((⟨x.toArray⟩ : ByteArray) = X) := ⟨_, rfl⟩
      rw [hX.out] at hcm h5
      have hlp : 0 < l.length := by
        cases l with
        | nil => cases h1
        | cons a r => simp
      obtain ⟨k, hk⟩ : ∃ k, l.length = k := ⟨_, rfl⟩
      rw [hk] at hlp h5 h0 ⊢
      have hk0 : (0 : Int) < (k : Int) := by omega
      have hw1 : IntKind.i64.wrap ((k : Int) - 1) = (k : Int) - 1 := by rw [IntKind.wrap_i64]; omega
      have hw2 : wrap64 ((k : Int) - 1) = (k : Int) - 1 := by unfold wrap64; omega
      have hi0 : (0 : Int) ≤ (k : Int) - 1 := by omega
      have hi1 : (k : Int) - 1 < (k : Int) := by omega
      by_cases hxs : x < s
      · have hfin := hgood ⟨hyes, fun y hy => by rw [h1] at hy; cases hy; exact hxs⟩
        have hc0 : (Op.bytesLess S.toList X.toList || S.toList == X.toList) = false := by
          rw [Bool.eq_false_iff]
          exact fun e => hcm.1 e hxs
        clear hbad hgood hos hf hS hX hyes hcm h1 hk
        go_wp2
        exact bodyPost_ret (v := .string S) (by simp [results, Tryz.results52, go_sem]) rfl hfin
      · have hfin := hbad (fun h => hxs (h.2 x h1))
        have hc0 : (Op.bytesLess S.toList X.toList || S.toList == X.toList) = true := hcm.2 hxs
        clear hbad hgood hos hS hX hyes hcm h1 hk
        go_wp2_with (go_at_call 50; refine hf.mono ?_; rintro e w4 ⟨rfl, hR4, hG4⟩)
        exact bodyPost_ret (v := .string S) (by simp [results, Tryz.results52, go_sem]) rfl (hfin _ hR4 hG4)

end Go.Proofs.YtblfdjdhikfjhaaGreat.BZ


namespace Go.Proofs.YtblfdjdhikfjhaaGreat.BZ
open Go.RowKit

theorem infoMap : (Tryz.prog.info? 83).map (fun i => i.size) = some 2 := by kernel_rfl
theorem meql_same (w : World) (a : Addr) : (binOp BinOp.eql 40 (.pointer (some a)) (.pointer (some a))).run Tryz.prog w = .ok (.bool true) w := by
  obtain ⟨j, hj, -⟩ := Option.map_eq_some_iff.1 infoMap
  exact run_eql_ptr_same w a Tryz.underlying40 hj
theorem cells_of_cell {w : World} {b : Nat} {v : Value} (h : w.cell? ⟨b, 0, none⟩ = some v) : ∃ cs t f, w.heap[b]? = some (.cells cs t f) := by
  unfold World.cell? at h
  split at h
  · next c t f e => exact ⟨c, t, f, e⟩
  · cases h
theorem sameAddr_fz (w : World) {a b : Nat} (hne : a ≠ b) {u v : Value} {ca : Array Value} {ta : TypeId} (hc : w.cell? ⟨a, 0, none⟩ = some u) (ha : w.heap[a]? = some (.cells ca ta (0, 0))) (hb : w.cell? ⟨b, 0, none⟩ = some v) : (sameAddr ⟨a, 0, none⟩ ⟨b, 0, none⟩).run Tryz.prog w = .ok false w := by
  have sz : ∀ {c : Nat} {u : Value} {cs : Array Value} {t : TypeId} {f : Nat × Nat}, w.cell? ⟨c, 0, none⟩ = some u → w.heap[c]? = some (.cells cs t f) → ∃ k, cs.size = k + 1 := fun {c u cs t f} hc h => by
    simp only [World.cell?, h] at hc
    cases hk : cs.size with
    | zero =>
      rw [Array.getElem?_eq_none (by omega)] at hc
      simp at hc
    | succ k => exact ⟨k, rfl⟩
  obtain ⟨cb, tb, ⟨lo, hi⟩, hb2⟩ := cells_of_cell hb
  obtain ⟨ka, hka⟩ := sz hc ha
  obtain ⟨kb, hkb⟩ := sz hb hb2
  simp [sameAddr, hne, World.frozen?, ha, hb2, noView, viewAt, World.shape?, mayBeOne, stringish, hka, hkb]
theorem meql_other (w : World) {a b : Nat} (hne : a ≠ b) {u v : Value} {ca : Array Value} {ta : TypeId} (hc : w.cell? ⟨a, 0, none⟩ = some u) (ha : w.heap[a]? = some (.cells ca ta (0, 0))) (hb : w.cell? ⟨b, 0, none⟩ = some v) : (binOp BinOp.eql 40 (.pointer (some ⟨a, 0, none⟩)) (.pointer (some ⟨b, 0, none⟩))).run Tryz.prog w = .ok (.bool false) w := by
  obtain ⟨j, hj, hs⟩ := Option.map_eq_some_iff.1 infoMap
  have h : ∀ d : Nat, (Op.equalIn (d + 1) 40 (.pointer (some ⟨a, 0, none⟩)) (.pointer (some ⟨b, 0, none⟩))).run Tryz.prog w = .ok false w := fun d => by
    simp [Op.equalIn, run_underlying Tryz.underlying40, sizeOf, typeInfo, hj, hs, sameAddr_fz w hne hc ha hb]
  simp only [binOp]
  simp [Op.equal, Op.maxDepth, h 9999]

/-- A map. -/
def VM1 (_ W' : World) (L2 : Es) (v : Value) : Prop := ∃ mb2, v = .pointer (some ⟨mb2, 0, none⟩) ∧ MapE W' mb2 L2
/-- What is read from here on is what the whole is. -/
def Cq (L : Es) (t : List UInt8) (bad : Bool) (k least : Nat) (L1 : Es) (t1 : List UInt8) (b1 : Bool) : Prop := ∀ b2 t2 x, Xq (rGo k least L1 t1) b1 b2 t2 x → Xq (rD L t) bad b2 t2 x

set_option maxRecDepth 4000 in
set_option maxHeartbeats 4000000 in
theorem rdiff_any (rb mb : Nat) (L : Es) (W : World) {t : List UInt8} {bad : Bool} (hl : t.length ≤ 9223372036854775806) (h : RAt W rb t bad) (hm : MapE W mb L) : Calls Tryz.prog 75 #[.pointer (some ⟨rb, 0, none⟩), .pointer (some ⟨mb, 0, none⟩)] W (Xc (rD L) VM1 rb t bad W) := by
  have hk := rnum_any rb W hl h
  have hrw := h.rw
  go_enter Tryz.func75, Tryz.ntmps75
  go_wp2_with (go_at_call 73; fail)
  refine hk.mono ?_
  intro e w1 hx
  obtain ⟨n, t1, b1, rfl, hn, hR1, hG1, hX1⟩ := hx.out64
  have hm1 := mapE_rw hm hrw hG1
  have hl1 := hX1.short sh_N hR1
  have hC1 : Cq L t bad n 0 L t1 b1 := fun b2 t2 x hq => hX1.bd hq
  have hn := hn.out
  clear hk hx hX1 hm hrw h
  go_wp2
  go_loopw [1, 5, 10] (fun mv lv iv wr => ∃ (i least mb1 : Nat) (L1 : Es) (t1 : List UInt8) (b1 : Bool), i ≤ n ∧ mv = .pointer (some ⟨mb1, 0, none⟩) ∧ lv = .int .u64 (least : Int) ∧ iv = .int .u64 (i : Int) ∧ least ≤ 4294967296 ∧ RAt wr rb t1 b1 ∧ Gr rb W wr ∧ MapE wr mb1 L1 ∧ t1.length ≤ 9223372036854775806 ∧ Hid (Cq L t bad (n - i) least L1 t1 b1)) (fun _ _ iv _ => n - (intOf iv).toNat)
  case atStart => exact ⟨0, 0, mb, L, t1, b1, Nat.zero_le _, rfl, rfl, rfl, by omega, hR1, hG1, hm1, by omega, hC1⟩
  case round =>
    obtain ⟨i, least, mb1, L1, t1, b1, hi, rfl, rfl, rfl, hle, hR, hG, hM, hlt1, hC⟩ := hrel
    clear hR1 hG1 hm1 hC1
    by_cases hlt : i < n
    · have hlt' : (i : Int) < (n : Int) := by omega
      have hCs : Hid (Cq L t bad (n - (i + 1) + 1) least L1 t1 b1) := by rw [show n - (i + 1) + 1 = n - i by omega]; exact hC
      have hrw := hR.rw
      have hb := rbet_any rb least 4294967295 wr hlt1 hR
      clear hC
      go_wp2_with (go_at_call 51; fail)
      refine hb.mono ?_
      intro e w2 hx
      obtain ⟨id, t2, b2, rfl, hid, hR2, hG2, hX2⟩ := hx.outB
      have hid := hid.out
      have hM2 := mapE_rw hM hrw hG2
      have hl2 := hX2.short (sh_B _ _) hR2
      have hw : (id : Int) % 4294967296 = (id : Int) := by omega
      have hc := rchange_any rb mb1 id (by omega) L1 w2 (by omega) hR2 hM2
      have hrw2 := hR2.rw
      clear hb hx hM
      go_wp2_with (go_at_call 88; fail)
      refine hc.mono ?_
      rintro e w3 ⟨L2, v2, t3, b3, rfl, ⟨mb2, rfl, hM3, hne⟩, hR3, hG3, hX3⟩
      have hO3 := mapE_rw hM2 hrw2 hG3
      have hl3 := hX3.short (sh_Ch _ _) hR3
      have hG03 := (hG.trans hG2).trans hG3
      clear hc hM2
      rcases hne with ⟨rfl, rfl⟩ | ⟨hne1, ⟨cs, hfz⟩, hne2⟩
      · have hq := meql_same w3 ⟨mb2, 0, none⟩
        have hf := rfail_any rb w3 hR3
        have hrw3 := hR3.rw
        have hfin : Hid (∀ w4, RAt w4 rb [] true → Gr rb w3 w4 → MapE w4 mb2 L2 → Xc (rD L) VM1 rb t bad W (.returned (.pointer (some ⟨mb2, 0, none⟩))) w4) := fun w4 hR4 hG4 hM4 => ⟨L2, _, [], true, rfl, ⟨mb2, rfl, hM4⟩, hR4, hG03.trans hG4, hCs.out _ _ _ (hX2.bd (hX3.bd (Xq.fail fun _ => if_pos rfl)))⟩
        clear hX2 hX3 hCs hR hR2 hG2 hG3 hM3
        go_wp2_with (go_at_call 50; refine hf.mono ?_; rintro e w4 ⟨rfl, hR4, hG4⟩; have hfin4 := hfin.out w4 hR4 hG4 (mapE_rw hO3 hrw3 hG4); have c4 : w4.cell? ⟨rb, 1, none⟩ = some (.bool true) := by { obtain ⟨-, a, cap, h1, -⟩ := hR4; exact cell_of_row _ _ 1 _ _ _ h1 })
        exact bodyPost_ret (v := .pointer (some ⟨mb2, 0, none⟩)) (by simp [results, Tryz.results75, go_sem]) rfl hfin4
      · have hq : (binOp BinOp.eql 40 (.pointer (some ⟨mb2, 0, none⟩)) (.pointer (some ⟨mb1, 0, none⟩))).run Tryz.prog w3 = .ok (.bool false) w3 := by
          obtain ⟨ta, hta, -⟩ := hM3
          obtain ⟨tb, htb, -⟩ := hO3
          exact meql_other w3 hne1 hta.2.1 hfz htb.2.1
        have c3 : w3.cell? ⟨rb, 1, none⟩ = some (.bool b3) := by
          obtain ⟨-, a, cap, h1, -⟩ := hR3
          exact cell_of_row _ _ 1 _ _ _ h1
        cases b3 with
        | true =>
          have hfin : Xc (rD L) VM1 rb t bad W (.returned (.pointer (some ⟨mb1, 0, none⟩))) w3 := ⟨L1, _, t3, true, rfl, ⟨mb1, rfl, hO3⟩, hR3, hG03, hCs.out _ _ _ (hX2.bd (hX3.bd (Xq.stuck rfl)))⟩
          clear hX2 hX3 hCs hR hR2 hR3 hG2 hG3 hM3 hO3 hG03 hfz hne1 hne2
          go_wp2
          exact bodyPost_ret (v := .pointer (some ⟨mb1, 0, none⟩)) (by simp [results, Tryz.results75, go_sem]) rfl hfin
        | false =>
          have hC3 : Hid (Cq L t bad (n - (i + 1)) (id + 1) L2 t3 false) := fun b2 t2 x hq => hCs.out _ _ _ (hX2.bd (hX3.bd (by rw [if_neg hne2]; exact hq)))
          clear hX2 hX3 hCs hR hR2 hG2 hG3 hO3 hfz hne1 hne2
          go_wp2
          go_roundw
          case rel => exact ⟨i + 1, id + 1, mb2, L2, t3, false, by omega, rfl, by go_num, by go_num, by omega, hR3, hG03, hM3, by omega, hC3⟩
          case measure => simp [intOf]; omega
    · have hlt' : ¬ (i : Int) < (n : Int) := by omega
      have hfin : Xc (rD L) VM1 rb t bad W (.returned (.pointer (some ⟨mb1, 0, none⟩))) wr := ⟨L1, _, t1, b1, rfl, ⟨mb1, rfl, hM⟩, hR, hG, hC.out _ _ _ (by rw [show n - i = 0 by omega]; exact Xq.pure)⟩
      clear hC hR hG hM
      go_wp2
      exact bodyPost_ret (v := .pointer (some ⟨mb1, 0, none⟩)) (by simp [results, Tryz.results75, go_sem]) rfl hfin

end Go.Proofs.YtblfdjdhikfjhaaGreat.BZ
