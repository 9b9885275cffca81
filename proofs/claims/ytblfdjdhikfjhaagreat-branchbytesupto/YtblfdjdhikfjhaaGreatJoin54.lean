import Derived.Test.YtblfdjdhikfjhaaGreatJoin46
import Derived.Test.YtblfdjdhikfjhaaGreatTurnBBk3
import Derived.Test.YtblfdjdhikfjhaaGreatTurnBzP1
import Derived.Test.YtblfdjdhikfjhaaGreatJoin53
import Derived.Test.YtblfdjdhikfjhaaGreatJoin34
namespace Go.Proofs.YtblfdjdhikfjhaaGreat.BZ
open Go.RowKit

set_option maxRecDepth 4000 in
set_option maxHeartbeats 1000000 in
/-- slices.Index of names, where the text stands there. -/
theorem index_any (lo : Nat) (v : Value) (l : List (List UInt8)) (c : Nat) (hl : l.length ≤ 1000) (hc : c < l.length) (hne : ∀ i (h : i < l.length), i < c → l[i] ≠ l[c]) (W : World) (h : W.ownsRow lo 9 1 v l.length (l.map encStr)) : Calls Tryz.prog 48 #[v, .string ⟨l[c].toArray⟩] W fun e W' => e = .returned (.int .i64 (c : Int)) ∧ Below W.heap.size W W' := by
  obtain ⟨g, cap, cur, rfl⟩ : ∃ g cap, ∃ cur : Nat, v = .slice (some ⟨g, 0, none⟩) l.length cap := by
    obtain ⟨_, ⟨e, h0⟩ | ⟨g, cap, cur, e, _⟩⟩ := h
    · omega
    · exact ⟨g, cap, 0, e⟩
  have hcl : ∀ i (hi : i < l.length), W.cell? ⟨g, i, none⟩ = some (.string ⟨l[i].toArray⟩) := fun i hi => by
    refine (h.cellAt i (by omega)).trans ?_
    rw [List.getElem?_map, List.getElem?_eq_getElem hi]
    rfl
  have hg : g < W.heap.size := (h.lt g rfl).2
  have hHc : Hid (c < l.length) := hc
  clear h
  go_enter Tryz.func48, Tryz.ntmps48
  go_wp2
  go_loopw [8] (fun iv wr => ∃ j : Nat, j ≤ c ∧ iv = .int .i64 (j : Int) ∧ Below W.heap.size W wr) (fun iv _ => c - (intOf iv).toNat)
  case atStart => exact ⟨0, by omega, rfl, Below.refl _ _⟩
  case round =>
    obtain ⟨j, hj, rfl, hB⟩ := hrel
    have hlt : j < l.length := by have := hHc.out; omega
    have hlt' : (j : Int) < (l.length : Int) := by omega
    have hj0 : (0 : Int) ≤ (j : Int) := by omega
    have cj := (hB.cell (p := ⟨g, j, none⟩) hg).trans (hcl j hlt)
    by_cases hjc : j = c
    · subst hjc
      generalize (⟨l[j].toArray⟩ : ByteArray) = s at *
      have he : (s.toList == s.toList) = true := beq_self_eq_true _
      clear hcl hne hc
      go_wp2
      exact bodyPost_ret (v := .int .i64 (j : Int)) (by simp [results, Tryz.results48, go_sem]) rfl ⟨rfl, hB⟩
    · have hn := hne j hlt (by omega)
      have hn2 : (⟨l[c].toArray⟩ : ByteArray) ≠ ⟨l[j].toArray⟩ := fun e => hn (by injection e with e; injection e with e; exact e.symm)
      have hn3 := toL_ne hn2
      generalize (⟨l[j].toArray⟩ : ByteArray) = s at *
      generalize (⟨l[c].toArray⟩ : ByteArray) = t at *
      have hjc2 : j < c := by omega
      clear hcl hne hn hc
      go_wp2
      go_roundw
      case rel => exact ⟨j + 1, by omega, by go_num, hB⟩
      case measure => simp [intOf]; omega

end Go.Proofs.YtblfdjdhikfjhaaGreat.BZ


namespace Go.Proofs.YtblfdjdhikfjhaaGreat.BZ
open Go.RowKit

theorem encX_br (b : Br) : encX (toB b) = encN b.nm.data.toList.length ++ b.nm.data.toList ++ encB b := by
  unfold encX encB toB
  simp only [List.append_assoc]
def mid (xs : List Bc) (i : Nat) : List UInt8 := encN xs.length ++ (xs.take i).flatMap encX
theorem mid_succ (xs : List Bc) (i : Nat) (h : i < xs.length) : mid xs (i + 1) = mid xs i ++ encX xs[i] := by
  unfold mid
  rw [List.take_succ_eq_append_getElem h, List.flatMap_append, List.append_assoc]
  simp
theorem mid_len (xs : List Bc) (i : Nat) : (mid xs i).length ≤ (mid xs xs.length).length := by
  unfold mid
  rw [List.take_length]
  have h2 : (xs.flatMap encX).length = ((xs.take i).flatMap encX).length + ((xs.drop i).flatMap encX).length := by
    rw [← List.length_append, ← List.flatMap_append, List.take_append_drop]
  simp only [List.length_append]
  omega
theorem enc_mid (xs : List Bc) (c : Nat) : encBk xs c = [UInt8.ofNat 66] ++ (mid xs xs.length ++ encN c) := by
  unfold encBk mid
  rw [List.take_length, List.append_assoc]
  rfl

set_option maxRecDepth 8000 in
set_option maxHeartbeats 4000000 in
theorem wbook_any (wb lo bb k : Nat) (Bs : List Br) (cur : ByteArray) (W0 : World) (hB0 : BookAt W0 lo bb Bs cur) (hG : Gd k Bs) (hk : k ≤ 4294967296) {xs : List Bc} {c : Nat} (hC : Ct Bs cur xs c) (hlo : W0.heap.size ≤ wb) (W : World) (hbW : Below W0.heap.size W0 W) (h : WAt W wb []) : Calls Tryz.prog 23 #[.pointer (some ⟨wb, 0, none⟩), .pointer (some ⟨bb, 0, none⟩)] W (Wp wb [] (encBk xs c) W) := by
  obtain ⟨hOk, hLen⟩ := ct_ok hB0 hG hk hC
  have hwl := h.lt
  have hN := names_any lo bb Bs cur W (hB0.later hbW)
  rw [← nms_srt, ← ct_nms hC] at hN
  obtain ⟨L, hL⟩ : ∃ L, Hid (xs.map (·.nm) = L) := ⟨_, rfl⟩
  have hsrt : Hid (∀ i (h : i < xs.length), ∃ b ∈ Bs, toB b = xs[i]) := fun i hi => by
    have hm : ∀ x ∈ xs, ∃ b ∈ Bs, toB b = x := fun x hx => by
      rw [← hC.1] at hx
      obtain ⟨b, hb, e⟩ := List.mem_map.1 hx
      exact ⟨b, mem_srt.1 hb, e⟩
    exact hm _ (List.getElem_mem hi)
  have hxl : xs.length = Bs.length := by rw [← hC.1, List.length_map, srt_len]
  have hLl : L.length = xs.length := by rw [← hL.out, List.length_map]
  have hcur : L[c]? = some cur.data.toList := by rw [← hL.out]; exact hC.2
  have hup : L.Pairwise (· < ·) := by rw [← hL.out, List.pairwise_map]; exact hOk.srt
  rw [hL.out, ← hxl, ← hLl] at hN
  have h6 : L.length ≤ 6 := by rw [hLl]; exact hOk.six
  obtain ⟨mb, D, c0, c1, -, h2, h3, -⟩ := hB0.cells
  have hbb := hB0.lt
  have hbr := fun b (hb : b ∈ Bs) => hB0.br hb
  have hcl : c < L.length := (List.getElem?_eq_some_iff.1 hcur).1
  have hLc : L[c] = cur.data.toList := (List.getElem?_eq_some_iff.1 hcur).2
  have hHm : Hid (1 + ((mid xs xs.length).length + (encN c).length) ≤ 100000000000000) := by
    show _ ≤ _
    rw [enc_mid] at hLen
    simp only [List.length_append, List.length_singleton] at hLen
    omega
  replace hLl : Hid (L.length = xs.length) := hLl
  replace hLc : Hid (L[c] = cur.data.toList) := hLc
  replace hup : Hid (L.Pairwise (· < ·)) := hup
  replace hbr : Hid (∀ b ∈ Bs, BrAt W0 b) := hbr
  replace hC : Hid (Ct Bs cur xs c) := hC
  replace hG : Hid (Gd k Bs) := hG
  clear hcur hxl hLen hOk hB0 hk
  go_enter Tryz.func23, Tryz.ntmps23
  go_wp2_with (go_at_call 20; fail)
  refine hN.mono ?_
  rintro e w1 ⟨v, rfl, hrow, hb1⟩
  obtain ⟨pa, cap, rfl⟩ := own_sl hrow
  have hW1 := h.later hb1
  have hWd1 := Wd.of_below hb1 (Nat.le_of_lt hwl)
  have hk1 : Calls Tryz.prog 44 #[.pointer (some ⟨wb, 0, none⟩), .int .u8 66] w1 (Wp wb [] [UInt8.ofNat 66] w1) := wone_any wb 66 (by omega) w1 (by rw [List.length_nil]; omega) hW1
  clear hN h
  go_wp2_with (go_at_call 44; fail)
  refine hk1.mono ?_
  rintro e w2 ⟨rfl, hW2, hD2⟩
  have hrow2 := own_wd hrow (by decide) hwl hD2
  have hWd2 := hWd1.trans hD2
  rw [List.nil_append] at hW2
  have hn2 := wnum_any wb L.length (by omega) w2 (by have h1 := hHm.out; have h2 := mid_len xs 0; unfold mid at h1 h2; simp only [List.length_append, List.length_singleton, hLl.out] at h1 h2 ⊢; omega) hW2
  have hwr : IntKind.u64.wrap (L.length : Int) = (L.length : Int) := by rw [IntKind.wrap_u64]; omega
  clear hk1 hW1 hWd1 hrow hD2
  go_wp2_with (go_at_call 45; fail)
  refine hn2.mono ?_
  rintro e w3 ⟨rfl, hW3, hD3⟩
  have hrow3 := own_wd hrow2 (by decide) hwl hD3
  have hWd3 := hWd2.trans hD3
  clear hn2 hW2 hWd2 hrow2 hwr hD3
  go_wp2
  go_loopw [18] (fun iv wr => ∃ j : Nat, j ≤ L.length ∧ iv = .int .i64 (j : Int) ∧ WAt wr wb ([UInt8.ofNat 66] ++ mid xs j) ∧ wr.ownsRow W.heap.size 9 1 (.slice pa L.length cap) L.length (L.map encStr) ∧ Wd wb W wr) (fun iv _ => L.length - (intOf iv).toNat)
  case atStart => exact ⟨0, by omega, rfl, by unfold mid; rw [← hLl.out]; simpa using hW3, hrow3, hWd3⟩
  case round =>
    obtain ⟨j, hj, rfl, hWr, hrow, hWd⟩ := hrel
    clear hW3 hrow3 hWd3
    have hB0r : Below W0.heap.size W0 wr := hbW.trans (hWd.bl.mono hlo)
    by_cases hlt : j < L.length
    · have hlt' : (j : Int) < (L.length : Int) := by omega
      have hj0 : (0 : Int) ≤ (j : Int) := by omega
      obtain ⟨g, hpe⟩ : ∃ g, pa = some ⟨g, 0, none⟩ := by
        obtain ⟨_, ⟨e, h0⟩ | ⟨g, cap', cur, e, _⟩⟩ := hrow
        · omega
        · exact ⟨g, by injection e⟩
      subst hpe
      have hlt2 : j < xs.length := by have := hLl.out; omega
      obtain ⟨b, hb, hbe⟩ := hsrt.out j hlt2
      have hbn : L[j] = b.nm.data.toList := by
        have : (xs.map (·.nm))[j]? = L[j]? := by rw [hL.out]
        rw [List.getElem?_map, List.getElem?_eq_getElem hlt2, List.getElem?_eq_getElem hlt, ← hbe] at this
        injection this with this
        exact this.symm
      have hsz := isNm_len (hG.out.1 b hb).nm
      have cj : wr.cell? ⟨g, j, none⟩ = some (.string b.nm) := by
        refine (hrow.cellAt j (by omega)).trans ?_
        rw [List.getElem?_map, List.getElem?_eq_getElem hlt, hbn]
        rfl
      have hnx : Hid ([UInt8.ofNat 66] ++ mid xs (j + 1) = [UInt8.ofNat 66] ++ mid xs j ++ (encN b.nm.data.toList.length ++ b.nm.data.toList) ++ encB b) := by
        show _ = _
        rw [mid_succ xs j hlt2, ← hbe, encX_br]
        simp only [List.append_assoc]
      have hbd : Hid (([UInt8.ofNat 66] ++ mid xs j).length + ((encN b.nm.data.toList.length ++ b.nm.data.toList).length + (encB b).length) ≤ 100000000000000) := by
        have h1 := congrArg List.length hnx.out
        have h2 := mid_len xs (j + 1)
        have h3 := hHm.out
        show _ ≤ _
        simp only [List.length_append, List.length_singleton] at h1 ⊢
        omega
      have ht := wtext_any wb b.nm.data.toList (by omega) wr (by have := hbd.out; omega) hWr
      have hlk : ∀ X, Below W0.heap.size W0 X → (Instr.lookup 69 (.map (some mb)) (.string b.nm) false).run Tryz.prog X = .ok (.pointer (some ⟨b.xb, 0, none⟩)) X := fun X hX => look_here (ownsMap_later h2 hX) h3 hb (hbr.out b hb).2.2
      have c0X : ∀ X, Below W0.heap.size W0 X → X.cell? ⟨bb, 0, none⟩ = some (.map (some mb)) := fun X hX => (hX.cell (p := ⟨bb, 0, none⟩) hbb).trans c0
      have hwbr := fun X (hX : Below W0.heap.size W0 X) => wbranch_any wb b W0 (hbr.out b hb) hlo (hG.out.1 b hb).bs.2 (fun Y hY => ((hG.out.1 b hb).Ls Y hY).2) X hX (acc := [UInt8.ofNat 66] ++ mid xs j ++ (encN b.nm.data.toList.length ++ b.nm.data.toList)) (by rw [List.length_append]; have := hbd.out; omega)
      clear hWr hlt2 hbe hbn hsz
      go_wp2_with (go_at_call 46; fail)
      refine ht.mono ?_
      rintro e w5 ⟨rfl, hW5, hD5⟩
      have hrow5 := own_wd hrow (by decide) hwl hD5
      have hB5 := hB0r.trans (hD5.bl.mono hlo)
      have hk5 := hlk w5 hB5
      have c05 := c0X w5 hB5
      have hwb5 := hwbr w5 hB5 hW5
      have hWd5 := hWd.trans hD5
      clear ht hlk c0X hwbr hW5 hrow hWd hD5 cj hB0r
      go_wp2_with (go_at_call 47; fail)
      refine hwb5.mono ?_
      rintro e w6 ⟨rfl, hW6, hD6⟩
      rw [← hnx.out] at hW6
      have hrow6 := own_wd hrow5 (by decide) hwl hD6
      have hWd6 := hWd5.trans hD6
      clear hwb5 hrow5 hWd5 hD6 hB5 hk5 c05 hnx hbd
      go_wp2
      go_roundw
      case rel => exact ⟨j + 1, by omega, by go_num, hW6, hrow6, hWd6⟩
      case measure => simp [intOf]; omega
    · have hlt' : ¬ (j : Int) < (L.length : Int) := by omega
      obtain rfl : j = L.length := by omega
      have c1X : wr.cell? ⟨bb, 1, none⟩ = some (.string cur) := (hB0r.cell (p := ⟨bb, 1, none⟩) hbb).trans c1
      have hix := index_any W.heap.size (.slice pa L.length cap) L c (by omega) hcl (fun i hi hic e => by
        have := List.pairwise_iff_getElem.1 hup.out _ _ hi hcl hic
        rw [e] at this
        exact List.lt_irrefl _ this) wr hrow
      rw [hLc.out] at hix
      have hix : Calls Tryz.prog 48 #[.slice pa L.length cap, .string cur] wr fun e W' => e = .returned (.int .i64 (c : Int)) ∧ Below wr.heap.size wr W' := hix
      rw [hLl.out] at hWr
      clear hup hLc hrow hB0r hbr
      go_wp2_with (go_at_call 48; fail)
      refine hix.mono ?_
      rintro e w7 ⟨rfl, hb7⟩
      have hW7 := hWr.later hb7
      have hWd7 := hWd.trans (Wd.of_below hb7 (Nat.le_of_lt hWr.lt))
      have hn7 := wnum_any wb c (by omega) w7 (by rw [List.length_append, List.length_singleton]; have := hHm.out; omega) hW7
      have hwr : IntKind.u64.wrap (c : Int) = (c : Int) := by rw [IntKind.wrap_u64]; omega
      clear hix hWr hWd hb7 c1X
      go_wp2_with (go_at_call 45; fail)
      refine hn7.mono ?_
      rintro e w8 ⟨rfl, hW8, hD8⟩
      have hfin : Wp wb [] (encBk xs c) W (.returned (.tuple #[])) w8 := ⟨rfl, by rw [List.nil_append, enc_mid, ← List.append_assoc]; exact hW8, hWd7.trans hD8⟩
      clear hn7 hW7 hWd7 hW8 hD8
      go_wp2
      exact bodyPost_end (v := .tuple #[]) (by simp [results, Tryz.results23, go_sem]) rfl hfin

/-- What Put answers: the book's bytes, in new memory. -/
def PutP (W : World) (l : List UInt8) (e : Ending) (W' : World) : Prop := ∃ v, e = .returned v ∧ W'.ownsRow W.heap.size 5 1 v l.length (Go.Lib.byteCells l) ∧ Below W.heap.size W W'

set_option maxRecDepth 8000 in
set_option maxHeartbeats 4000000 in
theorem put_any (lo bb k : Nat) (Bs : List Br) (cur : ByteArray) (W : World) (hB : BookAt W lo bb Bs cur) (hG : Gd k Bs) (hk : k ≤ 4294967296) {xs : List Bc} {c : Nat} (hC : Ct Bs cur xs c) : Calls Tryz.prog 6 #[.pointer (some ⟨bb, 0, none⟩)] W (PutP W (encBk xs c)) := by
  have hb0 : Below W.heap.size W (W.alloc (.cells #[.slice none 0 0] 58)) := (Below.refl _ _).alloc (Nat.le_refl _) _
  have hrow0 := heap_alloc_last W (.cells #[.slice none 0 0] 58)
  have hW0 : WAt (W.alloc (.cells #[.slice none 0 0] 58)) W.heap.size [] := ⟨none, 0, hrow0, by simp [Go.Lib.byteCells], .inl ⟨rfl, rfl⟩⟩
  have hw := wbook_any W.heap.size lo bb k Bs cur W hB hG hk hC (Nat.le_refl _) _ hb0 hW0
  clear hrow0 hW0
  go_enter Tryz.func6, Tryz.ntmps6
  go_wp2_with (go_at_call 23; fail)
  refine hw.mono ?_
  rintro e w1 ⟨rfl, hW1, hD1⟩
  rw [List.nil_append] at hW1
  obtain ⟨p, cap, hrow, hown⟩ := hW1
  have c0 : w1.cell? ⟨W.heap.size, 0, none⟩ = some (.slice p (encBk xs c).length cap) := cell_of_row _ _ 0 _ _ _ hrow
  have hfin : PutP W (encBk xs c) (.returned (.slice p (encBk xs c).length cap)) w1 := by
    refine ⟨_, rfl, ?_, hb0.trans hD1.bl⟩
    obtain ⟨h1, h2 | ⟨g, cap, cur, h2, h3, h4⟩⟩ := hown
    · exact ⟨h1, .inl h2⟩
    · exact ⟨h1, .inr ⟨g, cap, cur, h2, by omega, h4⟩⟩
  clear hw hrow hown hD1 hb0
  generalize (encBk xs c).length = n at *
  go_wp2
  exact bodyPost_ret (v := .slice p n cap) (by simp [results, Tryz.results6, go_sem]) rfl hfin

end Go.Proofs.YtblfdjdhikfjhaaGreat.BZ


namespace Go.Proofs.YtblfdjdhikfjhaaGreat.BZ
open Go.RowKit

/-- Bytes in memory. -/
def DataAt (W : World) (g cap : Nat) (l : List UInt8) : Prop := g < W.heap.size ∧ l.length ≤ cap ∧ ∀ i (h : i < l.length), W.cell? ⟨g, i, none⟩ = some (.int .u8 (l[i].toNat : Int))
theorem DataAt.later {B : Nat} {W W' : World} {g cap : Nat} {l : List UInt8} (h : DataAt W g cap l) (hb : Below B W W') (hg : g < B) : DataAt W' g cap l :=
  ⟨Nat.lt_of_lt_of_le h.1 hb.size, h.2.1, fun i hi => (hb.cell (p := ⟨g, i, none⟩) hg).trans (h.2.2 i hi)⟩
theorem DataAt.inL {W : World} {g cap : Nat} {l : List UInt8} (h : DataAt W g cap l) : InL W (some ⟨g, 0, none⟩) l := .inr ⟨g, 0, rfl, h.1, fun i hi => by rw [Nat.zero_add]; exact h.2.2 i hi⟩
theorem DataAt.take {W : World} {g cap n : Nat} {l : List UInt8} (h : DataAt W g cap l) : InL W (some ⟨g, 0, none⟩) (l.take n) := .inr ⟨g, 0, rfl, h.1, fun i hi => by
  rw [Nat.zero_add, List.getElem_take]
  exact h.2.2 i (by rw [List.length_take] at hi; omega)⟩
theorem conv_data {W : World} {g cap : Nat} {l : List UInt8} (h : DataAt W g cap l) : (convert 27 9 (.slice (some ⟨g, 0, none⟩) l.length cap)).run Tryz.prog W = .ok (.string ⟨l.toArray⟩) W :=
  conv_rd (rb := W.heap.size) (.inr ⟨g, 0, rfl, h.1, h.1, fun i hi => by rw [Nat.zero_add]; exact h.2.2 i hi⟩) cap
theorem data_row {W : World} {lo : Nat} {v : Value} {l : List UInt8} (h : W.ownsRow lo 5 1 v l.length (Go.Lib.byteCells l)) (hl : 0 < l.length) : ∃ g cap, v = .slice (some ⟨g, 0, none⟩) l.length cap ∧ DataAt W g cap l ∧ lo ≤ g := by
  obtain ⟨_, ⟨e, h0⟩ | ⟨g, cap, cur, e, h1, h2, h3, _⟩⟩ := id h
  · omega
  · subst e
    refine ⟨g, cap, rfl, ⟨(Array.getElem?_eq_some_iff.1 h2).1, h3, fun i hi => (h.cellAt i (by omega)).trans ?_⟩, h1⟩
    unfold Go.Lib.byteCells
    rw [List.getElem?_map, List.getElem?_eq_getElem hi]
    rfl
theorem enc_pos (xs : List Bc) (c : Nat) : 0 < (encBk xs c).length := by unfold encBk; simp
/-- What Put answers, spelt out. -/
def PutX (W : World) (l : List UInt8) (e : Ending) (W' : World) : Prop := ∃ g cap, e = .returned (.slice (some ⟨g, 0, none⟩) l.length cap) ∧ DataAt W' g cap l ∧ Below W.heap.size W W'
theorem gd_cap {W : World} {lo bb k : Nat} {Bs : List Br} {cur : ByteArray} (h : BookAt W lo bb Bs cur) (hG : Gd k Bs) : Gd 4294967296 Bs := by
  refine ⟨fun b hb => ?_, hG.2⟩
  have hg := hG.1 b hb
  obtain ⟨⟨g, -, hm⟩, hH, -⟩ := h.br hb
  have hs := hist_small hH
  exact ⟨hg.nm, ⟨hm.len, hg.bs.2⟩, fun L hL => ⟨hs L hL, (hg.Ls L hL).2⟩⟩
theorem put_x (lo bb k : Nat) (Bs : List Br) (cur : ByteArray) (W : World) (hB : BookAt W lo bb Bs cur) (hG : Gd k Bs) {xs : List Bc} {c : Nat} (hC : Ct Bs cur xs c) : Calls Tryz.prog 6 #[.pointer (some ⟨bb, 0, none⟩)] W (PutX W (encBk xs c)) := by
  refine (put_any lo bb 4294967296 Bs cur W hB (gd_cap hB hG) (Nat.le_refl _) hC).mono ?_
  rintro e W' ⟨v, rfl, hr, hb⟩
  obtain ⟨g, cap, rfl, h, -⟩ := data_row hr (enc_pos xs c)
  exact ⟨g, cap, rfl, h, hb⟩
theorem ok_x {W : World} {lo bb k : Nat} {Bs : List Br} {cur : ByteArray} {xs : List Bc} {c : Nat} (h : BookAt W lo bb Bs cur) (hG : Gd k Bs) (hC : Ct Bs cur xs c) : BkOk xs c ∧ (encBk xs c).length ≤ 100000000000000 := by
  obtain ⟨h1, h2⟩ := ct_ok h (gd_cap h hG) (Nat.le_refl _) hC
  exact ⟨h1, Nat.le_trans h2 (by omega)⟩
/-- What holds of one list of branches holds of another one with these contents. -/
theorem gd_ct {k : Nat} {Bs Ds : List Br} {cu cv : ByteArray} {xs : List Bc} {c d : Nat} (hG : Gd k Bs) (h : Ct Bs cu xs c) (h' : Ct Ds cv xs d) : Gd k Ds := by
  have hto : ∀ e ∈ Ds, ∃ b ∈ Bs, toB b = toB e := fun e he => by
    have hm : toB e ∈ xs := by rw [← h'.1]; exact List.mem_map.2 ⟨e, mem_srt.2 he, rfl⟩
    rw [← h.1] at hm
    obtain ⟨b, hb, e⟩ := List.mem_map.1 hm
    exact ⟨b, mem_srt.1 hb, e⟩
  refine ⟨fun e he => ?_, ?_⟩
  · obtain ⟨b, hb, eq⟩ := hto e he
    have hg := hG.1 b hb
    unfold toB at eq
    injection eq with e1 e2 e3 e4
    exact ⟨by rw [← e1]; exact hg.nm, by rw [← e2]; exact hg.bs, fun L hL => hg.Ls L (by rw [e3]; exact hL)⟩
  · obtain ⟨b, hb, e⟩ := hG.2
    have hm : toB b ∈ xs := by rw [← h.1]; exact List.mem_map.2 ⟨b, mem_srt.2 hb, rfl⟩
    rw [← h'.1] at hm
    obtain ⟨d, hd, eq⟩ := List.mem_map.1 hm
    refine ⟨d, mem_srt.1 hd, ?_⟩
    unfold toB at eq
    injection eq with e1
    rw [← e]
    exact ByteArray.ext (Array.toList_inj.1 e1)
/-- A copy has the same contents. -/
theorem ct_copy {Bs Cs : List Br} {cur : ByteArray} {xs : List Bc} {c : Nat} (hA : Apart Bs) (hA' : Apart Cs) (h : Ct Bs cur xs c) (h1 : ∀ b ∈ Bs, ∃ c ∈ Cs, Sm c b) (h2 : ∀ c ∈ Cs, ∃ b ∈ Bs, Sm c b) : Ct Cs cur xs c := by
  have hsm : ∀ {a b : Br}, Sm a b → toB a = toB b := fun {a b} h => by
    obtain ⟨q1, q2, q3, q4⟩ := h
    unfold toB
    rw [q1, q2, q3, q4]
  refine ⟨?_, h.2⟩
  rw [← h.1]
  have p1 : ((srt Cs).map toB).Pairwise (fun x y => x.nm < y.nm) := List.pairwise_map.2 (srt_up hA')
  have p2 : ((srt Bs).map toB).Pairwise (fun x y => x.nm < y.nm) := List.pairwise_map.2 (srt_up hA)
  have nd : ∀ {l : List Bc}, l.Pairwise (fun x y => x.nm < y.nm) → l.Nodup := fun {l} hp => by
    refine hp.imp ?_
    intro a b hlt e
    rw [e] at hlt
    exact List.lt_irrefl _ hlt
  refine List.Perm.eq_of_pairwise (le := fun x y : Bc => x.nm < y.nm) (fun a b _ _ h1 h2 => absurd (List.lt_trans h1 h2) (List.lt_irrefl _)) p1 p2 ((List.perm_ext_iff_of_nodup (nd p1) (nd p2)).2 fun x => ?_)
  constructor
  · intro hx
    obtain ⟨a, ha, rfl⟩ := List.mem_map.1 hx
    obtain ⟨b, hb, hs⟩ := h2 a (mem_srt.1 ha)
    exact List.mem_map.2 ⟨b, mem_srt.2 hb, (hsm hs).symm⟩
  · intro hx
    obtain ⟨b, hb, rfl⟩ := List.mem_map.1 hx
    obtain ⟨a, ha, hs⟩ := h1 b (mem_srt.1 hb)
    exact List.mem_map.2 ⟨a, mem_srt.2 ha, hsm hs⟩
/-- The place of the cut. -/
theorem cut_at (z : Int) {n : Nat} (hn : 0 < n) (hl : n ≤ 100000000000000) : ∃ (t : Int) (m : Nat), z.tmod (n : Int) = t ∧ wrap64 (t + (n : Int)) = t + (n : Int) ∧ IntKind.i64.wrap (t + (n : Int)) = t + (n : Int) ∧ (t + (n : Int)).tmod (n : Int) = (m : Int) ∧ m < n := by
  have h1 := Int.lt_tmod_of_pos z (show (0 : Int) < (n : Int) by omega)
  have h2 := Int.tmod_lt_of_pos z (show (0 : Int) < (n : Int) by omega)
  generalize z.tmod (n : Int) = t at *
  refine ⟨t, ((t + n) % n).toNat, rfl, by unfold wrap64; omega, by rw [IntKind.wrap_i64]; omega, ?_, ?_⟩
  · rw [Int.tmod_eq_emod_of_nonneg (by omega)]
    have := Int.emod_nonneg (t + (n : Int)) (show (n : Int) ≠ 0 by omega)
    omega
  · have := Int.emod_lt_of_pos (t + (n : Int)) (show (0 : Int) < (n : Int) by omega)
    have := Int.emod_nonneg (t + (n : Int)) (show (n : Int) ≠ 0 by omega)
    omega
theorem str_ne {a b : List UInt8} (h : a ≠ b) : (⟨a.toArray⟩ : ByteArray) ≠ ⟨b.toArray⟩ := fun e => h (by injection e with e; injection e with e)
/-- A reading that fails. -/
theorem get_no (W : World) (a : Option Addr) (t : List UInt8) (cap : Nat) (hl : t.length ≤ 9223372036854775806) (hcap : t.length ≤ cap) (hn : a = none → cap = 0) (h : InL W a t) (h0 : get t = none) : Calls Tryz.prog 7 #[.slice a t.length cap] W fun e W' => e = .returned (.tuple #[.pointer none, .int .i64 126]) ∧ Below W.heap.size W W' := by
  refine (get_any W a t cap hl hcap hn h).mono ?_
  rintro e W' ⟨⟨-, rfl⟩ | ⟨xs, c, bb, he, -⟩, hb⟩
  · exact ⟨rfl, hb⟩
  · rw [h0] at he; cases he
theorem get_yes (W : World) (g cap : Nat) {xs : List Bc} {c : Nat} (hO : BkOk xs c) (hL : (encBk xs c).length ≤ 100000000000000) (h : DataAt W g cap (encBk xs c)) : Calls Tryz.prog 7 #[.slice (some ⟨g, 0, none⟩) (encBk xs c).length cap] W fun e W' => ∃ bb Ds cv, e = .returned (.tuple #[.pointer (some ⟨bb, 0, none⟩), .int .i64 0]) ∧ BookAt W' W.heap.size bb Ds cv ∧ Ct Ds cv xs c ∧ Below W.heap.size W W' := by
  refine (get_any W _ _ cap (by omega) h.2.1 (fun e => by cases e) h.inL).mono ?_
  rintro e W' ⟨⟨he, -⟩ | ⟨ys, d, bb, he, rfl, hi⟩, hb⟩
  · rw [get_enc hO] at he; cases he
  · rw [get_enc hO] at he
    injection he with he
    injection he with e1 e2
    subst e1 e2
    obtain ⟨Ds, cv, k1, k2⟩ := ct_of_in hi
    exact ⟨bb, Ds, cv, rfl, k1, k2, hb⟩

end Go.Proofs.YtblfdjdhikfjhaaGreat.BZ
