import Derived.Test.YtkojgbfocdefnaaHAll
import Derived.Test.YtkojgbfocdefnaaTrieM
import Derived.Test.YtkojgbfocdefnaaTOne
namespace Go.Proofs.Ytkojgbfocdefnaa
open Go.RowKit

/-- The four cells of versions, and what was given; where it is to end (ms), and whether it is over. -/
def VM (ms : Int) (od : Bool) (W : World) (B : Nat) (vs : Nat → Nat) (p k : Nat) (X : World) : Prop := ∃ ov, X.cell? ⟨B, 0, none⟩ = some (.int .i64 ms) ∧ X.heap[B + 1]? = some (.cells #[ov] 83 (0, 0)) ∧ X.heap[B + 1 + 1]? = some (.cells #[.bool od] 4 (0, 0)) ∧ X.heap[B + 1 + 1 + 1]? = some (.cells #[.bool true] 4 (0, 0)) ∧ X.ownsRow (B + 4) 89 2 ov k (flat2 vs p k) ∧ W.heap.size ≤ B ∧ Below W.heap.size W X
def VMx (ms : Int) (W : World) (B : Nat) (vs : Nat → Nat) (p k : Nat) (X : World) : Prop := ∃ od, VM ms od W B vs p k X
/-- How many are given. -/
def cntM (ms : Int) (n : Nat) : Nat := if 0 < ms ∧ ms < (n : Int) then ms.toNat else n

set_option maxRecDepth 4000 in
set_option maxHeartbeats 2000000 in
theorem versions1_more (ms : Int) (W : World) (B : Nat) (vs : Nat → Nat) (p k : Nat) (hk : k < 100) (hz : ((k : Int) + 1 == ms) = false) (w : World) (h : VM ms false W B vs p k w) :
    Calls Try.prog 52 #[.int .i64 ((k : Int) - (p : Int)), .pointer (some ⟨vs k, 0, none⟩), .pointer (some ⟨B + 1 + 1, 0, none⟩), .pointer (some ⟨B + 1 + 1 + 1, 0, none⟩), .pointer (some ⟨B + 1, 0, none⟩), .pointer (some ⟨B, 0, none⟩)] w fun e w' => e = .returned (.bool true) ∧ VM ms false W B vs p (k + 1) w' := by
  obtain ⟨ov, hc0, hT, hO, hW, hown, hWB, hBl⟩ := h
  obtain ⟨ea, el, ec, rfl⟩ := own_slice hown
  have hTl : B + 1 < w.heap.size := (Array.getElem?_eq_some_iff.1 hT).1
  have hOl : B + 1 + 1 < w.heap.size := (Array.getElem?_eq_some_iff.1 hO).1
  have hWl : B + 1 + 1 + 1 < w.heap.size := (Array.getElem?_eq_some_iff.1 hW).1
  obtain ⟨i0, hi, hz0, hz1, hz2⟩ := info_parts infoV
  obtain ⟨n, hn⟩ : ∃ n : Int, Hid (n = (k : Int) - (p : Int)) := ⟨_, rfl⟩
  rw [← hn.out]
  have c0 : w.cell? ⟨B + 1, 0, none⟩ = some (.slice ea el ec) := cell_of_row _ _ 0 _ _ _ hT
  have o0 : w.cell? ⟨B + 1 + 1, 0, none⟩ = some (.bool false) := cell_of_row _ _ 0 _ _ _ hO
  have hb2 : Below w.heap.size w (w.alloc (.cells #[.int .i64 n, .pointer (some ⟨vs k, 0, none⟩)] 89)) := (Below.refl _ _).alloc (Nat.le_refl _) _
  have hownA := own_laterB hown hb2
  have hTA := (hb2.block _ hTl).trans hT
  have hOA := (hb2.block _ hOl).trans hO
  have hWA := (hb2.block _ hWl).trans hW
  have hcA := cells2_at w w.heap.size rfl (.int .i64 n) (.pointer (some ⟨vs k, 0, none⟩)) 89
  have hlt4 : ∀ j, (Value.slice ea el ec).ownBlock = some j → B + 4 ≤ j := fun j e => (hown.lt j e).1
  have hz2' : ¬ (200 : Int) ≤ (k : Int) + 1 := by omega
  have hz3 : decide ((200 : Int) ≤ (k : Int) + 1) = false := decide_eq_false hz2'
  have hB0 : B < w.heap.size := by omega
  go_enter Try.func52, Try.ntmps52
  have tok1 : True := trivial
  go_wp2_with (at_builtin; have _u := tok1; clear tok1; go_loud (refine wpList_append_own (P := Try.prog) _ rfl _ _ 83 rfl (B + 4) 89 i0 _ 2 16 Try.underlying83 hi hz0 hz1 hz2 rfl (by decide) _ k (flat2 vs p k) rfl hownA ⟨w.heap.size, 0, none⟩ 1 1 [.int .i64 n, .pointer (some ⟨vs k, 0, none⟩)] rfl rfl hcA (fun u hu => by { simp at hu; rcases hu with rfl | rfl <;> rfl }) (by unfold maxLen; omega) (by omega) (by have := hb2.size; omega) ?_); intro v2 w2 hown2 hgrow2 _h2; obtain ⟨g2, cap2, rfl⟩ := own_some hown2 (by omega); have hneB : ∀ j, j < B + 4 → some j ≠ (Value.slice ea el ec).ownBlock := (fun j hj e => by have := hlt4 j e.symm; omega); have hT2 := (hgrow2.block (B + 1) (by have := hb2.size; omega) (hneB _ (by omega))).trans hTA; have hO2 := (hgrow2.block (B + 1 + 1) (by have := hb2.size; omega) (hneB _ (by omega))).trans hOA; have hW2 := (hgrow2.block (B + 1 + 1 + 1) (by have := hb2.size; omega) (hneB _ (by omega))).trans hWA; have c2 : w2.cell? ⟨B + 1, 0, none⟩ = some (.slice ea el ec) := cell_of_row _ _ 0 _ _ _ hT2; have f2 := frozen_of_row hT2 0; have m2 : w2.cell? ⟨B, 0, none⟩ = some (.int .i64 ms) := ((grown_cell hgrow2 (by have := hb2.size; omega) (hneB B (by omega)).symm).trans (hb2.cell (p := ⟨B, 0, none⟩) hB0)).trans hc0; have o2 : w2.cell? ⟨B + 1 + 1, 0, none⟩ = some (.bool false) := cell_of_row _ _ 0 _ _ _ hO2; have fo2 := frozen_of_row hO2 0)
  go_ret
  refine ⟨rfl, ?_⟩
  have g1 := grown_set w2 (B + 1) 0 (.slice (some ⟨g2, 0, none⟩) (k + 1) cap2)
  have hT3 := heap_setCell_same w2 (B + 1) 0 _ _ (.slice (some ⟨g2, 0, none⟩) (k + 1) cap2) hT2
  have hl2 := hgrow2.size
  have hl3 := hb2.size
  have n2 : ∀ j, j < B + 4 → (Value.slice (some ⟨g2, 0, none⟩) (k + 1) cap2).ownBlock = none ∨ (Value.slice (some ⟨g2, 0, none⟩) (k + 1) cap2).ownBlock ≠ some j := fun j hj => .inr (fun e => by have := (hown2.lt j e).1; omega)
  have own3 := hown2.kept g1 (n2 _ (by omega))
  have hO3 := (g1.block (B + 1 + 1) (by omega) (fun e => by have := Option.some.inj e; omega)).trans hO2
  have hW3 := (g1.block (B + 1 + 1 + 1) (by omega) (fun e => by have := Option.some.inj e; omega)).trans hW2
  have m3 := (grown_cell (o := 0) g1 (b := B) (by omega) (fun e => by have := Option.some.inj e; omega)).trans m2
  have hB2 : Below B w w2 := (hb2.mono (Nat.le_of_lt hB0)).grown hgrow2 (by omega) (fun j hj => by have := hlt4 j hj; omega)
  have hB3 := hB2.setCell (p := ⟨B + 1, 0, none⟩) (by simp) (.slice (some ⟨g2, 0, none⟩) (k + 1) cap2)
  have hs3 := g1.size
  generalize w2.setCell ⟨B + 1, 0, none⟩ (.slice (some ⟨g2, 0, none⟩) (k + 1) cap2) = X at *
  have g2' := grown_set X (B + 1 + 1) 0 (.bool false)
  have hO4 := heap_setCell_same X (B + 1 + 1) 0 _ _ (.bool false) hO3
  refine ⟨_, (grown_cell (o := 0) g2' (b := B) (by omega) (fun e => by have := Option.some.inj e; omega)).trans m3, (g2'.block (B + 1) (by omega) (fun e => by have := Option.some.inj e; omega)).trans hT3, hO4, (g2'.block (B + 1 + 1 + 1) (by omega) (fun e => by have := Option.some.inj e; omega)).trans hW3, ?_, hWB, hBl.trans ((hB3.setCell (p := ⟨B + 1 + 1, 0, none⟩) (by simp; omega) (.bool false)).mono hWB)⟩
  rw [flat2_succ, ← hn.out]
  exact own3.kept g2' (n2 _ (by omega))

set_option maxRecDepth 4000 in
set_option maxHeartbeats 2000000 in
theorem versions1_full (ms : Int) (W : World) (B : Nat) (vs : Nat → Nat) (p k : Nat) (hk : k < 100) (hz : ((k : Int) + 1 == ms) = true) (w : World) (h : VM ms false W B vs p k w) :
    Calls Try.prog 52 #[.int .i64 ((k : Int) - (p : Int)), .pointer (some ⟨vs k, 0, none⟩), .pointer (some ⟨B + 1 + 1, 0, none⟩), .pointer (some ⟨B + 1 + 1 + 1, 0, none⟩), .pointer (some ⟨B + 1, 0, none⟩), .pointer (some ⟨B, 0, none⟩)] w fun e w' => e = .returned (.bool false) ∧ VM ms true W B vs p (k + 1) w' := by
  obtain ⟨ov, hc0, hT, hO, hW, hown, hWB, hBl⟩ := h
  obtain ⟨ea, el, ec, rfl⟩ := own_slice hown
  have hTl : B + 1 < w.heap.size := (Array.getElem?_eq_some_iff.1 hT).1
  have hOl : B + 1 + 1 < w.heap.size := (Array.getElem?_eq_some_iff.1 hO).1
  have hWl : B + 1 + 1 + 1 < w.heap.size := (Array.getElem?_eq_some_iff.1 hW).1
  obtain ⟨i0, hi, hz0, hz1, hz2⟩ := info_parts infoV
  obtain ⟨n, hn⟩ : ∃ n : Int, Hid (n = (k : Int) - (p : Int)) := ⟨_, rfl⟩
  rw [← hn.out]
  have c0 : w.cell? ⟨B + 1, 0, none⟩ = some (.slice ea el ec) := cell_of_row _ _ 0 _ _ _ hT
  have o0 : w.cell? ⟨B + 1 + 1, 0, none⟩ = some (.bool false) := cell_of_row _ _ 0 _ _ _ hO
  have hb2 : Below w.heap.size w (w.alloc (.cells #[.int .i64 n, .pointer (some ⟨vs k, 0, none⟩)] 89)) := (Below.refl _ _).alloc (Nat.le_refl _) _
  have hownA := own_laterB hown hb2
  have hTA := (hb2.block _ hTl).trans hT
  have hOA := (hb2.block _ hOl).trans hO
  have hWA := (hb2.block _ hWl).trans hW
  have hcA := cells2_at w w.heap.size rfl (.int .i64 n) (.pointer (some ⟨vs k, 0, none⟩)) 89
  have hlt4 : ∀ j, (Value.slice ea el ec).ownBlock = some j → B + 4 ≤ j := fun j e => (hown.lt j e).1
  have hz2' : ¬ (200 : Int) ≤ (k : Int) + 1 := by omega
  have hz3 : decide ((200 : Int) ≤ (k : Int) + 1) = false := decide_eq_false hz2'
  have hB0 : B < w.heap.size := by omega
  go_enter Try.func52, Try.ntmps52
  have tok1 : True := trivial
  go_wp2_with (at_builtin; have _u := tok1; clear tok1; go_loud (refine wpList_append_own (P := Try.prog) _ rfl _ _ 83 rfl (B + 4) 89 i0 _ 2 16 Try.underlying83 hi hz0 hz1 hz2 rfl (by decide) _ k (flat2 vs p k) rfl hownA ⟨w.heap.size, 0, none⟩ 1 1 [.int .i64 n, .pointer (some ⟨vs k, 0, none⟩)] rfl rfl hcA (fun u hu => by { simp at hu; rcases hu with rfl | rfl <;> rfl }) (by unfold maxLen; omega) (by omega) (by have := hb2.size; omega) ?_); intro v2 w2 hown2 hgrow2 _h2; obtain ⟨g2, cap2, rfl⟩ := own_some hown2 (by omega); have hneB : ∀ j, j < B + 4 → some j ≠ (Value.slice ea el ec).ownBlock := (fun j hj e => by have := hlt4 j e.symm; omega); have hT2 := (hgrow2.block (B + 1) (by have := hb2.size; omega) (hneB _ (by omega))).trans hTA; have hO2 := (hgrow2.block (B + 1 + 1) (by have := hb2.size; omega) (hneB _ (by omega))).trans hOA; have hW2 := (hgrow2.block (B + 1 + 1 + 1) (by have := hb2.size; omega) (hneB _ (by omega))).trans hWA; have c2 : w2.cell? ⟨B + 1, 0, none⟩ = some (.slice ea el ec) := cell_of_row _ _ 0 _ _ _ hT2; have f2 := frozen_of_row hT2 0; have m2 : w2.cell? ⟨B, 0, none⟩ = some (.int .i64 ms) := ((grown_cell hgrow2 (by have := hb2.size; omega) (hneB B (by omega)).symm).trans (hb2.cell (p := ⟨B, 0, none⟩) hB0)).trans hc0; have o2 : w2.cell? ⟨B + 1 + 1, 0, none⟩ = some (.bool false) := cell_of_row _ _ 0 _ _ _ hO2; have fo2 := frozen_of_row hO2 0)
  go_ret
  refine ⟨rfl, ?_⟩
  have g1 := grown_set w2 (B + 1) 0 (.slice (some ⟨g2, 0, none⟩) (k + 1) cap2)
  have hT3 := heap_setCell_same w2 (B + 1) 0 _ _ (.slice (some ⟨g2, 0, none⟩) (k + 1) cap2) hT2
  have hl2 := hgrow2.size
  have hl3 := hb2.size
  have n2 : ∀ j, j < B + 4 → (Value.slice (some ⟨g2, 0, none⟩) (k + 1) cap2).ownBlock = none ∨ (Value.slice (some ⟨g2, 0, none⟩) (k + 1) cap2).ownBlock ≠ some j := fun j hj => .inr (fun e => by have := (hown2.lt j e).1; omega)
  have own3 := hown2.kept g1 (n2 _ (by omega))
  have hO3 := (g1.block (B + 1 + 1) (by omega) (fun e => by have := Option.some.inj e; omega)).trans hO2
  have hW3 := (g1.block (B + 1 + 1 + 1) (by omega) (fun e => by have := Option.some.inj e; omega)).trans hW2
  have m3 := (grown_cell (o := 0) g1 (b := B) (by omega) (fun e => by have := Option.some.inj e; omega)).trans m2
  have hB2 : Below B w w2 := (hb2.mono (Nat.le_of_lt hB0)).grown hgrow2 (by omega) (fun j hj => by have := hlt4 j hj; omega)
  have hB3 := hB2.setCell (p := ⟨B + 1, 0, none⟩) (by simp) (.slice (some ⟨g2, 0, none⟩) (k + 1) cap2)
  have hs3 := g1.size
  generalize w2.setCell ⟨B + 1, 0, none⟩ (.slice (some ⟨g2, 0, none⟩) (k + 1) cap2) = X at *
  have g2' := grown_set X (B + 1 + 1) 0 (.bool true)
  have hO4 := heap_setCell_same X (B + 1 + 1) 0 _ _ (.bool true) hO3
  refine ⟨_, (grown_cell (o := 0) g2' (b := B) (by omega) (fun e => by have := Option.some.inj e; omega)).trans m3, (g2'.block (B + 1) (by omega) (fun e => by have := Option.some.inj e; omega)).trans hT3, hO4, (g2'.block (B + 1 + 1 + 1) (by omega) (fun e => by have := Option.some.inj e; omega)).trans hW3, ?_, hWB, hBl.trans ((hB3.setCell (p := ⟨B + 1 + 1, 0, none⟩) (by simp; omega) (.bool true)).mono hWB)⟩
  rw [flat2_succ, ← hn.out]
  exact own3.kept g2' (n2 _ (by omega))

set_option maxRecDepth 4000 in
set_option maxHeartbeats 2000000 in
theorem through_M (ms : Int) (W : World) (B hb g cap : Nat) (vs : Nat → Nat) (p : Nat) (Ls : List Es) (hl : Ls.length ≤ 33) (hH : HB W hb (some ⟨g, 0, none⟩) Ls.length cap (p : Int)) (hM : Maps W g 0 vs Ls) (hp : p < 100) (w : World) (h : VM ms false W B vs p 0 w) :
    Calls Try.prog 18 #[.pointer (some ⟨hb, 0, none⟩), .func (.func 52) #[] #[.pointer (some ⟨B + 1 + 1, 0, none⟩), .pointer (some ⟨B + 1 + 1 + 1, 0, none⟩), .pointer (some ⟨B + 1, 0, none⟩), .pointer (some ⟨B, 0, none⟩)]] w fun e w' => e = .returned (.tuple #[]) ∧ VMx ms W B vs p (cntM ms Ls.length) w' := by
  have hB : ∀ od k X, VM ms od W B vs p k X → Below W.heap.size W X := fun od k X ⟨_, _, _, _, _, _, _, hb⟩ => hb
  have c0 : w.cell? ⟨hb, 0, none⟩ = some (.slice (some ⟨g, 0, none⟩) Ls.length cap) := cell_of_row _ _ 0 _ _ _ (hH.later (hB _ _ _ h))
  have c1 : w.cell? ⟨hb, 1, none⟩ = some (.int .i64 (p : Int)) := cell_of_row _ _ 1 _ _ _ (hH.later (hB _ _ _ h))
  go_enter Try.func18, Try.ntmps18
  go_wp2
  go_loopw [16] (fun iv X => ∃ j : Nat, j ≤ Ls.length ∧ Hid (0 < ms → (j : Int) < ms) ∧ iv = .int .i64 (j : Int) ∧ VM ms false W B vs p j X) (fun iv _ => Ls.length - (intOf iv).toNat)
  case atStart => exact ⟨0, by omega, fun h => h, rfl, h⟩
  case round =>
    obtain ⟨j, hj, hms, rfl, hJ⟩ := hrel
    clear h c0 c1
    by_cases hlt : j < Ls.length
    · have hlt' : (j : Int) < (Ls.length : Int) := by omega
      have hj0 : (0 : Int) ≤ (j : Int) := by omega
      have cj := ((hM.later (hB _ _ _ hJ)).2 j hlt).1
      rw [Nat.zero_add] at cj
      have hwr : IntKind.i64.wrap ((j : Int) - (p : Int)) = (j : Int) - (p : Int) := by rw [IntKind.wrap_i64]; omega
      have hwr3 : wrap64 ((j : Int) - (p : Int)) = (j : Int) - (p : Int) := by unfold wrap64; omega
      by_cases hfu : (j : Int) + 1 = ms
      · have hv := versions1_full ms W B vs p j (by omega) (by simpa using hfu) _ hJ
        have hcn : Hid (j + 1 = cntM ms Ls.length) := by
          show _ = _
          unfold cntM
          split <;> omega
        go_wp2_with (go_at_call 52; refine hv.mono ?_; rintro e w5 ⟨rfl, hJ5⟩)
        refine bodyPost_ret (results_none rfl _ _ _) rfl ?_
        exact ⟨rfl, true, by rw [← hcn.out]; exact hJ5⟩
      · have hv := versions1_more ms W B vs p j (by omega) (by simpa using hfu) _ hJ
        have hms2 : Hid (0 < ms → ((j + 1 : Nat) : Int) < ms) := fun h => by have := hms.out h; omega
        go_wp2_with (go_at_call 52; refine hv.mono ?_; rintro e w5 ⟨rfl, hJ5⟩)
        go_roundw
        case rel => exact ⟨j + 1, by omega, hms2, by go_num, hJ5⟩
        case measure => simp [intOf]; omega
    · have hlt' : ¬ (j : Int) < (Ls.length : Int) := by omega
      obtain rfl : j = Ls.length := by omega
      have hcn : Hid (cntM ms Ls.length = Ls.length) := by
        show _ = _
        unfold cntM
        split
        · have := hms.out (by omega); omega
        · rfl
      go_wp2
      go_end0
      exact ⟨rfl, false, by rw [hcn.out]; exact hJ⟩

set_option maxRecDepth 4000 in
set_option maxHeartbeats 2000000 in
theorem versions_M (ms : Int) (hb : Nat) (Ls : List Es) (p : Nat) (w : World) (h : HistAt w hb Ls p) :
    Calls Try.prog 37 #[.func (.func 18) #[.pointer (some ⟨hb, 0, none⟩)] #[], .int .i64 ms] w fun e w' => ∃ ov vs, e = .returned (.tuple #[ov, .bool true]) ∧ w'.ownsRow w.heap.size 89 2 ov (cntM ms Ls.length) (flat2 vs p (cntM ms Ls.length)) ∧ (∀ i (h : i < Ls.length), MapE w' (vs i) Ls[i] ∧ Ls[i].length ≤ 200) ∧ Below w.heap.size w w' := by
  obtain ⟨hpl, hl, g, cap, vs, hH, hcap, hne, hM⟩ := h
  have hnil : ∀ W : World, (binOp BinOp.eql 30 (.func (.func 18) #[.pointer (some ⟨hb, 0, none⟩)] #[]) .nilFunc).run Try.prog W = .ok (.bool false) W := fun _ => rfl
  go_enter Try.func37, Try.ntmps37
  go_wp2_with (go_at_call 18; fail)
  have hJ0 : VM ms false w w.heap.size vs p 0 ((((w.alloc (.cells #[.int .i64 ms] 3)).alloc (.cells #[.slice none 0 0] 83)).alloc (.cells #[.bool false] 4)).alloc (.cells #[.bool true] 4)) := by
    have b1 := (Below.refl w.heap.size w).alloc (Nat.le_refl _) (.cells #[.int .i64 ms] 3)
    have e1 := heap_alloc_last w (.cells #[.int .i64 ms] 3)
    have s1 : (w.alloc (.cells #[.int .i64 ms] 3)).heap.size = w.heap.size + 1 := by simp
    generalize w.alloc (.cells #[.int .i64 ms] 3) = X1 at *
    have b2 := (Below.refl X1.heap.size X1).alloc (Nat.le_refl _) (.cells #[.slice none 0 0] 83)
    have e2 := heap_alloc_last X1 (.cells #[.slice none 0 0] 83)
    have s2 : (X1.alloc (.cells #[.slice none 0 0] 83)).heap.size = X1.heap.size + 1 := by simp
    generalize X1.alloc (.cells #[.slice none 0 0] 83) = X2 at *
    have b3 := (Below.refl X2.heap.size X2).alloc (Nat.le_refl _) (.cells #[.bool false] 4)
    have e3 := heap_alloc_last X2 (.cells #[.bool false] 4)
    have s3 : (X2.alloc (.cells #[.bool false] 4)).heap.size = X2.heap.size + 1 := by simp
    generalize X2.alloc (.cells #[.bool false] 4) = X3 at *
    have b4 := (Below.refl X3.heap.size X3).alloc (Nat.le_refl _) (.cells #[.bool true] 4)
    have e4 := heap_alloc_last X3 (.cells #[.bool true] 4)
    generalize X3.alloc (.cells #[.bool true] 4) = X4 at *
    have k2 : X1.heap.size = w.heap.size + 1 := s1
    have k3 : X2.heap.size = w.heap.size + 1 + 1 := by omega
    have k4 : X3.heap.size = w.heap.size + 1 + 1 + 1 := by omega
    rw [k2] at e2
    rw [k3] at e3
    rw [k4] at e4
    refine ⟨_, ?_, (b4.block _ (by omega)).trans ((b3.block _ (by omega)).trans e2), (b4.block _ (by omega)).trans e3, e4, World.ownsRow_nil _ _ _ _, Nat.le_refl _, below_step (below_step (below_step b1 b2) b3) b4⟩
    exact (b4.cell (p := ⟨w.heap.size, 0, none⟩) (by simp; omega)).trans ((b3.cell (p := ⟨w.heap.size, 0, none⟩) (by simp; omega)).trans ((b2.cell (p := ⟨w.heap.size, 0, none⟩) (by simp; omega)).trans (cell_of_row _ _ 0 _ _ _ e1)))
  refine (through_M ms w w.heap.size hb g cap vs p Ls hl hH hM (by omega) _ hJ0).mono ?_
  rintro e w3 ⟨rfl, od, ov, hc0, hT, hO, hW, hown, -, hB3⟩
  obtain ⟨ea, el, ec, rfl⟩ := own_slice hown
  have c0 : w3.cell? ⟨w.heap.size + 1, 0, none⟩ = some (.slice ea el ec) := cell_of_row _ _ 0 _ _ _ hT
  have c1 : w3.cell? ⟨w.heap.size + 1 + 1 + 1, 0, none⟩ = some (.bool true) := cell_of_row _ _ 0 _ _ _ hW
  clear hJ0 hc0 hT hO hW
  go_wp2
  go_region
  all_goals
    go_wp2
    go_ret2
    have hb4 := (Below.refl w3.heap.size w3).drew
    have hM4 := hM.later (hB3.drew)
    refine ⟨_, vs, rfl, ?_, fun i hi => (hM4.2 i hi).2, hB3.drew⟩
    obtain ⟨h1, h2⟩ := own_laterB hown hb4
    refine ⟨h1, ?_⟩
    rcases h2 with h2 | ⟨g, cap, cur, e, hg, rest⟩
    · exact .inl h2
    · exact .inr ⟨g, cap, cur, e, by omega, rest⟩

theorem stepsF_any (hb : Nat) (w : World) : Calls Try.prog 5 #[.pointer (some ⟨hb, 0, none⟩)] w fun e w' => e = .returned (.func (.func 18) #[.pointer (some ⟨hb, 0, none⟩)] #[]) ∧ w' = w := by
  go_enter Try.func5, Try.ntmps5
  go_wp2
  go_ret
  exact ⟨rfl, rfl⟩

end Go.Proofs.Ytkojgbfocdefnaa


namespace Go.Proofs.Ytkojgbfocdefnaa

/-- What differs at a key: what was there, what is there now. -/
abbrev Ch := Nat × (Option (Int × Int) × Option (Int × Int))

/-- What differs from a tree to another one, rising. -/
def Tr.dif (a b : Tr) (n p : Nat) : List Ch := (List.range (16 ^ (n + 1))).filterMap fun r => if a.get n r = b.get n r then none else some (p + r, (a.get n r, b.get n r))

theorem dif_self (a : Tr) (n p : Nat) : a.dif a n p = [] := by
  unfold Tr.dif
  rw [List.filterMap_eq_nil_iff]
  intro r _
  simp

theorem mem_dif {a b : Tr} {n p : Nat} {c : Ch} : c ∈ a.dif b n p ↔ ∃ r, r < 16 ^ (n + 1) ∧ a.get n r ≠ b.get n r ∧ c = (p + r, (a.get n r, b.get n r)) := by
  unfold Tr.dif
  rw [List.mem_filterMap]
  constructor
  · rintro ⟨r, hr, h⟩
    split at h
    · cases h
    · rename_i hne
      exact ⟨r, by simpa using hr, hne, (Option.some.inj h).symm⟩
  · rintro ⟨r, hr, hne, rfl⟩
    exact ⟨r, by simpa using hr, by rw [if_neg hne]⟩

theorem pair_filterMap {β : Type} {f : Nat → Option (Nat × β)} {p : Nat} (hb : ∀ i e, f i = some e → e.1 = p + i) : ∀ m, ((List.range m).filterMap f).Pairwise fun a b => a.1 < b.1
  | 0 => by simp
  | m + 1 => by
    rw [List.range_succ, List.filterMap_append, List.pairwise_append]
    refine ⟨pair_filterMap hb m, ?_, ?_⟩
    · cases h : f m <;> simp [h]
    · intro x hx y hy
      obtain ⟨i, hi, ei⟩ := List.mem_filterMap.1 hx
      obtain ⟨j, hj, ej⟩ := List.mem_filterMap.1 hy
      have := hb i x ei
      have := hb j y ej
      simp at hi hj
      omega

theorem dif_rises (a b : Tr) (n p : Nat) : (a.dif b n p).Pairwise fun x y => x.1 < y.1 := by
  unfold Tr.dif
  refine pair_filterMap (p := p) (fun i e h => ?_) _
  split at h
  · cases h
  · rw [← Option.some.inj h]

theorem get_none (n r : Nat) : Tr.nil.get n r = none := by cases n <;> rfl

theorem ents_range_eq {n : Nat} {t : Tr} (hw : t.wf n) (p : Nat) : t.ents n p = (List.range (16 ^ (n + 1))).filterMap fun r => (t.get n r).map fun v => (p + r, v) := by
  refine rises_ext (ents_rises n hw p) (pair_filterMap (p := p) (fun i e h => ?_) _) fun e => ?_
  · cases hg : t.get n i with
    | none => rw [hg] at h; cases h
    | some v => rw [hg] at h; rw [← Option.some.inj h]
  · obtain ⟨k, v⟩ := e
    rw [ents_mem n hw, List.mem_filterMap]
    constructor
    · rintro ⟨r, hr, rfl, hg⟩
      exact ⟨r, by simpa using hr, by rw [hg]; rfl⟩
    · rintro ⟨r, hr, h⟩
      cases hg : t.get n r with
      | none => rw [hg] at h; cases h
      | some v' =>
        rw [hg] at h
        have := Option.some.inj h
        exact ⟨r, by simpa using hr, (congrArg Prod.fst this).symm, by rw [hg]; exact congrArg some (congrArg Prod.snd this)⟩

def gainC (e : Nat × (Int × Int)) : Ch := (e.1, (none, some e.2))
def loseC (e : Nat × (Int × Int)) : Ch := (e.1, (some e.2, none))

theorem dif_gain {n : Nat} {b : Tr} (hw : b.wf n) (p : Nat) : Tr.nil.dif b n p = (b.ents n p).map gainC := by
  rw [ents_range_eq hw, List.map_filterMap]
  unfold Tr.dif
  congr 1
  funext r
  rw [get_none]
  cases h : b.get n r with
  | none => rfl
  | some v => rfl
theorem dif_lose {n : Nat} {a : Tr} (hw : a.wf n) (p : Nat) : a.dif .nil n p = (a.ents n p).map loseC := by
  rw [ents_range_eq hw, List.map_filterMap]
  unfold Tr.dif
  congr 1
  funext r
  rw [get_none]
  cases h : a.get n r with
  | none => rfl
  | some v => rfl

theorem range_mul (m : Nat) : ∀ k, List.range (k * m) = (List.range k).flatMap fun i => (List.range m).map (i * m + ·)
  | 0 => by simp
  | k + 1 => by
    rw [Nat.add_mul, Nat.one_mul, List.range_add, range_mul m k, List.range_succ, List.flatMap_append]
    simp

theorem get_at {t : Tr} {n : Nat} (hw : t.wf (n + 1)) {i r : Nat} (hi : i < 16) (hr : r < 16 ^ (n + 1)) : t.get (n + 1) (i * 16 ^ (n + 1) + r) = (t.kid i).get n r := by
  have hd : dg (i * 16 ^ (n + 1) + r) (n + 1) = i := by
    unfold dg
    rw [Nat.mul_comm, Nat.mul_add_div (Nat.pos_of_ne_zero (by simp)), Nat.div_eq_of_lt hr, Nat.add_zero, Nat.mod_eq_of_lt hi]
  rw [get_kid hw, hd, get_shift (wf_kid hw hi) i r hr]

theorem filterMap_flat {α β γ : Type} (f : β → Option γ) (g : α → List β) (l : List α) : (l.flatMap g).filterMap f = l.flatMap fun a => (g a).filterMap f := by
  induction l with
  | nil => rfl
  | cons a l ih => simp [List.filterMap_append, ih]
theorem flatMap_congr' {α β : Type} {f g : α → List β} {l : List α} (h : ∀ a ∈ l, f a = g a) : l.flatMap f = l.flatMap g := by
  induction l with
  | nil => rfl
  | cons a l ih => rw [List.flatMap_cons, List.flatMap_cons, h a (by simp), ih (fun b hb => h b (by simp [hb]))]
theorem filterMap_congr' {α β : Type} {f g : α → Option β} {l : List α} (h : ∀ a ∈ l, f a = g a) : l.filterMap f = l.filterMap g := by
  induction l with
  | nil => rfl
  | cons a l ih => rw [List.filterMap_cons, List.filterMap_cons, h a (by simp), ih (fun b hb => h b (by simp [hb]))]

/-- The changes below a node's children ahead of place j. -/
def difs (a b : Tr) (n p j : Nat) : List Ch := (List.range j).flatMap fun i => (a.kid i).dif (b.kid i) n (p + i * 16 ^ (n + 1))
theorem difs_zero (a b : Tr) (n p : Nat) : difs a b n p 0 = [] := rfl
theorem difs_succ (a b : Tr) (n p j : Nat) : difs a b n p (j + 1) = difs a b n p j ++ (a.kid j).dif (b.kid j) n (p + j * 16 ^ (n + 1)) := by
  unfold difs
  rw [List.range_succ, List.flatMap_append]
  simp
theorem difs_prefix (a b : Tr) (n p : Nat) {j k : Nat} (h : j ≤ k) : difs a b n p j <+: difs a b n p k := by
  obtain ⟨m, rfl⟩ : ∃ m, k = j + m := ⟨k - j, by omega⟩
  clear h
  induction m with
  | zero => exact List.prefix_refl _
  | succ m ih =>
    refine List.IsPrefix.trans ih ?_
    rw [show j + (m + 1) = (j + m) + 1 from rfl, difs_succ]
    exact List.prefix_append _ _
theorem dif_node {a b : Tr} {n : Nat} (ha : a.wf (n + 1)) (hb : b.wf (n + 1)) (p : Nat) : a.dif b (n + 1) p = difs a b n p 16 := by
  unfold Tr.dif difs
  rw [show 16 ^ (n + 1 + 1) = 16 * 16 ^ (n + 1) from by rw [Nat.pow_succ]; omega, range_mul, filterMap_flat]
  refine flatMap_congr' fun i hi => ?_
  have hi16 : i < 16 := by simpa using hi
  rw [List.filterMap_map]
  refine filterMap_congr' fun r hr => ?_
  have hr' : r < 16 ^ (n + 1) := by simpa using hr
  simp only [Function.comp, get_at ha hi16 hr', get_at hb hi16 hr', Nat.add_assoc]

/-- What a shelf holds at a place. -/
def Tr.at (t : Tr) (i : Nat) : Option (Int × Int) := if t.th i = true then some (t.vk i, t.vn i) else none
/-- The changes of two shelves ahead of place j. -/
def difl (a b : Tr) (p j : Nat) : List Ch := (List.range j).filterMap fun i => if a.at i = b.at i then none else some (p + i, (a.at i, b.at i))
theorem difl_zero (a b : Tr) (p : Nat) : difl a b p 0 = [] := rfl
theorem difl_same {a b : Tr} {p j : Nat} (h : a.at j = b.at j) : difl a b p (j + 1) = difl a b p j := by
  unfold difl
  rw [List.range_succ, List.filterMap_append]
  simp [h]
theorem difl_other {a b : Tr} {p j : Nat} (h : a.at j ≠ b.at j) : difl a b p (j + 1) = difl a b p j ++ [(p + j, (a.at j, b.at j))] := by
  unfold difl
  rw [List.range_succ, List.filterMap_append]
  simp [h]
theorem difl_prefix (a b : Tr) (p : Nat) {j k : Nat} (h : j ≤ k) : difl a b p j <+: difl a b p k := by
  obtain ⟨m, rfl⟩ : ∃ m, k = j + m := ⟨k - j, by omega⟩
  clear h
  induction m with
  | zero => exact List.prefix_refl _
  | succ m ih =>
    refine List.IsPrefix.trans ih ?_
    rw [show j + (m + 1) = (j + m) + 1 from rfl]
    by_cases h : a.at (j + m) = b.at (j + m)
    · rw [difl_same h]; exact List.prefix_refl _
    · rw [difl_other h]; exact List.prefix_append _ _
theorem dif_leaf {a b : Tr} (ha : a.wf 0) (hb : b.wf 0) (p : Nat) : a.dif b 0 p = difl a b p 16 := by
  unfold Tr.dif difl
  refine filterMap_congr' fun i hi => ?_
  have hi16 : i < 16 := by simpa using hi
  have hd : dg i 0 = i := by rw [dg_zero]; omega
  rw [get_leaf ha, get_leaf hb, hd]
  rfl

/-- Two maps with no difference hold the same. -/
theorem dif_nil_iff {a b : Tr} (ha : a.wf 7) (hb : b.wf 7) : a.dif b 7 0 = [] ↔ a.ents 7 0 = b.ents 7 0 := by
  constructor
  · intro h
    rw [ents_range_eq ha, ents_range_eq hb]
    refine filterMap_congr' fun r hr => ?_
    by_cases e : a.get 7 r = b.get 7 r
    · rw [e]
    · exfalso
      have : ((0 + r, (a.get 7 r, b.get 7 r)) : Ch) ∈ a.dif b 7 0 := mem_dif.2 ⟨r, by simpa using hr, e, rfl⟩
      rw [h] at this
      cases this
  · intro h
    rw [List.eq_nil_iff_forall_not_mem]
    rintro c hc
    obtain ⟨r, hr, hne, -⟩ := mem_dif.1 hc
    apply hne
    have hh : ∀ v, a.get 7 r = some v ↔ b.get 7 r = some v := fun v => by
      have h1 := mem_all ha (k := r) (v := v)
      have h2 := mem_all hb (k := r) (v := v)
      rw [h] at h1
      rw [h1] at h2
      constructor
      · intro e; exact (h2.1 ⟨hr, e⟩).2
      · intro e; exact (h2.2 ⟨hr, e⟩).2
    cases e1 : a.get 7 r with
    | none =>
      cases e2 : b.get 7 r with
      | none => rfl
      | some v => have := (hh v).2 e2; rw [e1] at this; cases this
    | some v => exact ((hh v).1 e1).symm

end Go.Proofs.Ytkojgbfocdefnaa


namespace Go.Proofs.Ytkojgbfocdefnaa
open Go.RowKit

theorem del_snoc (P : List (Nat × (Int × Int))) (e : Nat × (Int × Int)) (id : Nat) : del (P ++ [e]) id = del P id ++ (if e.1 = id then [] else [e]) := by
  unfold del
  rw [List.filter_append]
  by_cases h : e.1 = id <;> simp [h]
theorem less_of {P : List (Nat × (Int × Int))} {id : Nat} (h : ∀ e ∈ P, e.1 ≤ id) : P.filter (fun e => decide (e.1 < id)) = del P id := by
  unfold del
  refine List.filter_congr fun e he => ?_
  have := h e he
  rw [decide_eq_decide]
  omega
theorem more_none {P : List (Nat × (Int × Int))} {id : Nat} (h : ∀ e ∈ P, e.1 ≤ id) : P.filter (fun e => decide (id < e.1)) = [] := by
  rw [List.filter_eq_nil_iff]
  intro e he
  have := h e he
  simp
  omega
theorem ins_all {P : List (Nat × (Int × Int))} {id : Nat} (v : Int × Int) (h : ∀ e ∈ P, e.1 ≤ id) : ins P id v = del P id ++ [(id, v)] := by
  unfold ins
  rw [less_of h, more_none h]
theorem ins_above {P : List (Nat × (Int × Int))} {e : Nat × (Int × Int)} {id : Nat} (v : Int × Int) (h : id < e.1) : ins (P ++ [e]) id v = ins P id v ++ [e] := by
  unfold ins
  rw [List.filter_append, List.filter_append]
  have h1 : ¬ e.1 < id := by omega
  simp [h, h1]
theorem ins_at {P : List (Nat × (Int × Int))} {e : Nat × (Int × Int)} {id : Nat} (v : Int × Int) (h : e.1 = id) : ins (P ++ [e]) id v = ins P id v := by
  unfold ins
  rw [List.filter_append, List.filter_append]
  simp [h]

/-- What laid has of the first entries. -/
def LaidI (id : Nat) (v : Int × Int) (gone : Bool) (P out : List (Nat × (Int × Int))) (dn : Bool) : Prop :=
  (gone = true ∧ dn = true ∧ out = del P id) ∨ (gone = false ∧ dn = true ∧ out = ins P id v ∧ ∃ e ∈ P, id < e.1) ∨ (gone = false ∧ dn = false ∧ out = del P id ∧ ∀ e ∈ P, e.1 ≤ id)

theorem laid_start (id : Nat) (v : Int × Int) (gone : Bool) : LaidI id v gone [] [] gone := by
  cases gone
  · exact .inr (.inr ⟨rfl, rfl, rfl, by simp⟩)
  · exact .inl ⟨rfl, rfl, rfl⟩
theorem laid_skip {id : Nat} {v : Int × Int} {gone dn : Bool} {P out : List (Nat × (Int × Int))} {e : Nat × (Int × Int)} (h : LaidI id v gone P out dn) (he : e.1 = id) : LaidI id v gone (P ++ [e]) out dn := by
  rcases h with ⟨h1, h2, rfl⟩ | ⟨h1, h2, rfl, e0, h3, h4⟩ | ⟨h1, h2, rfl, h3⟩
  · exact .inl ⟨h1, h2, by rw [del_snoc, if_pos he, List.append_nil]⟩
  · exact .inr (.inl ⟨h1, h2, by rw [ins_at v he], e0, by simp [h3], h4⟩)
  · refine .inr (.inr ⟨h1, h2, by rw [del_snoc, if_pos he, List.append_nil], fun x hx => ?_⟩)
    rcases List.mem_append.1 hx with hx | hx
    · exact h3 x hx
    · obtain rfl : x = e := by simpa using hx
      omega
theorem laid_plain {id : Nat} {v : Int × Int} {gone dn : Bool} {P out : List (Nat × (Int × Int))} {e : Nat × (Int × Int)} (hR : Rises (P ++ [e])) (h : LaidI id v gone P out dn) (he : e.1 ≠ id) (hd : dn = true ∨ ¬ id < e.1) : LaidI id v gone (P ++ [e]) (out ++ [e]) dn := by
  rcases h with ⟨h1, h2, rfl⟩ | ⟨h1, h2, rfl, e0, h3, h4⟩ | ⟨h1, h2, rfl, h3⟩
  · exact .inl ⟨h1, h2, by rw [del_snoc, if_neg he]⟩
  · have := (List.pairwise_append.1 hR).2.2 e0 h3 e (by simp)
    exact .inr (.inl ⟨h1, h2, by rw [ins_above v (by omega)], e0, by simp [h3], h4⟩)
  · have hle : ¬ id < e.1 := by
      rcases hd with hd | hd
      · rw [h2] at hd; cases hd
      · exact hd
    refine .inr (.inr ⟨h1, h2, by rw [del_snoc, if_neg he], fun x hx => ?_⟩)
    rcases List.mem_append.1 hx with hx | hx
    · exact h3 x hx
    · obtain rfl : x = e := by simpa using hx
      omega
theorem laid_put {id : Nat} {v : Int × Int} {gone : Bool} {P out : List (Nat × (Int × Int))} {e : Nat × (Int × Int)} (h : LaidI id v gone P out false) (he : id < e.1) : LaidI id v gone (P ++ [e]) (out ++ [(id, v)] ++ [e]) true := by
  rcases h with ⟨-, h2, -⟩ | ⟨-, h2, -⟩ | ⟨h1, -, rfl, h3⟩
  · cases h2
  · cases h2
  · exact .inr (.inl ⟨h1, rfl, by rw [ins_above v he, ins_all v h3], e, by simp, he⟩)
theorem laid_done {id : Nat} {v : Int × Int} {gone : Bool} {P out : List (Nat × (Int × Int))} (h : LaidI id v gone P out true) : out = stepL P id v gone := by
  rcases h with ⟨h1, -, h3⟩ | ⟨h1, -, h3, -⟩ | ⟨-, h2, -⟩
  · rw [h3, stepL, if_pos h1]
  · rw [h3, stepL, if_neg (by simp [h1])]
  · cases h2
theorem laid_last {id : Nat} {v : Int × Int} {gone : Bool} {P out : List (Nat × (Int × Int))} (h : LaidI id v gone P out false) : out ++ [(id, v)] = stepL P id v gone := by
  rcases h with ⟨-, h2, -⟩ | ⟨-, h2, -⟩ | ⟨h1, -, rfl, h3⟩
  · cases h2
  · cases h2
  · rw [stepL, if_neg (by simp [h1]), ins_all v h3]
theorem laid_length {id : Nat} {v : Int × Int} {gone dn : Bool} {P out : List (Nat × (Int × Int))} (h : LaidI id v gone P out dn) : out.length ≤ P.length + 1 := by
  have hi := length_ins P id v
  have hd := length_del P id
  rcases h with ⟨-, -, rfl⟩ | ⟨-, -, rfl, -⟩ | ⟨-, -, rfl, -⟩ <;> omega

theorem one3 (k : Nat) (x y : Int) : ∀ u ∈ ([.int .u32 (k : Int), .int .i64 x, .int .i64 y] : List Value), u.oneCell' = true := by
  intro u hu
  simp at hu
  rcases hu with rfl | rfl | rfl <;> rfl
theorem own_base {w : World} {base base' n size : Nat} {e : TypeId} {v : Value} {xs : List Value} (h : w.ownsRow base e size v n xs) (hb : base' ≤ base) : w.ownsRow base' e size v n xs := by
  obtain ⟨h1, h2 | ⟨g, cap, cur, h3, h4, h5⟩⟩ := h
  · exact ⟨h1, .inl h2⟩
  · exact ⟨h1, .inr ⟨g, cap, cur, h3, by omega, h5⟩⟩
theorem appended {V A X B : World} {base k : Nat} {x y : Int} {v v' : Value} {out : List (Nat × (Int × Int))} (hA : A = X.alloc (.cells #[.int .u32 (k : Int), .int .i64 x, .int .i64 y] 98)) (hs : base ≤ X.heap.size) (hown : X.ownsRow base 98 3 v out.length (flat3 out)) (hB : Below base V X) (hown' : B.ownsRow base 98 3 v' (out.length + 1) (flat3 out ++ [.int .u32 (k : Int), .int .i64 x, .int .i64 y])) (hg : A.grownBy B v.ownBlock) :
    B.ownsRow base 98 3 v' (out ++ [(k, (x, y))]).length (flat3 (out ++ [(k, (x, y))])) ∧ Below base V B ∧ base ≤ B.heap.size := by
  subst hA
  have hb := (hB.alloc hs (.cells #[.int .u32 (k : Int), .int .i64 x, .int .i64 y] 98)).grown hg (by simp; omega) (fun k hk => (hown.lt k hk).1)
  refine ⟨?_, hb, ?_⟩
  · rw [List.length_append, flat3_snoc]
    exact hown'
  · have := hg.size
    simp at this
    omega


end Go.Proofs.Ytkojgbfocdefnaa
