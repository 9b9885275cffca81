import Derived.Test.YtkojgbfocdefnaaHFn4
import Derived.Test.YtkojgbfocdefnaaHSame
namespace Go.Proofs.Ytkojgbfocdefnaa
open Go.RowKit

def flat2 (vs : Nat → Nat) (p k : Nat) : List Value := (List.range k).flatMap fun (i : Nat) => [.int .i64 ((i : Int) - (p : Int)), .pointer (some ⟨vs i, 0, none⟩)]
theorem flat2_succ (vs : Nat → Nat) (p k : Nat) : flat2 vs p (k + 1) = flat2 vs p k ++ [.int .i64 ((k : Int) - (p : Int)), .pointer (some ⟨vs k, 0, none⟩)] := by
  simp [flat2, List.range_succ]
theorem flat2_at (vs : Nat → Nat) (p : Nat) : ∀ k i, i < k → (flat2 vs p k)[i * 2]? = some (.int .i64 ((i : Int) - (p : Int))) ∧ (flat2 vs p k)[i * 2 + 1]? = some (.pointer (some ⟨vs i, 0, none⟩))
  | 0, i, h => by omega
  | k + 1, i, h => by
    have hl : ∀ k, (flat2 vs p k).length = k * 2 := fun k => by
      induction k with
      | zero => rfl
      | succ k ih => rw [flat2_succ, List.length_append, ih]; simp; omega
    rw [flat2_succ]
    by_cases e : i = k
    · subst e
      rw [List.getElem?_append_right (by rw [hl]; omega), List.getElem?_append_right (by rw [hl]; omega), hl, Nat.sub_self, show i * 2 + 1 - i * 2 = 1 by omega]
      exact ⟨rfl, rfl⟩
    · rw [List.getElem?_append_left (by rw [hl]; omega), List.getElem?_append_left (by rw [hl]; omega)]
      exact flat2_at vs p k i (by omega)
theorem infoV : (Try.prog.info? 89).map (fun i => (i.zero, i.size, i.bytes)) = some (some (.agg #[.int .i64 0, .pointer none]), 2, 16) := by kernel_rfl

/-- The four cells of versions, and what was given. -/
def VJ (W : World) (B : Nat) (vs : Nat → Nat) (p k : Nat) (X : World) : Prop := ∃ ov, X.cell? ⟨B, 0, none⟩ = some (.int .i64 0) ∧ X.heap[B + 1]? = some (.cells #[ov] 83 (0, 0)) ∧ X.heap[B + 1 + 1]? = some (.cells #[.bool false] 4 (0, 0)) ∧ X.heap[B + 1 + 1 + 1]? = some (.cells #[.bool true] 4 (0, 0)) ∧ X.ownsRow (B + 4) 89 2 ov k (flat2 vs p k) ∧ W.heap.size ≤ B ∧ Below W.heap.size W X

theorem cells2_at (W : World) (n : Nat) (hn : n = W.heap.size) (a b : Value) (t : TypeId) : ∀ j u, ([a, b] : List Value)[j]? = some u → (W.alloc (.cells #[a, b] t)).cell? ((⟨n, 0, none⟩ : Addr).add j) = some u := by
  subst hn
  intro j u h
  match j, h with
  | 0, h => simpa [Addr.add] using h
  | 1, h => simpa [Addr.add] using h
  | j + 2, h => simp at h

set_option maxRecDepth 4000 in
set_option maxHeartbeats 2000000 in
theorem versions1_any (W : World) (B : Nat) (vs : Nat → Nat) (p k : Nat) (hk : k < 100) (w : World) (h : VJ W B vs p k w) :
    Calls Try.prog 52 #[.int .i64 ((k : Int) - (p : Int)), .pointer (some ⟨vs k, 0, none⟩), .pointer (some ⟨B + 1 + 1, 0, none⟩), .pointer (some ⟨B + 1 + 1 + 1, 0, none⟩), .pointer (some ⟨B + 1, 0, none⟩), .pointer (some ⟨B, 0, none⟩)] w fun e w' => e = .returned (.bool true) ∧ VJ W B vs p (k + 1) w' := by
  obtain ⟨ov, hc0, hT, hO, hW, hown, hWB, hBl⟩ := h
  obtain ⟨ea, el, ec, rfl⟩ := own_slice hown
  have hTl : B + 1 < w.heap.size := (Array.getElem?_eq_some_iff.1 hT).1
  have hOl : B + 1 + 1 < w.heap.size := (Array.getElem?_eq_some_iff.1 hO).1
  have hWl : B + 1 + 1 + 1 < w.heap.size := (Array.getElem?_eq_some_iff.1 hW).1
  obtain ⟨i0, hi, hz0, hz1, hz2⟩ := info_parts infoV
  obtain ⟨n, hn⟩ : ∃ n : Int, Hid (n = (k : Int) - (p : Int)) := ⟨_, rfl⟩
  rw [← hn.out]
  have c0 : w.cell? ⟨B + 1, 0, none⟩ = some (.slice ea el ec) := cell_of_row _ _ 0 _ _ _ hT
  have o0 : w.cell? ⟨B + 1 + 1, 0, none⟩ = some (.bool false) := cell_of_row _ _ 0 _ _ _ hO
  have hb2 : Below w.heap.size w (w.alloc (.cells #[.int .i64 n, .pointer (some ⟨vs k, 0, none⟩)] 89)) := (Below.refl _ _).alloc (Nat.le_refl _) _
  have hownA := own_laterB hown hb2
  have hTA := (hb2.block _ hTl).trans hT
  have hOA := (hb2.block _ hOl).trans hO
  have hWA := (hb2.block _ hWl).trans hW
  have hcA := cells2_at w w.heap.size rfl (.int .i64 n) (.pointer (some ⟨vs k, 0, none⟩)) 89
  have hlt4 : ∀ j, (Value.slice ea el ec).ownBlock = some j → B + 4 ≤ j := fun j e => (hown.lt j e).1
  have hz : ((k : Int) + 1 == 0) = false := by simp; omega
  have hz2' : ¬ (200 : Int) ≤ (k : Int) + 1 := by omega
  have hz3 : decide ((200 : Int) ≤ (k : Int) + 1) = false := decide_eq_false hz2'
  have hB0 : B < w.heap.size := by omega
  go_enter Try.func52, Try.ntmps52
  have tok1 : True := trivial
  go_wp2_with (at_builtin; have _u := tok1; clear tok1; go_loud (refine wpList_append_own (P := Try.prog) _ rfl _ _ 83 rfl (B + 4) 89 i0 _ 2 16 Try.underlying83 hi hz0 hz1 hz2 rfl (by decide) _ k (flat2 vs p k) rfl hownA ⟨w.heap.size, 0, none⟩ 1 1 [.int .i64 n, .pointer (some ⟨vs k, 0, none⟩)] rfl rfl hcA (fun u hu => by { simp at hu; rcases hu with rfl | rfl <;> rfl }) (by unfold maxLen; omega) (by omega) (by have := hb2.size; omega) ?_); intro v2 w2 hown2 hgrow2 _h2; obtain ⟨g2, cap2, rfl⟩ := own_some hown2 (by omega); have hneB : ∀ j, j < B + 4 → some j ≠ (Value.slice ea el ec).ownBlock := (fun j hj e => by have := hlt4 j e.symm; omega); have hT2 := (hgrow2.block (B + 1) (by have := hb2.size; omega) (hneB _ (by omega))).trans hTA; have hO2 := (hgrow2.block (B + 1 + 1) (by have := hb2.size; omega) (hneB _ (by omega))).trans hOA; have hW2 := (hgrow2.block (B + 1 + 1 + 1) (by have := hb2.size; omega) (hneB _ (by omega))).trans hWA; have c2 : w2.cell? ⟨B + 1, 0, none⟩ = some (.slice ea el ec) := cell_of_row _ _ 0 _ _ _ hT2; have f2 := frozen_of_row hT2 0; have m2 : w2.cell? ⟨B, 0, none⟩ = some (.int .i64 0) := ((grown_cell hgrow2 (by have := hb2.size; omega) (hneB B (by omega)).symm).trans (hb2.cell (p := ⟨B, 0, none⟩) hB0)).trans hc0; have o2 : w2.cell? ⟨B + 1 + 1, 0, none⟩ = some (.bool false) := cell_of_row _ _ 0 _ _ _ hO2; have fo2 := frozen_of_row hO2 0)
  go_ret
  refine ⟨rfl, ?_⟩
  have g1 := grown_set w2 (B + 1) 0 (.slice (some ⟨g2, 0, none⟩) (k + 1) cap2)
  have hT3 := heap_setCell_same w2 (B + 1) 0 _ _ (.slice (some ⟨g2, 0, none⟩) (k + 1) cap2) hT2
  have hl2 := hgrow2.size
  have hl3 := hb2.size
  have n2 : ∀ j, j < B + 4 → (Value.slice (some ⟨g2, 0, none⟩) (k + 1) cap2).ownBlock = none ∨ (Value.slice (some ⟨g2, 0, none⟩) (k + 1) cap2).ownBlock ≠ some j := fun j hj => .inr (fun e => by have := (hown2.lt j e).1; omega)
  have own3 := hown2.kept g1 (n2 _ (by omega))
  have hO3 := (g1.block (B + 1 + 1) (by omega) (fun e => by have := Option.some.inj e; omega)).trans hO2
  have hW3 := (g1.block (B + 1 + 1 + 1) (by omega) (fun e => by have := Option.some.inj e; omega)).trans hW2
  have m3 := (grown_cell (o := 0) g1 (b := B) (by omega) (fun e => by have := Option.some.inj e; omega)).trans m2
  have hB2 : Below B w w2 := (hb2.mono (Nat.le_of_lt hB0)).grown hgrow2 (by omega) (fun j hj => by have := hlt4 j hj; omega)
  have hB3 := hB2.setCell (p := ⟨B + 1, 0, none⟩) (by simp) (.slice (some ⟨g2, 0, none⟩) (k + 1) cap2)
  have hs3 := g1.size
  generalize w2.setCell ⟨B + 1, 0, none⟩ (.slice (some ⟨g2, 0, none⟩) (k + 1) cap2) = X at *
  have g2' := grown_set X (B + 1 + 1) 0 (.bool false)
  have hO4 := heap_setCell_same X (B + 1 + 1) 0 _ _ (.bool false) hO3
  refine ⟨_, (grown_cell (o := 0) g2' (b := B) (by omega) (fun e => by have := Option.some.inj e; omega)).trans m3, (g2'.block (B + 1) (by omega) (fun e => by have := Option.some.inj e; omega)).trans hT3, hO4, (g2'.block (B + 1 + 1 + 1) (by omega) (fun e => by have := Option.some.inj e; omega)).trans hW3, ?_, hWB, hBl.trans ((hB3.setCell (p := ⟨B + 1 + 1, 0, none⟩) (by simp; omega) (.bool false)).mono hWB)⟩
  rw [flat2_succ, ← hn.out]
  exact own3.kept g2' (n2 _ (by omega))

theorem VJ.drewN {W X : World} {B : Nat} {vs : Nat → Nat} {p k : Nat} (h : VJ W B vs p k X) (n : Nat) : VJ W B vs p k (X.drewN n) := by
  obtain ⟨ov, h1, h2, h3, h4, h5, h6, h7⟩ := h
  have hb := below_drewN (Below.refl X.heap.size X) n
  exact ⟨ov, (hb.cell (p := ⟨B, 0, none⟩) (World.block_lt_of_cell? _ _ h1)).trans h1, (hb.block _ (Array.getElem?_eq_some_iff.1 h2).1).trans h2, (hb.block _ (Array.getElem?_eq_some_iff.1 h3).1).trans h3, (hb.block _ (Array.getElem?_eq_some_iff.1 h4).1).trans h4, own_laterB h5 hb, h6, below_drewN h7 n⟩

set_option maxRecDepth 4000 in
set_option maxHeartbeats 2000000 in
theorem through_any (W : World) (B hb g cap : Nat) (vs : Nat → Nat) (p : Nat) (Ls : List Es) (hl : Ls.length ≤ 33) (hH : HB W hb (some ⟨g, 0, none⟩) Ls.length cap (p : Int)) (hM : Maps W g 0 vs Ls) (hp : p < 100) (w : World) (h : VJ W B vs p 0 w) :
    Calls Try.prog 18 #[.pointer (some ⟨hb, 0, none⟩), .func (.func 52) #[] #[.pointer (some ⟨B + 1 + 1, 0, none⟩), .pointer (some ⟨B + 1 + 1 + 1, 0, none⟩), .pointer (some ⟨B + 1, 0, none⟩), .pointer (some ⟨B, 0, none⟩)]] w fun e w' => e = .returned (.tuple #[]) ∧ VJ W B vs p Ls.length w' := by
  have hB : ∀ k X, VJ W B vs p k X → Below W.heap.size W X := fun k X ⟨_, _, _, _, _, _, _, hb⟩ => hb
  have c0 : w.cell? ⟨hb, 0, none⟩ = some (.slice (some ⟨g, 0, none⟩) Ls.length cap) := cell_of_row _ _ 0 _ _ _ (hH.later (hB _ _ h))
  have c1 : w.cell? ⟨hb, 1, none⟩ = some (.int .i64 (p : Int)) := cell_of_row _ _ 1 _ _ _ (hH.later (hB _ _ h))
  go_enter Try.func18, Try.ntmps18
  go_wp2
  go_loopw [16] (fun iv X => ∃ j : Nat, j ≤ Ls.length ∧ iv = .int .i64 (j : Int) ∧ VJ W B vs p j X) (fun iv _ => Ls.length - (intOf iv).toNat)
  case atStart => exact ⟨0, by omega, rfl, h⟩
  case round =>
    obtain ⟨j, hj, rfl, hJ⟩ := hrel
    clear h c0 c1
    by_cases hlt : j < Ls.length
    · have hlt' : (j : Int) < (Ls.length : Int) := by omega
      have hj0 : (0 : Int) ≤ (j : Int) := by omega
      have cj := ((hM.later (hB _ _ hJ)).2 j hlt).1
      rw [Nat.zero_add] at cj
      have hwr : IntKind.i64.wrap ((j : Int) - (p : Int)) = (j : Int) - (p : Int) := by rw [IntKind.wrap_i64]; omega
      have hwr3 : wrap64 ((j : Int) - (p : Int)) = (j : Int) - (p : Int) := by unfold wrap64; omega
      have hv := versions1_any W B vs p j (by omega) _ hJ
      go_wp2_with (go_at_call 52; refine hv.mono ?_; rintro e w5 ⟨rfl, hJ5⟩)
      go_roundw
      case rel => exact ⟨j + 1, by omega, by go_num, hJ5⟩
      case measure => simp [intOf]; omega
    · have hlt' : ¬ (j : Int) < (Ls.length : Int) := by omega
      obtain rfl : j = Ls.length := by omega
      go_wp2
      go_end0
      exact ⟨rfl, hJ⟩

end Go.Proofs.Ytkojgbfocdefnaa
