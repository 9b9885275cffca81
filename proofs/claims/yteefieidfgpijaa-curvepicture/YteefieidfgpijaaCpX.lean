import Derived.Test.YteefieidfgpijaaCpW
import Derived.Laws.Rows
import Derived.Deep.WholeRow
import Derived.Deep.MidRow
namespace Go.Proofs.Yteefieidfgpijaa.CF
open Go.RowKit
attribute [local go_sem] run_store_float

/-- A picture in memory: R tells each byte. -/
def Pic (w : World) (b : Nat) (R : Nat → Nat) : Prop := ∃ A : Array Value, w.heap[b]? = some (.cells A 70 (0, 0)) ∧ A.size = 2880 ∧ ∀ j, j < 2880 → A[j]? = some (.int .u8 (R j : Int))
theorem Pic.cell {w : World} {b : Nat} {R : Nat → Nat} (h : Pic w b R) {j : Nat} (hj : j < 2880) : w.cell? ⟨b, j, none⟩ = some (.int .u8 (R j : Int)) := by
  obtain ⟨A, h1, h2, h3⟩ := h
  rw [cell_of_row w b j A _ _ h1]
  exact h3 j hj
theorem Pic.frozen {w : World} {b : Nat} {R : Nat → Nat} (h : Pic w b R) (j : Nat) : w.frozen? ⟨b, j, none⟩ = false := by
  obtain ⟨A, h1, h2, h3⟩ := h
  exact frozen_of_row w b j A _ h1
theorem Pic.set {w : World} {b : Nat} {R : Nat → Nat} (h : Pic w b R) {k : Nat} (hk : k < 2880) (c : Nat) : Pic (w.setCell ⟨b, k, none⟩ (.int .u8 (c : Int))) b (fun j => if j = k then c else R j) := by
  obtain ⟨A, h1, h2, h3⟩ := h
  refine ⟨_, heap_setCell_same w b k A _ _ h1, by simp [h2], fun j hj => ?_⟩
  rw [Array.getElem?_setIfInBounds]
  by_cases e : k = j
  · subst e
    rw [if_pos rfl, if_pos (by omega)]
    show _ = some (Value.int .u8 (((if k = k then c else R k : Nat)) : Int))
    rw [if_pos rfl]
  · rw [if_neg e]
    show _ = some (Value.int .u8 (((if j = k then c else R j : Nat)) : Int))
    rw [if_neg (fun e2 : j = k => e e2.symm)]
    exact h3 j hj
theorem Pic.congr {w : World} {b : Nat} {R R' : Nat → Nat} (h : Pic w b R) (he : ∀ j, j < 2880 → R' j = R j) : Pic w b R' := by
  obtain ⟨A, h1, h2, h3⟩ := h
  exact ⟨A, h1, h2, fun j hj => by rw [he j hj]; exact h3 j hj⟩
theorem Pic.lt {w : World} {b : Nat} {R : Nat → Nat} (h : Pic w b R) : b < w.heap.size := by
  obtain ⟨A, h1, h2, h3⟩ := h
  exact (Array.getElem?_eq_some_iff.1 h1).1
theorem Pic.later {w w' : World} {b : Nat} {R : Nat → Nat} (h : Pic w b R) (hb : Below w.heap.size w w') : Pic w' b R := by
  have hl := h.lt
  obtain ⟨A, h1, h2, h3⟩ := h
  exact ⟨A, (hb.block b hl).trans h1, h2, h3⟩
/-- A row that is filled as far as k. -/
def fillR (R : Nat → Nat) (r k c : Nat) : Nat → Nat := fun j => if r * 72 ≤ j ∧ j < r * 72 + k then c else R j
theorem fillR_succ (R : Nat → Nat) (r k c : Nat) (j : Nat) : fillR R r (k + 1) c j = if j = r * 72 + k then c else fillR R r k c j := by
  unfold fillR
  by_cases h1 : j = r * 72 + k
  · rw [if_pos h1, if_pos (by omega)]
  · rw [if_neg h1]
    by_cases h2 : r * 72 ≤ j ∧ j < r * 72 + k
    · rw [if_pos h2, if_pos (by omega)]
    · rw [if_neg h2, if_neg (by omega)]
set_option maxHeartbeats 1000000 in
theorem fill_any (wide : Nat) (high x0 x1 : Int) (l g : Nat) (hw : wide ≤ 72) (b r c : Nat) (R : Nat → Nat) (hr : r < 40) (w : World) (h : Pic w b R) : Calls Try.prog 41 #[frV (wide : Int) high x0 x1 l g, .pointer (some ⟨b, r * 72, none⟩), .int .u8 (c : Int)] w fun e w' => e = .returned (.tuple #[]) ∧ Pic w' b (fillR R r wide c) ∧ Below b w w' := by
  have hbl := h.lt
  have hB : Below b w (w.alloc (.cells #[.int .i64 (wide : Int), .int .i64 high, .int .i64 x0, .int .i64 x1, .float .f32 l, .float .f32 g] 65)) := (Below.refl _ _).alloc (by omega) _
  have hP : Pic (w.alloc (.cells #[.int .i64 (wide : Int), .int .i64 high, .int .i64 x0, .int .i64 x1, .float .f32 l, .float .f32 g] 65)) b R := h.later ((Below.refl _ _).alloc (Nat.le_refl _) _)
  go_enter Try.func41, Try.ntmps41
  go_wp2
  go_loopw [9] (fun v wr => ∃ k : Nat, k ≤ wide ∧ v = .int .i64 (k : Int) ∧ Pic wr b (fillR R r k c) ∧ Below b w wr) (fun v _ => wide - (intOf v).toNat)
  case atStart => exact ⟨0, by omega, rfl, hP.congr (fun j _ => by unfold fillR; rw [if_neg (by omega)]), hB⟩
  case round =>
    clear hP hB
    obtain ⟨k, hk, rfl, hP, hB⟩ := hrel
    by_cases hlt : k < wide
    · have hlt' : (k : Int) < (wide : Int) := by omega
      have hk0 : (0 : Int) ≤ (k : Int) := by omega
      have hk72 : (k : Int) < 72 := by omega
      have c0 := hP.cell (j := r * 72 + k) (by omega)
      have f0 := hP.frozen (r * 72 + k)
      have hP2 := (hP.set (k := r * 72 + k) (by omega) c).congr (R' := fillR R r (k + 1) c) (fun j _ => fillR_succ R r k c j)
      have hB2 := hB.setCell (p := ⟨b, r * 72 + k, none⟩) (Nat.le_refl _) (.int .u8 (c : Int))
      generalize ((fillR R r k c (r * 72 + k) : Nat) : Int) = old at *
      go_wp2
      go_roundw
      case rel => exact ⟨k + 1, by omega, by go_num, hP2, hB2⟩
      case measure => simp [intOf]; omega
    · obtain rfl : k = wide := by omega
      have hlt' : ¬ (k : Int) < (k : Int) := by omega
      go_wp2
      exact bodyPost_end (v := .tuple #[]) (by simp [results, Try.results41, go_sem]) rfl ⟨rfl, hP, hB⟩
end Go.Proofs.Yteefieidfgpijaa.CF
