import Derived.Test.YtaecodgmfmijlaaDoorDMonthsT
import Derived.Test.YtaecodgmfmijlaaDoorDHeld
namespace Go.Proofs.YtaecodgmfmijlaaDoor
open Go.RowKit

/-- A list of months in memory, four cells each. -/
def Row4 (w : World) (v : Value) (l : List Pc) : Prop := ∃ a cap, v = .slice a l.length cap ∧ (l = [] ∨ ∃ g, a = some ⟨g, 0, none⟩ ∧ g < w.heap.size ∧ ∀ i, i < l.length →
  w.cell? ⟨g, i * 4, none⟩ = some (.int .i64 (l.getD i ⟨0, 0, 0, 0⟩).y) ∧ w.cell? ⟨g, i * 4 + 1, none⟩ = some (.int .i64 (l.getD i ⟨0, 0, 0, 0⟩).m) ∧ w.cell? ⟨g, i * 4 + 2, none⟩ = some (.int .i64 (l.getD i ⟨0, 0, 0, 0⟩).d) ∧ w.cell? ⟨g, i * 4 + 3, none⟩ = some (.int .i64 (l.getD i ⟨0, 0, 0, 0⟩).c))

theorem Row4.later {w w' : World} {v : Value} {l : List Pc} (h : Row4 w v l) (hb : Below w.heap.size w w') : Row4 w' v l := by
  obtain ⟨a, cap, rfl, h | ⟨g, rfl, hg, hc⟩⟩ := h
  · exact ⟨a, cap, rfl, .inl h⟩
  · refine ⟨_, cap, rfl, .inr ⟨g, rfl, Nat.lt_of_lt_of_le hg hb.size, fun i hi => ?_⟩⟩
    obtain ⟨h0, h1, h2, h3⟩ := hc i hi
    exact ⟨(hb.cell (p := ⟨g, i * 4, none⟩) hg).trans h0, (hb.cell (p := ⟨g, i * 4 + 1, none⟩) hg).trans h1, (hb.cell (p := ⟨g, i * 4 + 2, none⟩) hg).trans h2, (hb.cell (p := ⟨g, i * 4 + 3, none⟩) hg).trans h3⟩

theorem flatP_at : ∀ (l : List Pc) (i : Nat), i < l.length → (flatP l)[i * 4]? = some (.int .i64 (l.getD i ⟨0, 0, 0, 0⟩).y) ∧ (flatP l)[i * 4 + 1]? = some (.int .i64 (l.getD i ⟨0, 0, 0, 0⟩).m) ∧ (flatP l)[i * 4 + 2]? = some (.int .i64 (l.getD i ⟨0, 0, 0, 0⟩).d) ∧ (flatP l)[i * 4 + 3]? = some (.int .i64 (l.getD i ⟨0, 0, 0, 0⟩).c)
  | [], i, h => by simp at h
  | x :: l, 0, _ => by simp [flatP]
  | x :: l, i + 1, h => by
    have := flatP_at l i (by simpa using h)
    have e : flatP (x :: l) = [.int .i64 x.y, .int .i64 x.m, .int .i64 x.d, .int .i64 x.c] ++ flatP l := by simp [flatP]
    rw [e, show (i + 1) * 4 = i * 4 + 4 by omega]
    simpa [Nat.add_right_comm] using this

theorem row4_of {w : World} {base : Nat} {e : TypeId} {v : Value} {l : List Pc} (h : w.ownsRow base e 4 v l.length (flatP l)) : Row4 w v l := by
  have hl := h.lt
  have h0 := h
  obtain ⟨_, h1 | ⟨g, cap, cur, rfl, _⟩⟩ := h
  · exact ⟨none, 0, by rw [h1.2]; exact h1.1, .inl (List.eq_nil_of_length_eq_zero h1.2)⟩
  · refine ⟨_, cap, rfl, .inr ⟨g, rfl, (hl g rfl).2, fun i hi => ?_⟩⟩
    obtain ⟨q0, q1, q2, q3⟩ := flatP_at l i hi
    exact ⟨(h0.cellAt _ (by omega)).trans q0, (h0.cellAt _ (by omega)).trans q1, (h0.cellAt _ (by omega)).trans q2, (h0.cellAt _ (by omega)).trans q3⟩

theorem stb_row4 {v : Value} {l : List Pc} : Stb (fun X => Row4 X v l) := fun _ _ h hb => h.later hb

/-- The cells of the i-th month. -/
def At4 (w : World) (g i : Nat) (x : Pc) : Prop := w.cell? ⟨g, i * 4, none⟩ = some (.int .i64 x.y) ∧ w.cell? ⟨g, i * 4 + 1, none⟩ = some (.int .i64 x.m) ∧ w.cell? ⟨g, i * 4 + 2, none⟩ = some (.int .i64 x.d) ∧ w.cell? ⟨g, i * 4 + 3, none⟩ = some (.int .i64 x.c)
theorem At4.later {w w' : World} {g i : Nat} {x : Pc} (h : At4 w g i x) (hb : Below w.heap.size w w') : At4 w' g i x := by
  have hg := World.block_lt_of_cell? _ _ h.1
  obtain ⟨h0, h1, h2, h3⟩ := h
  exact ⟨(hb.cell (p := ⟨g, i * 4, none⟩) hg).trans h0, (hb.cell (p := ⟨g, i * 4 + 1, none⟩) hg).trans h1, (hb.cell (p := ⟨g, i * 4 + 2, none⟩) hg).trans h2, (hb.cell (p := ⟨g, i * 4 + 3, none⟩) hg).trans h3⟩
theorem Row4.some {w : World} {v : Value} {l : List Pc} (h : Row4 w v l) (hl : l ≠ []) : ∃ g cap, v = .slice (some ⟨g, 0, none⟩) l.length cap ∧ ∀ i, i < l.length → At4 w g i (l.getD i ⟨0, 0, 0, 0⟩) := by
  obtain ⟨a, cap, rfl, h | ⟨g, rfl, hg, hc⟩⟩ := h
  · exact absurd h hl
  · exact ⟨g, cap, rfl, hc⟩
theorem Row4.none {w : World} {v : Value} (h : Row4 w v []) : ∃ a cap, v = .slice a 0 cap := by
  obtain ⟨a, cap, rfl, _⟩ := h
  exact ⟨a, cap, rfl⟩
theorem At4.new (W : World) (a b c d : Int) (t : TypeId) : At4 (W.alloc (.cells #[.int .i64 a, .int .i64 b, .int .i64 c, .int .i64 d] t)) W.heap.size 0 ⟨a, b, c, d⟩ := ⟨by simp, by simp, by simp, by simp⟩

theorem cutP_no {most : Int} (h : most ≤ 0) (l : List Pc) : cutP most l = l := by unfold cutP; rw [if_neg (by omega)]
theorem cutP_all {most : Int} {l : List Pc} (h : (l.length : Int) ≤ most) : cutP most l = l := by
  unfold cutP
  split
  · exact List.take_of_length_le (by omega)
  · rfl
theorem cutP_some {s : Nat} {l : List Pc} (h : 0 < s) (h2 : s < l.length) : (cutP (s : Int) l).length = s ∧ ∀ i, i < s → (cutP (s : Int) l).getD i ⟨0, 0, 0, 0⟩ = l.getD i ⟨0, 0, 0, 0⟩ := by
  unfold cutP
  rw [if_pos (by omega), Int.toNat_natCast]
  refine ⟨by rw [List.length_take]; omega, fun i hi => ?_⟩
  rw [List.getD_eq_getElem?_getD, List.getD_eq_getElem?_getD, List.getElem?_take, if_pos hi]

end Go.Proofs.YtaecodgmfmijlaaDoor
