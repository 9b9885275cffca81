import Derived.Test.YtnmcniibcjjflaaDoorJoin11
import Derived.Test.YtnmcniibcjjflaaDoorJoin8
namespace Go.Proofs.YtnmcniibcjjflaaDoor
open Go.RowKit

abbrev cellsV (k n : Int) : Obj := .cells #[.int .i64 k, .int .i64 n] 24
abbrev cellsV2 (k n k' n' : Int) : Obj := .cells #[.int .i64 k, .int .i64 n, .int .i64 k', .int .i64 n'] 24
abbrev cellsV3 (k n k' n' k2 n2 : Int) : Obj := .cells #[.int .i64 k, .int .i64 n, .int .i64 k', .int .i64 n', .int .i64 k2, .int .i64 n2] 24
abbrev ints2 (a b : Int) : Obj := .cells #[.int .i64 a, .int .i64 b] 3
abbrev ints3 (a b c : Int) : Obj := .cells #[.int .i64 a, .int .i64 b, .int .i64 c] 3
abbrev ints5 (a b c d e : Int) : Obj := .cells #[.int .i64 a, .int .i64 b, .int .i64 c, .int .i64 d, .int .i64 e] 3

theorem row_one (X : World) (k n : Int) : Row (X.alloc (cellsV k n)) X.heap.size [(k, n)] := by
  refine ⟨by simp [maxLen], by simp, fun i hi => ?_⟩
  obtain rfl : i = 0 := by simpa using hi
  constructor <;> (rw [World.cell?_alloc_at _ _ _ _ rfl]; rfl)
theorem row_two (X : World) (k n k' n' : Int) : Row (X.alloc (cellsV2 k n k' n')) X.heap.size [(k, n), (k', n')] := by
  refine ⟨by simp [maxLen], by simp, fun i hi => ?_⟩
  have : i = 0 ∨ i = 1 := by simp at hi; omega
  rcases this with rfl | rfl <;> constructor <;> (rw [World.cell?_alloc_at _ _ _ _ rfl]; rfl)
theorem row_three (X : World) (k n k' n' k2 n2 : Int) : Row (X.alloc (cellsV3 k n k' n' k2 n2)) X.heap.size [(k, n), (k', n'), (k2, n2)] := by
  refine ⟨by simp [maxLen], by simp, fun i hi => ?_⟩
  have : i = 0 ∨ i = 1 ∨ i = 2 := by simp at hi; omega
  rcases this with rfl | rfl | rfl <;> constructor <;> (rw [World.cell?_alloc_at _ _ _ _ rfl]; rfl)
theorem ints_two (X : World) (a b : Int) : Ints (X.alloc (ints2 a b)) X.heap.size [a, b] := by
  refine ⟨by simp [maxLen], by simp, fun i hi => ?_⟩
  have : i = 0 ∨ i = 1 := by simp at hi; omega
  rcases this with rfl | rfl <;> (rw [World.cell?_alloc_at _ _ _ _ rfl]; rfl)
theorem ints_three (X : World) (a b c : Int) : Ints (X.alloc (ints3 a b c)) X.heap.size [a, b, c] := by
  refine ⟨by simp [maxLen], by simp, fun i hi => ?_⟩
  have : i = 0 ∨ i = 1 ∨ i = 2 := by simp at hi; omega
  rcases this with rfl | rfl | rfl <;> (rw [World.cell?_alloc_at _ _ _ _ rfl]; rfl)
theorem ints_five (X : World) (a b c d e : Int) : Ints (X.alloc (ints5 a b c d e)) X.heap.size [a, b, c, d, e] := by
  refine ⟨by simp [maxLen], by simp, fun i hi => ?_⟩
  have : i = 0 ∨ i = 1 ∨ i = 2 ∨ i = 3 ∨ i = 4 := by simp at hi; omega
  rcases this with rfl | rfl | rfl | rfl | rfl <;> (rw [World.cell?_alloc_at _ _ _ _ rfl]; rfl)
theorem Row.of {w : World} {b c : Nat} {vs : List (Int × Int)} (h : Row w b vs) (e : b = c) : Row w c vs := e ▸ h
theorem Ints.of {w : World} {b c : Nat} {vs : List Int} (h : Ints w b vs) (e : b = c) : Ints w c vs := e ▸ h
theorem Row.alloc {w : World} {b : Nat} {vs : List (Int × Int)} (h : Row w b vs) (o : Obj) : Row (w.alloc o) b vs := h.later ((Below.refl _ _).alloc (Nat.le_refl _) _)

/-- One operand and the result; two; three. -/
theorem start1 (w : World) (k0 n0 : Int) {w1 : World} (hb : Below ((w.alloc (cellsV k0 n0)).alloc (cellsV 0 0)).heap.size ((w.alloc (cellsV k0 n0)).alloc (cellsV 0 0)) w1) :
    Box w1 w.heap.size (.int .i64 k0) (.int .i64 n0) ∧ Box w1 (w.heap.size + 1) (.int .i64 0) (.int .i64 0) ∧ Below w.heap.size w w1 :=
  ⟨((Box.new w _ _ _).alloc _).later hb, ((Box.new (w.alloc _) _ _ _).later hb).of (by simp), below_step (((Below.refl _ _).alloc (Nat.le_refl _) _).alloc (by simp) _) hb⟩
theorem start2 (w : World) (k0 n0 k1 n1 : Int) {w1 : World} (hb : Below (((w.alloc (cellsV k0 n0)).alloc (cellsV k1 n1)).alloc (cellsV 0 0)).heap.size (((w.alloc (cellsV k0 n0)).alloc (cellsV k1 n1)).alloc (cellsV 0 0)) w1) :
    Box w1 w.heap.size (.int .i64 k0) (.int .i64 n0) ∧ Box w1 (w.heap.size + 1) (.int .i64 k1) (.int .i64 n1) ∧ Box w1 (w.heap.size + 1 + 1) (.int .i64 0) (.int .i64 0) ∧ Below w.heap.size w w1 :=
  ⟨(((Box.new w _ _ _).alloc _).alloc _).later hb, (((Box.new (w.alloc _) _ _ _).alloc _).later hb).of (by simp), ((Box.new ((w.alloc _).alloc _) _ _ _).later hb).of (by simp),
    below_step ((((Below.refl _ _).alloc (Nat.le_refl _) _).alloc (by simp) _).alloc (by simp; omega) _) hb⟩
theorem start3 (w : World) (k0 n0 k1 n1 k2 n2 : Int) {w1 : World} (hb : Below ((((w.alloc (cellsV k0 n0)).alloc (cellsV k1 n1)).alloc (cellsV k2 n2)).alloc (cellsV 0 0)).heap.size ((((w.alloc (cellsV k0 n0)).alloc (cellsV k1 n1)).alloc (cellsV k2 n2)).alloc (cellsV 0 0)) w1) :
    Box w1 w.heap.size (.int .i64 k0) (.int .i64 n0) ∧ Box w1 (w.heap.size + 1) (.int .i64 k1) (.int .i64 n1) ∧ Box w1 (w.heap.size + 1 + 1) (.int .i64 k2) (.int .i64 n2) ∧ Box w1 (w.heap.size + 1 + 1 + 1) (.int .i64 0) (.int .i64 0) ∧ Below w.heap.size w w1 :=
  ⟨((((Box.new w _ _ _).alloc _).alloc _).alloc _).later hb, ((((Box.new (w.alloc _) _ _ _).alloc _).alloc _).later hb).of (by simp), (((Box.new ((w.alloc _).alloc _) _ _ _).alloc _).later hb).of (by simp), ((Box.new (((w.alloc _).alloc _).alloc _) _ _ _).later hb).of (by simp),
    below_step (((((Below.refl _ _).alloc (Nat.le_refl _) _).alloc (by simp) _).alloc (by simp; omega) _).alloc (by simp; omega) _) hb⟩

/-- A further block, then a call. -/
theorem over_alloc {X w1 : World} (o : Obj) (hb : Below (X.alloc o).heap.size (X.alloc o) w1) : Below X.heap.size X w1 := below_step ((Below.refl _ _).alloc (Nat.le_refl _) _) hb

end Go.Proofs.YtnmcniibcjjflaaDoor
