import Derived.Test.YtigjnodkpkkdmaaTVer2
import Derived.Test.YtigjnodkpkkdmaaTDifM
import Derived.RangeFuncCalls
import Derived.RangeFuncWrites
import Derived.Deep.RegionLaw
namespace Go.Proofs.Ytigjnodkpkkdmaa
open Go.RowKit

/-- A change as it lies in memory. -/
def chL (c : Ch) : List Value := [.int .u32 (c.1 : Int), .bool c.2.1.isSome, .bool c.2.2.isSome, .int .i64 (c.2.1.getD (0, 0)).1, .int .i64 (c.2.1.getD (0, 0)).2, .int .i64 (c.2.2.getD (0, 0)).1, .int .i64 (c.2.2.getD (0, 0)).2]
def flat7 (L : List Ch) : List Value := L.flatMap chL
theorem flat7_snoc (L : List Ch) (c : Ch) : flat7 (L ++ [c]) = flat7 L ++ chL c := by simp [flat7]
theorem infoC : (Try.prog.info? 87).map (fun i => (i.zero, i.size, i.bytes)) = some (some (.agg #[.int .u32 0, .bool false, .bool false, .int .i64 0, .int .i64 0, .int .i64 0, .int .i64 0]), 7, 40) := by kernel_rfl

def takerRowC (cv : Value) (stop most n : Int) (over deaf : Bool) : Array Value := #[.slice none 0 0, cv, .int .i64 stop, .int .i64 most, .int .i64 n, .bool over, .bool deaf]
/-- The block k is none of a taker's. -/
def offT (T k : Nat) (X : World) : Prop := k ≠ T ∧ ∀ cv : Value, X.cell? ⟨T, 1, none⟩ = some cv → cv.ownBlock ≠ some k

theorem cells7_at (W : World) (n : Nat) (hn : n = W.heap.size) (a b c d e f g : Value) (t : TypeId) : ∀ j u, ([a, b, c, d, e, f, g] : List Value)[j]? = some u → (W.alloc (.cells #[a, b, c, d, e, f, g] t)).cell? ((⟨n, 0, none⟩ : Addr).add j) = some u := by
  subst hn
  intro j u h
  match j, h with
  | 0, h => simpa [Addr.add] using h
  | 1, h => simpa [Addr.add] using h
  | 2, h => simpa [Addr.add] using h
  | 3, h => simpa [Addr.add] using h
  | 4, h => simpa [Addr.add] using h
  | 5, h => simpa [Addr.add] using h
  | 6, h => simpa [Addr.add] using h
  | j + 7, h => simp at h
theorem own_cells {w : World} {base n size : Nat} {e : TypeId} {v : Value} {xs : List Value} (h : w.ownsRow base e size v n xs) (j : Nat) (o : Obj) (hj : v.ownBlock = some j) (ho : w.heap[j]? = some o) : o.isCells = true := by
  obtain ⟨-, h | ⟨g, cap, cur, rfl, -, hb, -⟩⟩ := h
  · rw [h.1] at hj; cases hj
  · obtain rfl := Option.some.inj hj
    rw [hb] at ho
    rw [← Option.some.inj ho]
    rfl
theorem row_cells {w : World} {T : Nat} {cs : Array Value} {t : TypeId} {z : Nat × Nat} {o : Obj} (h : w.heap[T]? = some (.cells cs t z)) (ho : w.heap[T]? = some o) : o.isCells = true := by
  rw [h] at ho
  rw [← Option.some.inj ho]
  rfl

end Go.Proofs.Ytigjnodkpkkdmaa
