import Derived.Test.YtnmcniibcjjflaaDoorJoin4
import Derived.Maps.AppendAt
namespace Go.Proofs.YtnmcniibcjjflaaDoor
open Go.RowKit

/-- The cells of a list of pairs. -/
def flat2 (l : List (Int × Int)) : List Value := l.flatMap fun x => [.int .i64 x.1, .int .i64 x.2]
theorem flat2_snoc (l : List (Int × Int)) (x : Int × Int) : flat2 (l ++ [x]) = flat2 l ++ [.int .i64 x.1, .int .i64 x.2] := by simp [flat2]
theorem flat2_len (l : List (Int × Int)) : (flat2 l).length = l.length * 2 := by induction l with | nil => rfl | cons x l ih => simp [flat2] at ih ⊢; omega
theorem flat2_at : ∀ (l : List (Int × Int)) (i : Nat), i < l.length → (flat2 l)[i * 2]? = some (.int .i64 (l.getD i (0, 0)).1) ∧ (flat2 l)[i * 2 + 1]? = some (.int .i64 (l.getD i (0, 0)).2)
  | [], i, h => by simp at h
  | x :: l, 0, _ => by simp [flat2]
  | x :: l, i + 1, h => by
    have := flat2_at l i (by simpa using h)
    have e : flat2 (x :: l) = [.int .i64 x.1, .int .i64 x.2] ++ flat2 l := by simp [flat2]
    rw [e, show (i + 1) * 2 = i * 2 + 2 by omega]
    simpa [Nat.add_right_comm] using this
theorem infoB : (Tryd.prog.info? 54).map (fun i => (i.zero, i.size, i.bytes)) = some (some (.agg #[.int .i64 0, .int .i64 0]), 2, 16) := by kernel_rfl
theorem own_some {w : World} {base n size : Nat} {e : TypeId} {v : Value} {xs : List Value} (h : w.ownsRow base e size v n xs) (hn : 0 < n) : ∃ g cap, v = .slice (some ⟨g, 0, none⟩) n cap := by
  obtain ⟨_, h | ⟨g, cap, cur, rfl, _⟩⟩ := h
  · omega
  · exact ⟨g, cap, rfl⟩
theorem own_at {w : World} {base g cap : Nat} {e : TypeId} {L : List (Int × Int)} (h : w.ownsRow base e 2 (.slice (some ⟨g, 0, none⟩) L.length cap) L.length (flat2 L)) {i : Nat} (hi : i < L.length) : w.cell? ⟨g, i * 2, none⟩ = some (.int .i64 (L.getD i (0, 0)).1) ∧ w.cell? ⟨g, i * 2 + 1, none⟩ = some (.int .i64 (L.getD i (0, 0)).2) := by
  obtain ⟨q0, q1⟩ := flat2_at L i hi
  exact ⟨(h.cellAt _ (by omega)).trans q0, (h.cellAt _ (by omega)).trans q1⟩
theorem vals_of_own {w : World} {base g cap : Nat} {e : TypeId} {L : List (Int × Int)} (h : w.ownsRow base e 2 (.slice (some ⟨g, 0, none⟩) L.length cap) L.length (flat2 L)) (hm : L.length ≤ maxLen) : Vals w (some ⟨g, 0, none⟩) L :=
  ⟨hm, .inr ⟨g, 0, rfl, (h.lt g rfl).2, fun i hi => by simpa using own_at h hi⟩⟩
theorem cells2_at (W : World) (n : Nat) (hn : n = W.heap.size) (a b : Value) (t : TypeId) : ∀ j u, ([a, b] : List Value)[j]? = some u → (W.alloc (.cells #[a, b] t)).cell? ((⟨n, 0, none⟩ : Addr).add j) = some u := by
  subst hn
  intro j u h
  match j, h with
  | 0, h => simpa [Addr.add] using h
  | 1, h => simpa [Addr.add] using h
  | j + 2, h => simp at h
theorem flat2_one (L : List (Int × Int)) : ∀ u ∈ flat2 L, u.oneCell' = true := by
  intro u hu
  simp [flat2] at hu
  obtain ⟨a, b, -, h | h⟩ := hu <;> subst h <;> rfl
theorem grown_of_belowB {W W' : World} (h : Below W.heap.size W W') : W.grownBy W' none := ⟨h.os, h.tape, h.output, h.size, fun k hk _ => h.block k hk⟩
theorem own_laterB {w w' : World} {base n size : Nat} {e : TypeId} {v : Value} {xs : List Value} (h : w.ownsRow base e size v n xs) (hb : Below w.heap.size w w') : w'.ownsRow base e size v n xs := h.kept (grown_of_belowB hb) (by cases v.ownBlock <;> simp)

end Go.Proofs.YtnmcniibcjjflaaDoor
