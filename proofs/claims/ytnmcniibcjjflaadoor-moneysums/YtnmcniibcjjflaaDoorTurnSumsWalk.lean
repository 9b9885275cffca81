import Derived.Test.YtnmcniibcjjflaaDoorTurnSumF2
import Derived.Test.YtnmcniibcjjflaaDoorTurnRow2a
import Derived.Test.YtnmcniibcjjflaaDoorTurnRefBracket2
namespace Go.Proofs.YtnmcniibcjjflaaDoor
open Go.RowKit Go.Shelf

theorem vals_other {w : World} {av : Option Addr} {vs : List (Int × Int)} {G : Nat} (hV : Vals w av vs) (hG : w.heap.size ≤ G) (X : World) (v : Value) (h : Vals X av vs) : Vals (X.setCell ⟨G, 1, none⟩ v) av vs := by
  refine ⟨h.1, ?_⟩
  rcases h.2 with h | ⟨b, off, rfl, hbl, hc⟩
  · exact .inl h
  · by_cases hvs : vs = []
    · exact .inl hvs
    · have hb : b ≠ G := by
        rcases hV.2 with h | ⟨b', off', he, hlt, -⟩
        · exact absurd h hvs
        · injection he with he; injection he with he1; omega
      have hh : (X.setCell ⟨G, 1, none⟩ v).heap[b]? = X.heap[b]? := Below.heap_setCell _ _ _ b hb
      exact .inr ⟨b, off, rfl, Nat.lt_of_lt_of_le hbl (by simp), fun i hi => ⟨(World.cell?_of_block hh).trans (hc i hi).1, (World.cell?_of_block hh).trans (hc i hi).2⟩⟩

theorem cells4_atV (W : World) (n : Nat) (hn : n = W.heap.size) (a b c d : Value) (t : TypeId) : ∀ j u, ([a, b, c, d] : List Value)[j]? = some u → (W.alloc (.cells #[a, b, c, d] t)).cell? ((⟨n, 0, none⟩ : Addr).add j) = some u := by
  subst hn
  intro j u h
  match j, h with
  | 0, h => simpa [Addr.add] using h
  | 1, h => simpa [Addr.add] using h
  | 2, h => simpa [Addr.add] using h
  | 3, h => simpa [Addr.add] using h
  | j + 4, h => simp at h

theorem own_capV {w : World} {base n size g cap : Nat} {e : TypeId} {xs : List Value} (h : w.ownsRow base e size (.slice (some ⟨g, 0, none⟩) n cap) n xs) : n ≤ cap := by
  obtain ⟨_, h | ⟨g', cap', cur, h1, _, _, h2, _⟩⟩ := h
  · simp at h
  · simp at h1
    omega

theorem infoV : (Tryd.prog.info? 24).map (fun i => (i.zero, i.size, i.bytes)) = some (some (.agg #[.int .i64 0, .int .i64 0]), 2, 16) := by kernel_rfl
theorem Vals.flat {w : World} {b off : Nat} {L : List (Int × Int)} (h : Vals w (some ⟨b, off, none⟩) L) : ∀ j u, (flat2 L)[j]? = some u → w.cell? ((⟨b, off, none⟩ : Addr).add j) = some u := by
  intro j u hj
  have hl : j < L.length * 2 := by rw [← flat2_len]; exact (List.getElem?_eq_some_iff.1 hj).1
  obtain ⟨q0, q1⟩ := flat2_at L (j / 2) (by omega)
  obtain ⟨b', off', he, -, hc⟩ := h.at (i := 0) (by omega)
  injection he with he
  injection he with he1 he2
  subst he1 he2
  obtain ⟨c0, c1⟩ := hc (j / 2) (by omega)
  have ea : (⟨b, off, none⟩ : Addr).add j = ⟨b, off + j, none⟩ := by simp [Addr.add]
  rw [ea]
  rcases (show j % 2 = 0 ∨ j % 2 = 1 by omega) with e | e
  · have ej : j / 2 * 2 = j := by omega
    rw [ej] at q0 c0
    rw [c0, ← q0, hj]
  · have ej : j / 2 * 2 + 1 = j := by omega
    rw [Nat.add_assoc, ej] at c1
    rw [ej] at q1
    rw [c1, ← q1, hj]

set_option maxRecDepth 100000 in
set_option maxHeartbeats 600000 in
theorem sums_long (kind : Int) (a : Option Addr) (cap : Nat) (vs : List (Int × Int)) (W : World) (h8 : 16384 < vs.length) :
    Calls Tryd.prog 3 #[.int .i64 kind, .slice a vs.length cap] W fun e W' => e = .returned (.bool true) ∧ Below W.heap.size W W' := by
  have g0 : (16384 : Int) < vs.length := by omega
  go_enter Tryd.func3, Tryd.ntmps3
  go_wp2
  go_ret
  exact ⟨rfl, Below.refl _ _⟩

end Go.Proofs.YtnmcniibcjjflaaDoor
