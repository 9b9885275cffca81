import Derived.Test.YtigjnodkpkkdmaaHKnown
namespace Go.Proofs.Ytigjnodkpkkdmaa
open Go.RowKit

theorem AllAt.drop {W : World} {lo g off cap : Nat} {Ls : List Es} (h : AllAt W lo (.slice (some ⟨g, off, none⟩) Ls.length cap) Ls) {n : Nat} (hn : n ≤ Ls.length) : AllAt W lo (.slice (some ⟨g, off + n, none⟩) (Ls.length - n) (cap - n)) (Ls.drop n) := by
  obtain ⟨g', off', cap', ss, e, h0, h1, h2, h3⟩ := h
  injection e with e1 e2 e3
  injection e1 with e1
  injection e1 with e4 e5
  subst e3 e4 e5
  refine ⟨g, off + n, cap - n, fun i => ss (n + i), by rw [List.length_drop], by rw [List.length_drop]; omega, h1, h2, fun i hi => ?_⟩
  rw [List.length_drop] at hi
  have := h3 (n + i) (by omega)
  rw [List.getElem_drop, show off + n + i = off + (n + i) by omega]
  exact this
theorem wrI {x y : Int} (h : x = y) (h1 : -1000000 ≤ y) (h2 : y ≤ 1000000) : IntKind.i64.wrap x = y ∧ wrap64 x = y := by
  subst h
  constructor
  · rw [IntKind.wrap_i64]; omega
  · unfold wrap64; omega
theorem bnums (p r m q l : Nat) (hq : q + m = p) (hr : p + 1 + r = l) (hl : l ≤ 33) : ¬ (m : Int) < 0 ∧ ¬ (p : Int) < (m : Int) ∧ (IntKind.i64.wrap ((p : Int) - (m : Int)) = (q : Int) ∧ wrap64 ((p : Int) - (m : Int)) = (q : Int)) ∧ (IntKind.i64.wrap ((p : Int) + (r : Int)) = (p : Int) + (r : Int) ∧ wrap64 ((p : Int) + (r : Int)) = (p : Int) + (r : Int)) ∧ (IntKind.i64.wrap ((p : Int) + (r : Int) + 1) = (l : Int) ∧ wrap64 ((p : Int) + (r : Int) + 1) = (l : Int)) ∧ (IntKind.i64.wrap (-(q : Int)) = -(q : Int) ∧ wrap64 (-(q : Int)) = -(q : Int)) ∧ (m : Int) ≤ (l : Int) ∧ (0 : Int) ≤ (m : Int) ∧ m ≤ l ∧ q + 1 + r = l - m ∧ l - m ≤ 33 :=
  ⟨by omega, by omega, wrI (by omega) (by omega) (by omega), wrI rfl (by omega) (by omega), wrI (by omega) (by omega) (by omega), wrI rfl (by omega) (by omega), by omega, by omega, by omega, by omega, by omega⟩
/-- What all tells, with the list's place. -/
theorem all_at (hb : Nat) (Ls : List Es) (p : Nat) (z : Int) (hz : z = -(p : Int)) (w : World) (h : HistAt w hb Ls p) :
    Calls Try.prog 7 #[.pointer (some ⟨hb, 0, none⟩)] w fun e w' => ∃ g off cap, e = .returned (.tuple #[.slice (some ⟨g, off, none⟩) Ls.length cap, .int .i64 z]) ∧ Ls.length ≤ cap ∧ AllAt w' w.heap.size (.slice (some ⟨g, off, none⟩) Ls.length cap) Ls ∧ Below w.heap.size w w' := by
  subst hz
  refine (all_hist hb Ls p w h).mono ?_
  rintro e w' ⟨v, rfl, hA, hb'⟩
  have hA' := hA
  obtain ⟨g, off, cap, ss, rfl, hc, -⟩ := hA
  exact ⟨g, off, cap, rfl, hc, hA', hb'⟩

end Go.Proofs.Ytigjnodkpkkdmaa
