import Derived.Test.YtnmcniibcjjflaaDoorTurnMishap
import Derived.Test.YtnmcniibcjjflaaDoorJoin4
import Derived.Deep.SlicePairs
import Derived.SizedLaws
namespace Go.Proofs.YtnmcniibcjjflaaDoor
open Go.ChangeShapes Go.WideShapes Go.ChangeAt Go.WideMaps Go.WideElems Go.RowKit Go.Joins

theorem laidOutP : laidOutB Tryd.prog = true := by kernel_rfl
theorem cBand : Tryd.prog.cellsOf 54 = 2 := by kernel_rfl
theorem bBand : Tryd.prog.bytesOf 54 = 16 := by kernel_rfl

set_option maxRecDepth 100000 in
/-- A list of bands that came in. -/
theorem open_bands {H : Type} {enc : TypeId × Value → H} {W : World} {base : Nat} {v : Value} {d : DataW H} {ps : List MemPlace} (hval : Value.okWide Tryd.prog W .any base 36 v)
    (h : DataW.Trod enc Tryd.prog W 0 (fun _ => true) true 36 v d ps) (_hsz : ∀ elems spare, d = .slice elems spare → (elems.length + spare.length) * Tryd.prog.bytesOf 54 ≤ reachBytes) :
    ∃ a cap zs, v = .slice a zs.length cap ∧ (a = none → cap = 0) ∧ Vals W a zs := by
  obtain ⟨a0, len, cap, rfl⟩ := okWide_slice Tryd.underlying36 hval
  obtain ⟨fuel, hf⟩ := h
  rcases Go.Deep.open_slice_pairs Tryd.underlying36 Tryd.underlying54 cBand rfl rfl cI64 cI64 hf with ⟨hcs, hx⟩ | ⟨a, len', cap', m, n, V0, V1, D0, D1, P0, P1, hcs, _, hl, hm, hmm, hx, hcell⟩
  · simp [Value.cells] at hcs
    obtain ⟨rfl, rfl, rfl⟩ := hcs
    exact ⟨none, 0, [], rfl, fun _ => rfl, by simp, .inl rfl⟩
  · simp [Value.cells] at hcs
    obtain ⟨rfl, rfl, rfl⟩ := hcs
    simp only [if_true] at hmm
    rw [hmm] at hcell
    have key : ∀ i, i < cap → ∃ q : Int × Int, W.cell? (a.add (i * 2)) = some (.int .i64 q.1) ∧ W.cell? (a.add (i * 2 + 1)) = some (.int .i64 q.2) := fun i hi => by
      obtain ⟨h0, h1, t0, t1⟩ := hcell i hi
      obtain ⟨x, ex, _, _⟩ := DataW.trod_int Tryd.underlying2 t0
      obtain ⟨y, ey, _, _⟩ := DataW.trod_int Tryd.underlying2 t1
      simp at ex ey
      exact ⟨(x, y), by rw [h0, ex], by rw [h1, ey]⟩
    obtain ⟨q, hq⟩ := Go.Deep.choose_lt key
    have hlen : ((List.range len).map q).length = len := by simp
    refine ⟨some a, cap, (List.range len).map q, by rw [hlen], fun h => (nomatch h), by rw [hlen]; unfold maxLen at *; omega, ?_⟩
    by_cases h0 : len = 0
    · left
      rw [h0]
      rfl
    · obtain ⟨b, off, spot⟩ := a
      have hspot : spot = none := by simpa [Addr.add] using World.cell?_spot (hq 0 (by omega)).1
      subst hspot
      have hc : ∀ i, i < len → W.cell? ⟨b, off + i * 2, none⟩ = some (.int .i64 (q i).1) ∧ W.cell? ⟨b, off + i * 2 + 1, none⟩ = some (.int .i64 (q i).2) := fun i hi => by
        have := hq i (by omega)
        rw [add_plain, add_plain] at this
        exact this
      refine .inr ⟨b, off, rfl, World.block_lt_of_cell? _ _ (hc 0 (by omega)).1, fun i hi => ?_⟩
      rw [hlen] at hi
      have := hc i hi
      simpa [List.getD, hi] using this

end Go.Proofs.YtnmcniibcjjflaaDoor


namespace Go.Proofs.YtnmcniibcjjflaaDoor
open Go.ChangeShapes Go.WideShapes Go.ChangeAt Go.WideMaps Go.WideElems Go.RowKit Go.Joins


set_option maxRecDepth 100000 in
/-- A list of values that came in. -/
theorem open_vals {H : Type} {enc : TypeId × Value → H} {W : World} {base : Nat} {v : Value} {d : DataW H} {ps : List MemPlace} (hval : Value.okWide Tryd.prog W .any base 22 v)
    (h : DataW.Trod enc Tryd.prog W 0 (fun _ => true) true 22 v d ps) (_hsz : ∀ elems spare, d = .slice elems spare → (elems.length + spare.length) * Tryd.prog.bytesOf 24 ≤ reachBytes) :
    ∃ a cap zs, v = .slice a zs.length cap ∧ (a = none → cap = 0) ∧ Vals W a zs := by
  obtain ⟨a0, len, cap, rfl⟩ := okWide_slice Tryd.underlying22 hval
  obtain ⟨fuel, hf⟩ := h
  rcases Go.Deep.open_slice_pairs Tryd.underlying22 Tryd.underlying24 cVal rfl rfl cInt cI64 hf with ⟨hcs, hx⟩ | ⟨a, len', cap', m, n, V0, V1, D0, D1, P0, P1, hcs, _, hl, hm, hmm, hx, hcell⟩
  · simp [Value.cells] at hcs
    obtain ⟨rfl, rfl, rfl⟩ := hcs
    exact ⟨none, 0, [], rfl, fun _ => rfl, by simp, .inl rfl⟩
  · simp [Value.cells] at hcs
    obtain ⟨rfl, rfl, rfl⟩ := hcs
    simp only [if_true] at hmm
    rw [hmm] at hcell
    have key : ∀ i, i < cap → ∃ q : Int × Int, W.cell? (a.add (i * 2)) = some (.int .i64 q.1) ∧ W.cell? (a.add (i * 2 + 1)) = some (.int .i64 q.2) := fun i hi => by
      obtain ⟨h0, h1, t0, t1⟩ := hcell i hi
      obtain ⟨x, ex, _, _⟩ := DataW.trod_int Tryd.underlying3 t0
      obtain ⟨y, ey, _, _⟩ := DataW.trod_int Tryd.underlying2 t1
      simp at ex ey
      exact ⟨(x, y), by rw [h0, ex], by rw [h1, ey]⟩
    obtain ⟨q, hq⟩ := Go.Deep.choose_lt key
    have hlen : ((List.range len).map q).length = len := by simp
    refine ⟨some a, cap, (List.range len).map q, by rw [hlen], fun h => (nomatch h), by rw [hlen]; unfold maxLen at *; omega, ?_⟩
    by_cases h0 : len = 0
    · left
      rw [h0]
      rfl
    · obtain ⟨b, off, spot⟩ := a
      have hspot : spot = none := by simpa [Addr.add] using World.cell?_spot (hq 0 (by omega)).1
      subst hspot
      have hc : ∀ i, i < len → W.cell? ⟨b, off + i * 2, none⟩ = some (.int .i64 (q i).1) ∧ W.cell? ⟨b, off + i * 2 + 1, none⟩ = some (.int .i64 (q i).2) := fun i hi => by
        have := hq i (by omega)
        rw [add_plain, add_plain] at this
        exact this
      refine .inr ⟨b, off, rfl, World.block_lt_of_cell? _ _ (hc 0 (by omega)).1, fun i hi => ?_⟩
      rw [hlen] at hi
      have := hc i hi
      simpa [List.getD, hi] using this

end Go.Proofs.YtnmcniibcjjflaaDoor
