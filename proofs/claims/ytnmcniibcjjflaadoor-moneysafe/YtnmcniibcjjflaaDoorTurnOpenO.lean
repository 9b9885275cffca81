import Derived.Test.YtnmcniibcjjflaaDoorTurnPlaysWalk
import Derived.Test.YtnmcniibcjjflaaDoorJoin5
namespace Go.Proofs.YtnmcniibcjjflaaDoor
open Go.ChangeShapes Go.WideShapes Go.ChangeAt Go.WideMaps Go.WideElems Go.RowKit Go.Joins

theorem cOp : Tryd.prog.cellsOf 38 = 12 := by kernel_rfl
theorem cBs : Tryd.prog.cellsOf 36 = 1 := by kernel_rfl
theorem cVs : Tryd.prog.cellsOf 22 = 1 := by kernel_rfl

set_option maxRecDepth 100000 in
theorem vals_bands {H : Type} {enc : TypeId × Value → H} {W : World} {fuel : Nat} {cs : List Value} {x : DataW H × List MemPlace} (hf : DataW.trod enc Tryd.prog W 0 (fun _ => true) true fuel 36 cs = some x) :
    ∃ a cap zs, cs = [.slice a zs.length cap] ∧ Vals W a zs := by
  rcases Go.Deep.open_slice_pairs Tryd.underlying36 Tryd.underlying54 cBand rfl rfl cI64 cI64 hf with ⟨hcs, hx⟩ | ⟨a, len, cap, m, n, V0, V1, D0, D1, P0, P1, hcs, _, hl, hm, hmm, hx, hcell⟩
  · subst hcs
    exact ⟨none, 0, [], rfl, by simp, .inl rfl⟩
  · subst hcs
    simp only [if_true] at hmm
    rw [hmm] at hcell
    have key : ∀ i, i < cap → ∃ q : Int × Int, W.cell? (a.add (i * 2)) = some (.int .i64 q.1) ∧ W.cell? (a.add (i * 2 + 1)) = some (.int .i64 q.2) := fun i hi => by
      obtain ⟨h0, h1, t0, t1⟩ := hcell i hi
      obtain ⟨x, ex, _, _⟩ := DataW.trod_int Tryd.underlying2 t0
      obtain ⟨y, ey, _, _⟩ := DataW.trod_int Tryd.underlying2 t1
      simp at ex ey
      exact ⟨(x, y), by rw [h0, ex], by rw [h1, ey]⟩
    obtain ⟨q, hq⟩ := Go.Deep.choose_lt key
    have hlen : ((List.range len).map q).length = len := by simp
    refine ⟨some a, cap, (List.range len).map q, by rw [hlen], by rw [hlen]; unfold maxLen at *; omega, ?_⟩
    by_cases h0 : len = 0
    · left
      rw [h0]
      rfl
    · obtain ⟨b, off, spot⟩ := a
      have hspot : spot = none := by simpa [Addr.add] using World.cell?_spot (hq 0 (by omega)).1
      subst hspot
      have hc : ∀ i, i < len → W.cell? ⟨b, off + i * 2, none⟩ = some (.int .i64 (q i).1) ∧ W.cell? ⟨b, off + i * 2 + 1, none⟩ = some (.int .i64 (q i).2) := fun i hi => by
        have := hq i (by omega)
        rw [add_plain, add_plain] at this
        exact this
      refine .inr ⟨b, off, rfl, World.block_lt_of_cell? _ _ (hc 0 (by omega)).1, fun i hi => ?_⟩
      rw [hlen] at hi
      have := hc i hi
      simpa [List.getD, hi] using this

set_option maxRecDepth 100000 in
theorem vals_values {H : Type} {enc : TypeId × Value → H} {W : World} {fuel : Nat} {cs : List Value} {x : DataW H × List MemPlace} (hf : DataW.trod enc Tryd.prog W 0 (fun _ => true) true fuel 22 cs = some x) :
    ∃ a cap zs, cs = [.slice a zs.length cap] ∧ Vals W a zs := by
  rcases Go.Deep.open_slice_pairs Tryd.underlying22 Tryd.underlying24 cVal rfl rfl cInt cI64 hf with ⟨hcs, hx⟩ | ⟨a, len, cap, m, n, V0, V1, D0, D1, P0, P1, hcs, _, hl, hm, hmm, hx, hcell⟩
  · subst hcs
    exact ⟨none, 0, [], rfl, by simp, .inl rfl⟩
  · subst hcs
    simp only [if_true] at hmm
    rw [hmm] at hcell
    have key : ∀ i, i < cap → ∃ q : Int × Int, W.cell? (a.add (i * 2)) = some (.int .i64 q.1) ∧ W.cell? (a.add (i * 2 + 1)) = some (.int .i64 q.2) := fun i hi => by
      obtain ⟨h0, h1, t0, t1⟩ := hcell i hi
      obtain ⟨x, ex, _, _⟩ := DataW.trod_int Tryd.underlying3 t0
      obtain ⟨y, ey, _, _⟩ := DataW.trod_int Tryd.underlying2 t1
      simp at ex ey
      exact ⟨(x, y), by rw [h0, ex], by rw [h1, ey]⟩
    obtain ⟨q, hq⟩ := Go.Deep.choose_lt key
    have hlen : ((List.range len).map q).length = len := by simp
    refine ⟨some a, cap, (List.range len).map q, by rw [hlen], by rw [hlen]; unfold maxLen at *; omega, ?_⟩
    by_cases h0 : len = 0
    · left
      rw [h0]
      rfl
    · obtain ⟨b, off, spot⟩ := a
      have hspot : spot = none := by simpa [Addr.add] using World.cell?_spot (hq 0 (by omega)).1
      subst hspot
      have hc : ∀ i, i < len → W.cell? ⟨b, off + i * 2, none⟩ = some (.int .i64 (q i).1) ∧ W.cell? ⟨b, off + i * 2 + 1, none⟩ = some (.int .i64 (q i).2) := fun i hi => by
        have := hq i (by omega)
        rw [add_plain, add_plain] at this
        exact this
      refine .inr ⟨b, off, rfl, World.block_lt_of_cell? _ _ (hc 0 (by omega)).1, fun i hi => ?_⟩
      rw [hlen] at hi
      have := hc i hi
      simpa [List.getD, hi] using this

theorem val_of {H : Type} {enc : TypeId × Value → H} {W : World} {fuel : Nat} {u v : Value} {x : DataW H × List MemPlace} (hf : DataW.trod enc Tryd.prog W 0 (fun _ => true) true fuel 24 [u, v] = some x) : ∃ k n : Int, u = .int .i64 k ∧ v = .int .i64 n := by
  obtain ⟨xs, n, -, -, -, hl, hg⟩ := DataW.trod_struct Tryd.underlying24 hf
  match xs, hl with
  | [y0, y1], _ =>
    have g0 := hg 0 _ rfl
    have g1 := hg 1 _ rfl
    simp [cInt, cI64] at g0 g1
    obtain ⟨k, ek, _, _⟩ := DataW.trod_int Tryd.underlying3 g0
    obtain ⟨m, em, _, _⟩ := DataW.trod_int Tryd.underlying2 g1
    simp at ek em
    exact ⟨k, m, ek, em⟩

set_option maxRecDepth 100000 in
set_option maxHeartbeats 1000000 in
theorem op_of {H : Type} {enc : TypeId × Value → H} {W : World} {fuel : Nat} {cs : List Value} {x : DataW H × List MemPlace} {b off : Nat} (hc : ∀ j, j < 12 → W.cell? ⟨b, off + j, none⟩ = cs[j]?) (hcl : cs.length = 12)
    (hf : DataW.trod enc Tryd.prog W 0 (fun _ => true) true fuel 38 cs = some x) : ∃ o, OpAt W b off o := by
  obtain ⟨xs, n, -, -, -, hl, hg⟩ := DataW.trod_struct Tryd.underlying38 hf
  match cs, hcl, xs, hl with
  | [v0, v1, v2, v3, v4, v5, v6, v7, v8, v9, v10, v11], _, [y0, y1, y2, y3, y4, y5, y6, y7, y8], _ =>
    have g0 := hg 0 _ rfl
    have g1 := hg 1 _ rfl
    have g2 := hg 2 _ rfl
    have g3 := hg 3 _ rfl
    have g4 := hg 4 _ rfl
    have g5 := hg 5 _ rfl
    have g6 := hg 6 _ rfl
    have g7 := hg 7 _ rfl
    have g8 := hg 8 _ rfl
    simp [cInt] at g0
    simp [cVal] at g1
    simp [cVal] at g2
    simp [cVal] at g3
    simp [cI64] at g4
    simp [cI64] at g5
    simp [cInt] at g6
    simp [cBs] at g7
    simp [cVs] at g8
    obtain ⟨kind, e0, _, _⟩ := DataW.trod_int Tryd.underlying3 g0
    obtain ⟨k0, n0, e1, e2⟩ := val_of g1
    obtain ⟨k1, n1, e3, e4⟩ := val_of g2
    obtain ⟨k2, n2, e5, e6⟩ := val_of g3
    obtain ⟨num, e7, _, _⟩ := DataW.trod_int Tryd.underlying2 g4
    obtain ⟨den, e8, _, _⟩ := DataW.trod_int Tryd.underlying2 g5
    obtain ⟨mode, e9, _, _⟩ := DataW.trod_int Tryd.underlying3 g6
    obtain ⟨ba, bcap, bs, e10, hB⟩ := vals_bands g7
    obtain ⟨la, lcap, vs, e11, hL⟩ := vals_values g8
    simp at e0 e7 e8 e9 e10 e11
    subst e0 e1 e2 e3 e4 e5 e6 e7 e8 e9 e10 e11
    exact ⟨⟨kind, k0, n0, k1, n1, k2, n2, num, den, mode, ba, bcap, bs, la, lcap, vs⟩, ⟨hc 0 (by omega), hc 1 (by omega), hc 2 (by omega), hc 3 (by omega), hc 4 (by omega), hc 5 (by omega), hc 6 (by omega), hc 7 (by omega), hc 8 (by omega), hc 9 (by omega), hc 10 (by omega), hc 11 (by omega)⟩, hB, hL⟩

set_option maxRecDepth 100000 in
/-- A script that came in. -/
theorem open_ops {H : Type} {enc : TypeId × Value → H} {W : World} {base : Nat} {v : Value} {d : DataW H} {ps : List MemPlace} (hval : Value.okWide Tryd.prog W .any base 33 v)
    (h : DataW.Trod enc Tryd.prog W 0 (fun _ => true) true 33 v d ps) :
    ∃ a cap os, v = .slice a os.length cap ∧ Ops W a os := by
  obtain ⟨a0, len, cap, rfl⟩ := okWide_slice Tryd.underlying33 hval
  obtain ⟨fuel, hf⟩ := h
  rcases Go.Deep.open_slice Tryd.underlying33 hf with ⟨hcs, hx⟩ | ⟨a, len', cap', m, n, D, Pl, hcs, _, hl, hm, hmm, hx, hcell⟩
  · simp [Value.cells] at hcs
    obtain ⟨rfl, rfl, rfl⟩ := hcs
    exact ⟨none, 0, [], rfl, by simp, .inl rfl⟩
  · simp [Value.cells] at hcs
    obtain ⟨rfl, rfl, rfl⟩ := hcs
    simp only [if_true] at hmm
    rw [hmm] at hcell
    by_cases h0 : len = 0
    · subst h0
      exact ⟨some a, cap, [], rfl, by simp, .inl rfl⟩
    obtain ⟨b, off, spot⟩ := a
    have hspot : spot = none := by
      obtain ⟨cs', h1, -⟩ := hcell 0 (by omega)
      rw [cOp] at h1
      obtain ⟨_, hlen, hc⟩ := World.cells?_some h1
      have h2 := hc 0 (by omega)
      obtain ⟨c, hcc⟩ : ∃ c, cs'[0]? = some c := ⟨cs'[0]'(by omega), List.getElem?_eq_getElem _⟩
      rw [hcc] at h2
      simpa [Addr.add] using World.cell?_spot h2
    subst hspot
    have key : ∀ i, i < len → ∃ o, OpAt W b (off + i * 12) o := fun i hi => by
      obtain ⟨cs', h1, h2⟩ := hcell i (by omega)
      rw [cOp] at h1
      obtain ⟨_, hlen, hc⟩ := World.cells?_some h1
      refine op_of (fun j hj => ?_) hlen h2
      have := hc j hj
      rwa [add_plain, add_plain] at this
    haveI : Inhabited Opn := ⟨⟨0, 0, 0, 0, 0, 0, 0, 0, 0, 0, none, 0, [], none, 0, []⟩⟩
    obtain ⟨q, hq⟩ : ∃ q : Nat → Opn, ∀ i, i < len → OpAt W b (off + i * 12) (q i) := Go.Deep.choose_lt key
    have hlen : ((List.range len).map q).length = len := by simp
    have hb : b < W.heap.size := World.block_lt_of_cell? _ _ (hq 0 (by omega)).1.1
    refine ⟨some ⟨b, off, none⟩, cap, (List.range len).map q, by rw [hlen], by rw [hlen]; unfold maxLen at *; omega, .inr ⟨b, off, rfl, hb, fun i hi => ?_⟩⟩
    rw [hlen] at hi
    simpa using hq i hi

end Go.Proofs.YtnmcniibcjjflaaDoor
