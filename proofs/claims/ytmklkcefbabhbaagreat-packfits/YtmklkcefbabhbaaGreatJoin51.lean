import Derived.Test.YtmklkcefbabhbaaGreatJoin20
import Derived.Test.YtmklkcefbabhbaaGreatRows
import Derived.ProofKit
import Derived.OpenShut
import Derived.SizedLaws
import Derived.Deep.Slices
import Derived.Test.YtmklkcefbabhbaaGreatTurnYrX5
namespace Go.Proofs.YtmklkcefbabhbaaGreat
open Go.ChangeShapes Go.WideShapes Go.ChangeAt Go.WideMaps Go.WideElems Go.RowKit

theorem cellsI : Tryz.prog.cellsOf 3 = 1 := by kernel_rfl
theorem cellsI64 : Tryz.prog.cellsOf 2 = 1 := by kernel_rfl
theorem cellsS : Tryz.prog.cellsOf 9 = 1 := by kernel_rfl
theorem cellsBo : Tryz.prog.cellsOf 4 = 1 := by kernel_rfl
theorem cellsE : Tryz.prog.cellsOf 59 = 5 := by kernel_rfl
theorem cellsSE : Tryz.prog.cellsOf 57 = 1 := by kernel_rfl

theorem rg_of {n : Int} (h : (Lit.int .i64 n).wf = true) : Rg n := by
  simp [Lit.wf] at h
  exact h
set_option maxRecDepth 100000 in
/-- A list that came in, whatever its items are. -/
theorem open_row {α : Type} (D : Elt α) (Z : α → Prop) {t e : TypeId} (ht : Tryz.prog.underlying t = some (.slice e)) (hk : Tryz.prog.cellsOf e = D.k) (hp : 0 < D.k) {H : Type} {enc : TypeId × Value → H} {W : World} {fuel : Nat} {cs : List Value} {x : DataW H × List MemPlace} (hf : DataW.trod enc Tryz.prog W 0 (fun _ => true) true fuel t cs = some x)
    (el : ∀ (n : Nat) (cs' : List Value) (x' : DataW H × List MemPlace), n < fuel → cs'.length = D.k → DataW.trod enc Tryz.prog W 0 (fun _ => true) true n e cs' = some x' → ∃ o, D.E W AnyB o cs' ∧ Z o) : ∃ (l : List α) (a : Option Addr) (cap : Nat), cs = [.slice a l.length cap] ∧ l.length ≤ 9223372036854775807 ∧ RowR D W AnyB l a ∧ ∀ o ∈ l, Z o := by
  rcases DataW.trod_slice ht hf with ⟨hcs, hx⟩ | ⟨a, len, cap, elems, rest, n, hfu, hcs, hx, _, hl, hm, hlen, hel, -, -⟩
  · exact ⟨[], none, 0, hcs, by simp, .inl rfl, fun o ho => by cases ho⟩
  · have hmx : cap ≤ 9223372036854775807 := by unfold maxLen at hm; omega
    rw [hk] at hel
    by_cases h0 : len = 0
    · subst h0
      exact ⟨[], some a, cap, hcs, by simp, .inl rfl, fun o ho => by cases ho⟩
    have key0 : ∀ i, i < len → ∃ cs', W.cells? 0 (a.add (i * D.k)) D.k = some cs' ∧ ∃ y, DataW.trod enc Tryz.prog W 0 (fun _ => true) true n e cs' = some y := fun i hi => by
      have h := hel i hi
      rw [List.getElem?_eq_getElem (by omega)] at h
      cases hc : W.cells? 0 (a.add (i * D.k)) D.k with
      | none => rw [hc] at h; cases h
      | some cs' =>
        rw [hc] at h
        exact ⟨cs', rfl, _, h⟩
    obtain ⟨b, off, spot⟩ := a
    have hspot : spot = none := by
      obtain ⟨cs', h1, -⟩ := key0 0 (by omega)
      obtain ⟨_, hlen, hc⟩ := World.cells?_some h1
      have h2 := hc 0 (by omega)
      obtain ⟨c, hcc⟩ : ∃ c, cs'[0]? = some c := ⟨cs'[0]'(by omega), List.getElem?_eq_getElem _⟩
      rw [hcc] at h2
      simpa [Addr.add] using World.cell?_spot h2
    subst hspot
    have key : ∀ i, i < len → ∃ oc : α × List Value, oc.2.length = D.k ∧ D.E W AnyB oc.1 oc.2 ∧ Z oc.1 ∧ ∀ j, j < D.k → W.cell? ⟨b, off + i * D.k + j, none⟩ = oc.2[j]? := fun i hi => by
      obtain ⟨cs', h1, y, h2⟩ := key0 i hi
      obtain ⟨_, hlen', hc⟩ := World.cells?_some h1
      obtain ⟨o, ho, hz⟩ := el n cs' y (by omega) hlen' h2
      refine ⟨(o, cs'), hlen', ho, hz, fun j hj => ?_⟩
      have := hc j hj
      rwa [add_plain, add_plain] at this
    obtain ⟨q, hq⟩ : ∃ q : Nat → α × List Value, ∀ i, i < len → (q i).2.length = D.k ∧ D.E W AnyB (q i).1 (q i).2 ∧ Z (q i).1 ∧ ∀ j, j < D.k → W.cell? ⟨b, off + i * D.k + j, none⟩ = (q i).2[j]? := by
      obtain ⟨o0, -⟩ := key 0 (by omega)
      refine ⟨fun i => if h : i < len then Classical.choose (key i h) else o0, fun i hi => ?_⟩
      simp only [dif_pos hi]
      exact Classical.choose_spec (key i hi)
    have hb : b < W.heap.size := by
      have h := (hq 0 (by omega)).2.2.2 0 hp
      rw [List.getElem?_eq_getElem (by rw [(hq 0 (by omega)).1]; exact hp)] at h
      exact World.block_lt_of_cell? _ _ h
    have hrow : ∀ m, m ≤ len → ∃ cs2, Elems D W AnyB ((List.range m).map (fun i => (q i).1)) cs2 ∧ ∀ j, j < cs2.length → W.cell? ⟨b, off + j, none⟩ = cs2[j]? := fun m => by
      induction m with
      | zero => exact fun _ => ⟨[], Elems.nil _ _ _, fun j hj => by simp at hj⟩
      | succ m ih =>
        intro hm1
        obtain ⟨cs2, h1, h2⟩ := ih (by omega)
        obtain ⟨g1, g2, -, g4⟩ := hq m (by omega)
        have hcl := h1.1
        rw [List.length_map, List.length_range] at hcl
        refine ⟨cs2 ++ (q m).2, by rw [List.range_succ, List.map_append]; exact h1.snoc g2, fun j hj => ?_⟩
        by_cases hj2 : j < cs2.length
        · rw [h2 j hj2, List.getElem?_append_left hj2]
        · rw [List.length_append, g1] at hj
          have := g4 (j - cs2.length) (by omega)
          rw [List.getElem?_append_right (by omega), ← this]
          congr 2
          omega
    obtain ⟨cs2, h1, h2⟩ := hrow len (Nat.le_refl _)
    refine ⟨(List.range len).map (fun i => (q i).1), some ⟨b, off, none⟩, cap, by rw [List.length_map, List.length_range]; exact hcs, by rw [List.length_map, List.length_range]; omega, .inr ⟨b, off, cs2, rfl, trivial, hb, h2, h1⟩, fun o ho => ?_⟩
    obtain ⟨i, hi, rfl⟩ := List.mem_map.1 ho
    exact (hq i (List.mem_range.1 hi)).2.2.1
theorem fo_sz : ∀ l : List Ex, (∀ e ∈ l, SzE e ∧ RgE e) → SzF (ofL l) ∧ RgF (ofL l)
  | [], _ => ⟨trivial, trivial⟩
  | e :: l, h => by
    obtain ⟨h1, h2⟩ := h e (by simp)
    obtain ⟨h3, h4⟩ := fo_sz l (fun x hx => h x (List.mem_cons_of_mem _ hx))
    exact ⟨⟨h1.1, h1.2, h3⟩, h2.1, h2.2, h4⟩
set_option maxRecDepth 100000 in
set_option maxHeartbeats 1000000 in
theorem open_expr {H : Type} {enc : TypeId × Value → H} {W : World} : ∀ (fuel : Nat) (cs : List Value) (x : DataW H × List MemPlace), DataW.trod enc Tryz.prog W 0 (fun _ => true) true fuel 59 cs = some x → ∃ o, eE.E W AnyB o cs ∧ SzE o ∧ RgE o := fun fuel => by
  induction fuel using Nat.strongRecOn with
  | _ fuel ih =>
    intro cs x hf
    obtain ⟨xs, n, hfu, hx, hcl, hl, hg⟩ := DataW.trod_struct Tryz.underlying59 hf
    rw [cellsE] at hcl
    match cs, hcl, xs, hl with
    | [v0, v1, v2, v3, v4], _, [y0, y1, y2, y3, y4], _ =>
      have g0 := hg 0 _ rfl
      have g1 := hg 1 _ rfl
      have g2 := hg 2 _ rfl
      have g3 := hg 3 _ rfl
      have g4 := hg 4 _ rfl
      simp [cellsI, cellsI64, cellsSE] at g0 g1 g2 g3 g4
      obtain ⟨z0, e0, _, w0⟩ := DataW.trod_int Tryz.underlying3 g0
      obtain ⟨z1, e1, _, w1⟩ := DataW.trod_int Tryz.underlying2 g1
      obtain ⟨z2, e2, _, w2⟩ := DataW.trod_int Tryz.underlying2 g2
      obtain ⟨z3, e3, _, w3⟩ := DataW.trod_int Tryz.underlying3 g3
      obtain ⟨l, a, cap, e4, hl4, hR, hZ⟩ := open_row eE (fun o => SzE o ∧ RgE o) Tryz.underlying57 cellsE (by decide) g4 (fun m cs' x' hm _ h => ih m (by omega) cs' x' h)
      simp at e0 e1 e2 e3 e4
      subst e0 e1 e2 e3 e4
      obtain ⟨s1, s2⟩ := fo_sz l hZ
      refine ⟨⟨z0, z1, z2, z3, ofL l⟩, ⟨a, cap, by simp only [ofL_len], ⟨rg_of w0, rg_of w1, rg_of w2, rg_of w3⟩, fo_of_row hR⟩, ⟨by rw [ofL_len]; exact hl4, s1⟩, ⟨rg_of w0, rg_of w1, rg_of w2, rg_of w3⟩, s2⟩

end Go.Proofs.YtmklkcefbabhbaaGreat


namespace Go.Proofs.YtmklkcefbabhbaaGreat
open Go.ChangeShapes Go.WideShapes Go.ChangeAt Go.WideMaps Go.WideElems Go.RowKit

theorem cellsSS : Tryz.prog.cellsOf 47 = 1 := by kernel_rfl
theorem cellsSB : Tryz.prog.cellsOf 50 = 1 := by kernel_rfl
theorem cellsSC : Tryz.prog.cellsOf 53 = 1 := by kernel_rfl
theorem cellsSO : Tryz.prog.cellsOf 22 = 1 := by kernel_rfl
theorem cellsST : Tryz.prog.cellsOf 23 = 1 := by kernel_rfl
theorem cellsSG : Tryz.prog.cellsOf 24 = 1 := by kernel_rfl
theorem cellsSL : Tryz.prog.cellsOf 25 = 1 := by kernel_rfl
theorem cellsSK : Tryz.prog.cellsOf 26 = 1 := by kernel_rfl
theorem open_text {H : Type} {enc : TypeId × Value → H} {W : World} (fuel : Nat) (cs : List Value) (x : DataW H × List MemPlace) (hf : DataW.trod enc Tryz.prog W 0 (fun _ => true) true fuel 9 cs = some x) : ∃ o : List UInt8, eS.E W AnyB o cs ∧ o.length ≤ 9223372036854775807 := by
  obtain ⟨s, e, _, w⟩ := DataW.trod_string Tryz.underlying9 hf
  exact ⟨s.data.toList, by rw [e]; rfl, by have h : s.size ≤ maxLen := w; unfold maxLen at h; exact h⟩
set_option maxRecDepth 100000 in
set_option maxHeartbeats 1000000 in
theorem open_band {H : Type} {enc : TypeId × Value → H} {W : World} (fuel : Nat) (cs : List Value) (x : DataW H × List MemPlace) (hf : DataW.trod enc Tryz.prog W 0 (fun _ => true) true fuel 118 cs = some x) : ∃ o : Int × Int, eBd.E W AnyB o cs ∧ (True) := by
  obtain ⟨xs, n, hfu, hx, hcl, hl, hg⟩ := DataW.trod_struct Tryz.underlying118 hf
  rw [show Tryz.prog.cellsOf 118 = 2 from by kernel_rfl] at hcl
  match cs, hcl, xs, hl with
  | [v0, v1], _, [y0, y1], _ =>
    have g0 := hg 0 _ rfl
    have g1 := hg 1 _ rfl
    simp [cellsI64] at g0 g1
    obtain ⟨z0, e0, _, w0⟩ := DataW.trod_int Tryz.underlying2 g0
    obtain ⟨z1, e1, _, w1⟩ := DataW.trod_int Tryz.underlying2 g1
    simp at e0 e1
    subst e0
    subst e1
    exact ⟨(z0, z1), ⟨rfl, rg_of w0, rg_of w1⟩, trivial⟩
set_option maxRecDepth 100000 in
set_option maxHeartbeats 1000000 in
theorem open_group {H : Type} {enc : TypeId × Value → H} {W : World} (fuel : Nat) (cs : List Value) (x : DataW H × List MemPlace) (hf : DataW.trod enc Tryz.prog W 0 (fun _ => true) true fuel 81 cs = some x) : ∃ o : List UInt8 × Int, eG.E W AnyB o cs ∧ (o.1.length ≤ 9223372036854775807) := by
  obtain ⟨xs, n, hfu, hx, hcl, hl, hg⟩ := DataW.trod_struct Tryz.underlying81 hf
  rw [show Tryz.prog.cellsOf 81 = 2 from by kernel_rfl] at hcl
  match cs, hcl, xs, hl with
  | [v0, v1], _, [y0, y1], _ =>
    have g0 := hg 0 _ rfl
    have g1 := hg 1 _ rfl
    simp [cellsI, cellsS] at g0 g1
    obtain ⟨s0, e0, _, w0⟩ := DataW.trod_string Tryz.underlying9 g0
    have w0 : s0.data.toList.length ≤ 9223372036854775807 := by have h : s0.size ≤ maxLen := w0; unfold maxLen at h; exact h
    obtain ⟨z1, e1, _, w1⟩ := DataW.trod_int Tryz.underlying3 g1
    simp at e0 e1
    subst e0
    subst e1
    exact ⟨(s0.data.toList, z1), ⟨rfl, rg_of w1⟩, w0⟩
set_option maxRecDepth 100000 in
set_option maxHeartbeats 1000000 in
theorem open_table {H : Type} {enc : TypeId × Value → H} {W : World} (fuel : Nat) (cs : List Value) (x : DataW H × List MemPlace) (hf : DataW.trod enc Tryz.prog W 0 (fun _ => true) true fuel 52 cs = some x) : ∃ o : List UInt8 × List (Int × Int), eT.E W AnyB o cs ∧ (o.1.length ≤ 9223372036854775807 ∧ o.2.length ≤ 9223372036854775807 ∧ ∀ b ∈ o.2, Rg b.1 ∧ Rg b.2) := by
  obtain ⟨xs, n, hfu, hx, hcl, hl, hg⟩ := DataW.trod_struct Tryz.underlying52 hf
  rw [show Tryz.prog.cellsOf 52 = 2 from by kernel_rfl] at hcl
  match cs, hcl, xs, hl with
  | [v0, v1], _, [y0, y1], _ =>
    have g0 := hg 0 _ rfl
    have g1 := hg 1 _ rfl
    simp [cellsS, cellsSB] at g0 g1
    obtain ⟨s0, e0, _, w0⟩ := DataW.trod_string Tryz.underlying9 g0
    have w0 : s0.data.toList.length ≤ 9223372036854775807 := by have h : s0.size ≤ maxLen := w0; unfold maxLen at h; exact h
    obtain ⟨l1, a1, c1, e1, h1, R1, Z1⟩ := open_row eBd (fun b => Rg b.1 ∧ Rg b.2) Tryz.underlying50 (by kernel_rfl) (by decide) g1 (fun m cs' x' _ _ h => (open_band m cs' x' h).imp (fun o h => ⟨h.1, h.1.2⟩))
    simp at e0 e1
    subst e0
    subst e1
    exact ⟨(s0.data.toList, l1), ⟨a1, c1, rfl, R1⟩, ⟨w0, h1, Z1⟩⟩
set_option maxRecDepth 100000 in
set_option maxHeartbeats 1000000 in
theorem open_clause {H : Type} {enc : TypeId × Value → H} {W : World} (fuel : Nat) (cs : List Value) (x : DataW H × List MemPlace) (hf : DataW.trod enc Tryz.prog W 0 (fun _ => true) true fuel 61 cs = some x) : ∃ o : Cl, eC.E W AnyB o cs ∧ (SzC o ∧ RgC o) := by
  obtain ⟨xs, n, hfu, hx, hcl, hl, hg⟩ := DataW.trod_struct Tryz.underlying61 hf
  rw [show Tryz.prog.cellsOf 61 = 12 from by kernel_rfl] at hcl
  match cs, hcl, xs, hl with
  | [v0, v1, v2, v3, v4, v5, v6, v7, v8, v9, v10, v11], _, [y0, y1, y2, y3], _ =>
    have g0 := hg 0 _ rfl
    have g1 := hg 1 _ rfl
    have g2 := hg 2 _ rfl
    have g3 := hg 3 _ rfl
    simp [cellsI, cellsBo, cellsE] at g0 g1 g2 g3
    obtain ⟨z0, e0, _, w0⟩ := DataW.trod_int Tryz.underlying3 g0
    obtain ⟨z1, e1, _⟩ := DataW.trod_bool Tryz.underlying4 g1
    obtain ⟨x2, ⟨a2, c2, e2, r2, f2⟩, s2, t2⟩ := open_expr _ _ _ g2
    obtain ⟨x3, ⟨a3, c3, e3, r3, f3⟩, s3, t3⟩ := open_expr _ _ _ g3
    simp at e0 e1 e2 e3
    subst e0
    subst e1
    obtain ⟨e2_0, e2_1, e2_2, e2_3, e2_4⟩ := e2
    subst e2_0 e2_1 e2_2 e2_3 e2_4
    obtain ⟨e3_0, e3_1, e3_2, e3_3, e3_4⟩ := e3
    subst e3_0 e3_1 e3_2 e3_3 e3_4
    exact ⟨⟨z0, z1, x2, x3⟩, ⟨a2, c2, a3, c3, rfl, rg_of w0, ⟨r2, r3⟩, f2, f3⟩, ⟨⟨s2, s3⟩, rg_of w0, t2, t3⟩⟩
set_option maxRecDepth 100000 in
set_option maxHeartbeats 1000000 in
theorem open_line {H : Type} {enc : TypeId × Value → H} {W : World} (fuel : Nat) (cs : List Value) (x : DataW H × List MemPlace) (hf : DataW.trod enc Tryz.prog W 0 (fun _ => true) true fuel 55 cs = some x) : ∃ o : Ln, eL.E W AnyB o cs ∧ ((o.name.length ≤ 9223372036854775807 ∧ SzL o) ∧ RgL o) := by
  obtain ⟨xs, n, hfu, hx, hcl, hl, hg⟩ := DataW.trod_struct Tryz.underlying55 hf
  rw [show Tryz.prog.cellsOf 55 = 7 from by kernel_rfl] at hcl
  match cs, hcl, xs, hl with
  | [v0, v1, v2, v3, v4, v5, v6], _, [y0, y1, y2, y3, y4, y5, y6], _ =>
    have g0 := hg 0 _ rfl
    have g1 := hg 1 _ rfl
    have g2 := hg 2 _ rfl
    have g3 := hg 3 _ rfl
    have g4 := hg 4 _ rfl
    have g5 := hg 5 _ rfl
    have g6 := hg 6 _ rfl
    simp [cellsI, cellsS, cellsBo, cellsSC] at g0 g1 g2 g3 g4 g5 g6
    obtain ⟨s0, e0, _, w0⟩ := DataW.trod_string Tryz.underlying9 g0
    have w0 : s0.data.toList.length ≤ 9223372036854775807 := by have h : s0.size ≤ maxLen := w0; unfold maxLen at h; exact h
    obtain ⟨z1, e1, _⟩ := DataW.trod_bool Tryz.underlying4 g1
    obtain ⟨z2, e2, _⟩ := DataW.trod_bool Tryz.underlying4 g2
    obtain ⟨z3, e3, _, w3⟩ := DataW.trod_int Tryz.underlying3 g3
    obtain ⟨z4, e4, _, w4⟩ := DataW.trod_int Tryz.underlying3 g4
    obtain ⟨z5, e5, _, w5⟩ := DataW.trod_int Tryz.underlying3 g5
    obtain ⟨l6, a6, c6, e6, h6, R6, Z6⟩ := open_row eC (fun c => SzC c ∧ RgC c) Tryz.underlying53 (by kernel_rfl) (by decide) g6 (fun m cs' x' _ _ h => open_clause m cs' x' h)
    simp at e0 e1 e2 e3 e4 e5 e6
    subst e0
    subst e1
    subst e2
    subst e3
    subst e4
    subst e5
    subst e6
    exact ⟨⟨s0.data.toList, z1, z2, z3, z4, z5, l6⟩, ⟨a6, c6, rfl, ⟨rg_of w3, rg_of w4, rg_of w5⟩, R6⟩, ⟨⟨w0, h6, fun c hc => (Z6 c hc).1⟩, ⟨rg_of w3, rg_of w4, rg_of w5⟩, fun c hc => (Z6 c hc).2⟩⟩
set_option maxRecDepth 100000 in
set_option maxHeartbeats 1000000 in
theorem open_check {H : Type} {enc : TypeId × Value → H} {W : World} (fuel : Nat) (cs : List Value) (x : DataW H × List MemPlace) (hf : DataW.trod enc Tryz.prog W 0 (fun _ => true) true fuel 63 cs = some x) : ∃ o : Ck, eK.E W AnyB o cs ∧ ((o.name.length ≤ 9223372036854775807 ∧ o.text.length ≤ 9223372036854775807 ∧ SzE o.when_) ∧ RgK o) := by
  obtain ⟨xs, n, hfu, hx, hcl, hl, hg⟩ := DataW.trod_struct Tryz.underlying63 hf
  rw [show Tryz.prog.cellsOf 63 = 9 from by kernel_rfl] at hcl
  match cs, hcl, xs, hl with
  | [v0, v1, v2, v3, v4, v5, v6, v7, v8], _, [y0, y1, y2, y3, y4], _ =>
    have g0 := hg 0 _ rfl
    have g1 := hg 1 _ rfl
    have g2 := hg 2 _ rfl
    have g3 := hg 3 _ rfl
    have g4 := hg 4 _ rfl
    simp [cellsI, cellsS, cellsBo, cellsE] at g0 g1 g2 g3 g4
    obtain ⟨s0, e0, _, w0⟩ := DataW.trod_string Tryz.underlying9 g0
    have w0 : s0.data.toList.length ≤ 9223372036854775807 := by have h : s0.size ≤ maxLen := w0; unfold maxLen at h; exact h
    obtain ⟨z1, e1, _⟩ := DataW.trod_bool Tryz.underlying4 g1
    obtain ⟨z2, e2, _, w2⟩ := DataW.trod_int Tryz.underlying3 g2
    obtain ⟨x3, ⟨a3, c3, e3, r3, f3⟩, s3, t3⟩ := open_expr _ _ _ g3
    obtain ⟨s4, e4, _, w4⟩ := DataW.trod_string Tryz.underlying9 g4
    have w4 : s4.data.toList.length ≤ 9223372036854775807 := by have h : s4.size ≤ maxLen := w4; unfold maxLen at h; exact h
    simp at e0 e1 e2 e3 e4
    subst e0
    subst e1
    subst e2
    obtain ⟨e3_0, e3_1, e3_2, e3_3, e3_4⟩ := e3
    subst e3_0 e3_1 e3_2 e3_3 e3_4
    subst e4
    exact ⟨⟨s0.data.toList, z1, z2, x3, s4.data.toList⟩, ⟨a3, c3, rfl, rg_of w2, r3, f3⟩, ⟨⟨w0, w4, s3⟩, rg_of w2, t3⟩⟩
end Go.Proofs.YtmklkcefbabhbaaGreat


/- A pack that came in, with the room of the options' lists. -/
namespace Go.Proofs.YtmklkcefbabhbaaGreat.R6
open Go.ChangeShapes Go.WideShapes Go.ChangeAt Go.WideMaps Go.WideElems Go.RowKit

set_option maxRecDepth 100000 in
/-- A list that came in, whatever its items are. -/
theorem open_rowq {α : Type} (D : Elt α) (Z : α → Prop) {t e : TypeId} (ht : Tryz.prog.underlying t = some (.slice e)) (hk : Tryz.prog.cellsOf e = D.k) (hp : 0 < D.k) {H : Type} {enc : TypeId × Value → H} {W : World} {fuel : Nat} {cs : List Value} {x : DataW H × List MemPlace} (hf : DataW.trod enc Tryz.prog W 0 (fun _ => true) true fuel t cs = some x)
    (el : ∀ (n : Nat) (cs' : List Value) (x' : DataW H × List MemPlace), n < fuel → cs'.length = D.k → DataW.trod enc Tryz.prog W 0 (fun _ => true) true n e cs' = some x' → ∃ o, D.E W AnyB o cs' ∧ Z o) : ∃ (l : List α) (a : Option Addr) (cap : Nat), cs = [.slice a l.length cap] ∧ l.length ≤ cap ∧ l.length ≤ 9223372036854775807 ∧ RowR D W AnyB l a ∧ ∀ o ∈ l, Z o := by
  rcases DataW.trod_slice ht hf with ⟨hcs, hx⟩ | ⟨a, len, cap, elems, rest, n, hfu, hcs, hx, _, hl, hm, hlen, hel, -, -⟩
  · exact ⟨[], none, 0, hcs, by simp, by simp, .inl rfl, fun o ho => by cases ho⟩
  · have hmx : cap ≤ 9223372036854775807 := by unfold maxLen at hm; omega
    rw [hk] at hel
    by_cases h0 : len = 0
    · subst h0
      exact ⟨[], some a, cap, hcs, by simp, by simp, .inl rfl, fun o ho => by cases ho⟩
    have key0 : ∀ i, i < len → ∃ cs', W.cells? 0 (a.add (i * D.k)) D.k = some cs' ∧ ∃ y, DataW.trod enc Tryz.prog W 0 (fun _ => true) true n e cs' = some y := fun i hi => by
      have h := hel i hi
      rw [List.getElem?_eq_getElem (by omega)] at h
      cases hc : W.cells? 0 (a.add (i * D.k)) D.k with
      | none => rw [hc] at h; cases h
      | some cs' =>
        rw [hc] at h
        exact ⟨cs', rfl, _, h⟩
    obtain ⟨b, off, spot⟩ := a
    have hspot : spot = none := by
      obtain ⟨cs', h1, -⟩ := key0 0 (by omega)
      obtain ⟨_, hlen, hc⟩ := World.cells?_some h1
      have h2 := hc 0 (by omega)
      obtain ⟨c, hcc⟩ : ∃ c, cs'[0]? = some c := ⟨cs'[0]'(by omega), List.getElem?_eq_getElem _⟩
      rw [hcc] at h2
      simpa [Addr.add] using World.cell?_spot h2
    subst hspot
    have key : ∀ i, i < len → ∃ oc : α × List Value, oc.2.length = D.k ∧ D.E W AnyB oc.1 oc.2 ∧ Z oc.1 ∧ ∀ j, j < D.k → W.cell? ⟨b, off + i * D.k + j, none⟩ = oc.2[j]? := fun i hi => by
      obtain ⟨cs', h1, y, h2⟩ := key0 i hi
      obtain ⟨_, hlen', hc⟩ := World.cells?_some h1
      obtain ⟨o, ho, hz⟩ := el n cs' y (by omega) hlen' h2
      refine ⟨(o, cs'), hlen', ho, hz, fun j hj => ?_⟩
      have := hc j hj
      rwa [add_plain, add_plain] at this
    obtain ⟨q, hq⟩ : ∃ q : Nat → α × List Value, ∀ i, i < len → (q i).2.length = D.k ∧ D.E W AnyB (q i).1 (q i).2 ∧ Z (q i).1 ∧ ∀ j, j < D.k → W.cell? ⟨b, off + i * D.k + j, none⟩ = (q i).2[j]? := by
      obtain ⟨o0, -⟩ := key 0 (by omega)
      refine ⟨fun i => if h : i < len then Classical.choose (key i h) else o0, fun i hi => ?_⟩
      simp only [dif_pos hi]
      exact Classical.choose_spec (key i hi)
    have hb : b < W.heap.size := by
      have h := (hq 0 (by omega)).2.2.2 0 hp
      rw [List.getElem?_eq_getElem (by rw [(hq 0 (by omega)).1]; exact hp)] at h
      exact World.block_lt_of_cell? _ _ h
    have hrow : ∀ m, m ≤ len → ∃ cs2, Elems D W AnyB ((List.range m).map (fun i => (q i).1)) cs2 ∧ ∀ j, j < cs2.length → W.cell? ⟨b, off + j, none⟩ = cs2[j]? := fun m => by
      induction m with
      | zero => exact fun _ => ⟨[], Elems.nil _ _ _, fun j hj => by simp at hj⟩
      | succ m ih =>
        intro hm1
        obtain ⟨cs2, h1, h2⟩ := ih (by omega)
        obtain ⟨g1, g2, -, g4⟩ := hq m (by omega)
        have hcl := h1.1
        rw [List.length_map, List.length_range] at hcl
        refine ⟨cs2 ++ (q m).2, by rw [List.range_succ, List.map_append]; exact h1.snoc g2, fun j hj => ?_⟩
        by_cases hj2 : j < cs2.length
        · rw [h2 j hj2, List.getElem?_append_left hj2]
        · rw [List.length_append, g1] at hj
          have := g4 (j - cs2.length) (by omega)
          rw [List.getElem?_append_right (by omega), ← this]
          congr 2
          omega
    obtain ⟨cs2, h1, h2⟩ := hrow len (Nat.le_refl _)
    refine ⟨(List.range len).map (fun i => (q i).1), some ⟨b, off, none⟩, cap, by rw [List.length_map, List.length_range]; exact hcs, by rw [List.length_map, List.length_range]; omega, by rw [List.length_map, List.length_range]; omega, .inr ⟨b, off, cs2, rfl, trivial, hb, h2, h1⟩, fun o ho => ?_⟩
    obtain ⟨i, hi, rfl⟩ := List.mem_map.1 ho
    exact (hq i (List.mem_range.1 hi)).2.2.1
set_option maxRecDepth 100000 in
set_option maxHeartbeats 1000000 in
theorem open_optionsq {H : Type} {enc : TypeId × Value → H} {W : World} (fuel : Nat) (cs : List Value) (x : DataW H × List MemPlace) (hf : DataW.trod enc Tryz.prog W 0 (fun _ => true) true fuel 49 cs = some x) : ∃ o : List UInt8 × List (List UInt8), eOq.E W AnyB o cs ∧ (o.1.length ≤ 9223372036854775807 ∧ o.2.length ≤ 9223372036854775807 ∧ ∀ s ∈ o.2, s.length ≤ 9223372036854775807) := by
  obtain ⟨xs, n, hfu, hx, hcl, hl, hg⟩ := DataW.trod_struct Tryz.underlying49 hf
  rw [show Tryz.prog.cellsOf 49 = 2 from by kernel_rfl] at hcl
  match cs, hcl, xs, hl with
  | [v0, v1], _, [y0, y1], _ =>
    have g0 := hg 0 _ rfl
    have g1 := hg 1 _ rfl
    simp [cellsS, cellsSS] at g0 g1
    obtain ⟨s0, e0, _, w0⟩ := DataW.trod_string Tryz.underlying9 g0
    have w0 : s0.data.toList.length ≤ 9223372036854775807 := by have h : s0.size ≤ maxLen := w0; unfold maxLen at h; exact h
    obtain ⟨l1, a1, c1, e1, hc1, h1, R1, Z1⟩ := open_rowq eS (fun s => s.length ≤ 9223372036854775807) Tryz.underlying47 (by kernel_rfl) (by decide) g1 (fun m cs' x' _ _ h => open_text m cs' x' h)
    simp at e0 e1
    subst e0
    subst e1
    exact ⟨(s0.data.toList, l1), ⟨a1, c1, rfl, R1, hc1⟩, ⟨w0, h1, Z1⟩⟩
set_option maxRecDepth 100000 in
set_option maxRecDepth 100000 in
set_option maxHeartbeats 1000000 in
theorem open_packq {H : Type} {enc : TypeId × Value → H} {W : World} (fuel : Nat) (cs : List Value) (x : DataW H × List MemPlace) (hf : DataW.trod enc Tryz.prog W 0 (fun _ => true) true fuel 28 cs = some x) : ∃ (o : Pk) (a3 : Option Addr) (c3 : Nat), PkE W AnyB o cs ∧ (SzP o ∧ RgP o) ∧ cs[2]? = some (.slice a3 o.opts.length c3) ∧ RowR eOq W AnyB o.opts a3 := by
  obtain ⟨xs, n, hfu, hx, hcl, hl, hg⟩ := DataW.trod_struct Tryz.underlying28 hf
  rw [show Tryz.prog.cellsOf 28 = 7 from by kernel_rfl] at hcl
  match cs, hcl, xs, hl with
  | [v0, v1, v2, v3, v4, v5, v6], _, [y0, y1, y2, y3, y4, y5, y6], _ =>
    have g0 := hg 0 _ rfl
    have g1 := hg 1 _ rfl
    have g2 := hg 2 _ rfl
    have g3 := hg 3 _ rfl
    have g4 := hg 4 _ rfl
    have g5 := hg 5 _ rfl
    have g6 := hg 6 _ rfl
    simp [cellsI, cellsS, cellsSG, cellsSK, cellsSL, cellsSO, cellsST] at g0 g1 g2 g3 g4 g5 g6
    obtain ⟨s0, e0, _, w0⟩ := DataW.trod_string Tryz.underlying9 g0
    have w0 : s0.data.toList.length ≤ 9223372036854775807 := by have h : s0.size ≤ maxLen := w0; unfold maxLen at h; exact h
    obtain ⟨z1, e1, _, w1⟩ := DataW.trod_int Tryz.underlying3 g1
    obtain ⟨l2, a2, c2, e2, h2, R2, Z2⟩ := open_row eOq (fun o => o.1.length ≤ 9223372036854775807 ∧ o.2.length ≤ 9223372036854775807 ∧ ∀ s ∈ o.2, s.length ≤ 9223372036854775807) Tryz.underlying22 (by kernel_rfl) (by decide) g2 (fun m cs' x' _ _ h => open_optionsq m cs' x' h)
    obtain ⟨l3, a3, c3, e3, h3, R3, Z3⟩ := open_row eT (fun o => o.1.length ≤ 9223372036854775807 ∧ o.2.length ≤ 9223372036854775807 ∧ ∀ b ∈ o.2, Rg b.1 ∧ Rg b.2) Tryz.underlying23 (by kernel_rfl) (by decide) g3 (fun m cs' x' _ _ h => open_table m cs' x' h)
    obtain ⟨l4, a4, c4, e4, h4, R4, Z4⟩ := open_row eG (fun o => o.1.length ≤ 9223372036854775807 ∧ Rg o.2) Tryz.underlying24 (by kernel_rfl) (by decide) g4 (fun m cs' x' _ _ h => (open_group m cs' x' h).imp (fun o h => ⟨h.1, h.2, h.1.2⟩))
    obtain ⟨l5, a5, c5, e5, h5, R5, Z5⟩ := open_row eL (fun o => (o.name.length ≤ 9223372036854775807 ∧ SzL o) ∧ RgL o) Tryz.underlying25 (by kernel_rfl) (by decide) g5 (fun m cs' x' _ _ h => open_line m cs' x' h)
    obtain ⟨l6, a6, c6, e6, h6, R6, Z6⟩ := open_row eK (fun o => (o.name.length ≤ 9223372036854775807 ∧ o.text.length ≤ 9223372036854775807 ∧ SzE o.when_) ∧ RgK o) Tryz.underlying26 (by kernel_rfl) (by decide) g6 (fun m cs' x' _ _ h => open_check m cs' x' h)
    simp at e0 e1 e2 e3 e4 e5 e6
    subst e0
    subst e1
    subst e2
    subst e3
    subst e4
    subst e5
    subst e6
    exact ⟨⟨s0.data.toList, z1, l2, l3, l4, l5, l6⟩, a2, c2, ⟨a2, c2, a3, c3, a4, c4, a5, c5, a6, c6, rfl, rg_of w1, oq_o R2, R3, R4, R5, R6⟩, ⟨⟨w0, ⟨h2, Z2⟩, ⟨h3, fun o ho => ⟨(Z3 o ho).1, (Z3 o ho).2.1⟩⟩, ⟨h4, fun o ho => (Z4 o ho).1⟩, ⟨h5, fun o ho => (Z5 o ho).1⟩, ⟨h6, fun o ho => (Z6 o ho).1⟩⟩, ⟨rg_of w1, fun o ho => (Z3 o ho).2.2, fun o ho => (Z4 o ho).2, fun o ho => (Z5 o ho).2, fun o ho => (Z6 o ho).2⟩⟩, rfl, R2⟩

end Go.Proofs.YtmklkcefbabhbaaGreat.R6
