import Derived.Test.YtjllaobiejahjaaJoin51
import Derived.Test.YtjllaobiejahjaaRows
import Derived.ProofKit
import Derived.OpenShut
import Derived.SizedLaws
import Derived.Deep.Slices
import Derived.Test.YtjllaobiejahjaaPxH
namespace Go.Proofs.Ytjllaobiejahjaa
open Go.ChangeShapes Go.WideShapes Go.ChangeAt Go.WideMaps Go.WideElems Go.RowKit

theorem cellsI : Try.prog.cellsOf 3 = 1 := by kernel_rfl
theorem cellsI64 : Try.prog.cellsOf 2 = 1 := by kernel_rfl
theorem cellsS : Try.prog.cellsOf 9 = 1 := by kernel_rfl
theorem cellsBo : Try.prog.cellsOf 4 = 1 := by kernel_rfl
theorem cellsE : Try.prog.cellsOf 55 = 5 := by kernel_rfl
theorem cellsSE : Try.prog.cellsOf 53 = 1 := by kernel_rfl

theorem rg_of {n : Int} (h : (Lit.int .i64 n).wf = true) : Rg n := by
  simp [Lit.wf] at h
  exact h
set_option maxRecDepth 100000 in
/-- A list that came in, whatever its items are. -/
theorem open_row {α : Type} (D : Elt α) (Z : α → Prop) {t e : TypeId} (ht : Try.prog.underlying t = some (.slice e)) (hk : Try.prog.cellsOf e = D.k) (hp : 0 < D.k) {H : Type} {enc : TypeId × Value → H} {W : World} {fuel : Nat} {cs : List Value} {x : DataW H × List MemPlace} (hf : DataW.trod enc Try.prog W 0 (fun _ => true) true fuel t cs = some x)
    (el : ∀ (n : Nat) (cs' : List Value) (x' : DataW H × List MemPlace), n < fuel → cs'.length = D.k → DataW.trod enc Try.prog W 0 (fun _ => true) true n e cs' = some x' → ∃ o, D.E W AnyB o cs' ∧ Z o) : ∃ (l : List α) (a : Option Addr) (cap : Nat), cs = [.slice a l.length cap] ∧ l.length ≤ 9223372036854775807 ∧ RowR D W AnyB l a ∧ ∀ o ∈ l, Z o := by
  rcases DataW.trod_slice ht hf with ⟨hcs, hx⟩ | ⟨a, len, cap, elems, rest, n, hfu, hcs, hx, _, hl, hm, hlen, hel, -, -⟩
  · exact ⟨[], none, 0, hcs, by simp, .inl rfl, fun o ho => by cases ho⟩
  · have hmx : cap ≤ 9223372036854775807 := by unfold maxLen at hm; omega
    rw [hk] at hel
    by_cases h0 : len = 0
    · subst h0
      exact ⟨[], some a, cap, hcs, by simp, .inl rfl, fun o ho => by cases ho⟩
    have key0 : ∀ i, i < len → ∃ cs', W.cells? 0 (a.add (i * D.k)) D.k = some cs' ∧ ∃ y, DataW.trod enc Try.prog W 0 (fun _ => true) true n e cs' = some y := fun i hi => by
      have h := hel i hi
      rw [List.getElem?_eq_getElem (by omega)] at h
      cases hc : W.cells? 0 (a.add (i * D.k)) D.k with
      | none => rw [hc] at h; cases h
      | some cs' =>
        rw [hc] at h
        exact ⟨cs', rfl, _, h⟩
    obtain ⟨b, off, spot⟩ := a
    have hspot : spot = none := by
      obtain ⟨cs', h1, -⟩ := key0 0 (by omega)
      obtain ⟨_, hlen, hc⟩ := World.cells?_some h1
      have h2 := hc 0 (by omega)
      obtain ⟨c, hcc⟩ : ∃ c, cs'[0]? = some c := ⟨cs'[0]'(by omega), List.getElem?_eq_getElem _⟩
      rw [hcc] at h2
      simpa [Addr.add] using World.cell?_spot h2
    subst hspot
    have key : ∀ i, i < len → ∃ oc : α × List Value, oc.2.length = D.k ∧ D.E W AnyB oc.1 oc.2 ∧ Z oc.1 ∧ ∀ j, j < D.k → W.cell? ⟨b, off + i * D.k + j, none⟩ = oc.2[j]? := fun i hi => by
      obtain ⟨cs', h1, y, h2⟩ := key0 i hi
      obtain ⟨_, hlen', hc⟩ := World.cells?_some h1
      obtain ⟨o, ho, hz⟩ := el n cs' y (by omega) hlen' h2
      refine ⟨(o, cs'), hlen', ho, hz, fun j hj => ?_⟩
      have := hc j hj
      rwa [add_plain, add_plain] at this
    obtain ⟨q, hq⟩ : ∃ q : Nat → α × List Value, ∀ i, i < len → (q i).2.length = D.k ∧ D.E W AnyB (q i).1 (q i).2 ∧ Z (q i).1 ∧ ∀ j, j < D.k → W.cell? ⟨b, off + i * D.k + j, none⟩ = (q i).2[j]? := by
      obtain ⟨o0, -⟩ := key 0 (by omega)
      refine ⟨fun i => if h : i < len then Classical.choose (key i h) else o0, fun i hi => ?_⟩
      simp only [dif_pos hi]
      exact Classical.choose_spec (key i hi)
    have hb : b < W.heap.size := by
      have h := (hq 0 (by omega)).2.2.2 0 hp
      rw [List.getElem?_eq_getElem (by rw [(hq 0 (by omega)).1]; exact hp)] at h
      exact World.block_lt_of_cell? _ _ h
    have hrow : ∀ m, m ≤ len → ∃ cs2, Elems D W AnyB ((List.range m).map (fun i => (q i).1)) cs2 ∧ ∀ j, j < cs2.length → W.cell? ⟨b, off + j, none⟩ = cs2[j]? := fun m => by
      induction m with
      | zero => exact fun _ => ⟨[], Elems.nil _ _ _, fun j hj => by simp at hj⟩
      | succ m ih =>
        intro hm1
        obtain ⟨cs2, h1, h2⟩ := ih (by omega)
        obtain ⟨g1, g2, -, g4⟩ := hq m (by omega)
        have hcl := h1.1
        rw [List.length_map, List.length_range] at hcl
        refine ⟨cs2 ++ (q m).2, by rw [List.range_succ, List.map_append]; exact h1.snoc g2, fun j hj => ?_⟩
        by_cases hj2 : j < cs2.length
        · rw [h2 j hj2, List.getElem?_append_left hj2]
        · rw [List.length_append, g1] at hj
          have := g4 (j - cs2.length) (by omega)
          rw [List.getElem?_append_right (by omega), ← this]
          congr 2
          omega
    obtain ⟨cs2, h1, h2⟩ := hrow len (Nat.le_refl _)
    refine ⟨(List.range len).map (fun i => (q i).1), some ⟨b, off, none⟩, cap, by rw [List.length_map, List.length_range]; exact hcs, by rw [List.length_map, List.length_range]; omega, .inr ⟨b, off, cs2, rfl, trivial, hb, h2, h1⟩, fun o ho => ?_⟩
    obtain ⟨i, hi, rfl⟩ := List.mem_map.1 ho
    exact (hq i (List.mem_range.1 hi)).2.2.1
theorem fo_sz : ∀ l : List Ex, (∀ e ∈ l, SzE e ∧ RgE e) → SzF (ofL l) ∧ RgF (ofL l)
  | [], _ => ⟨trivial, trivial⟩
  | e :: l, h => by
    obtain ⟨h1, h2⟩ := h e (by simp)
    obtain ⟨h3, h4⟩ := fo_sz l (fun x hx => h x (List.mem_cons_of_mem _ hx))
    exact ⟨⟨h1.1, h1.2, h3⟩, h2.1, h2.2, h4⟩
set_option maxRecDepth 100000 in
set_option maxHeartbeats 1000000 in
theorem open_expr {H : Type} {enc : TypeId × Value → H} {W : World} : ∀ (fuel : Nat) (cs : List Value) (x : DataW H × List MemPlace), DataW.trod enc Try.prog W 0 (fun _ => true) true fuel 55 cs = some x → ∃ o, eE.E W AnyB o cs ∧ SzE o ∧ RgE o := fun fuel => by
  induction fuel using Nat.strongRecOn with
  | _ fuel ih =>
    intro cs x hf
    obtain ⟨xs, n, hfu, hx, hcl, hl, hg⟩ := DataW.trod_struct Try.underlying55 hf
    rw [cellsE] at hcl
    match cs, hcl, xs, hl with
    | [v0, v1, v2, v3, v4], _, [y0, y1, y2, y3, y4], _ =>
      have g0 := hg 0 _ rfl
      have g1 := hg 1 _ rfl
      have g2 := hg 2 _ rfl
      have g3 := hg 3 _ rfl
      have g4 := hg 4 _ rfl
      simp [cellsI, cellsI64, cellsSE] at g0 g1 g2 g3 g4
      obtain ⟨z0, e0, _, w0⟩ := DataW.trod_int Try.underlying3 g0
      obtain ⟨z1, e1, _, w1⟩ := DataW.trod_int Try.underlying2 g1
      obtain ⟨z2, e2, _, w2⟩ := DataW.trod_int Try.underlying2 g2
      obtain ⟨z3, e3, _, w3⟩ := DataW.trod_int Try.underlying3 g3
      obtain ⟨l, a, cap, e4, hl4, hR, hZ⟩ := open_row eE (fun o => SzE o ∧ RgE o) Try.underlying53 cellsE (by decide) g4 (fun m cs' x' hm _ h => ih m (by omega) cs' x' h)
      simp at e0 e1 e2 e3 e4
      subst e0 e1 e2 e3 e4
      obtain ⟨s1, s2⟩ := fo_sz l hZ
      refine ⟨⟨z0, z1, z2, z3, ofL l⟩, ⟨a, cap, by simp only [ofL_len], ⟨rg_of w0, rg_of w1, rg_of w2, rg_of w3⟩, fo_of_row hR⟩, ⟨by rw [ofL_len]; exact hl4, s1⟩, ⟨rg_of w0, rg_of w1, rg_of w2, rg_of w3⟩, s2⟩

end Go.Proofs.Ytjllaobiejahjaa


namespace Go.Proofs.Ytjllaobiejahjaa
open Go.ChangeShapes Go.WideShapes Go.ChangeAt Go.WideMaps Go.WideElems Go.RowKit

theorem cellsSS : Try.prog.cellsOf 43 = 1 := by kernel_rfl
theorem cellsSB : Try.prog.cellsOf 46 = 1 := by kernel_rfl
theorem cellsSC : Try.prog.cellsOf 49 = 1 := by kernel_rfl
theorem cellsSO : Try.prog.cellsOf 22 = 1 := by kernel_rfl
theorem cellsST : Try.prog.cellsOf 23 = 1 := by kernel_rfl
theorem cellsSG : Try.prog.cellsOf 24 = 1 := by kernel_rfl
theorem cellsSL : Try.prog.cellsOf 25 = 1 := by kernel_rfl
theorem cellsSK : Try.prog.cellsOf 26 = 1 := by kernel_rfl
theorem open_text {H : Type} {enc : TypeId × Value → H} {W : World} (fuel : Nat) (cs : List Value) (x : DataW H × List MemPlace) (hf : DataW.trod enc Try.prog W 0 (fun _ => true) true fuel 9 cs = some x) : ∃ o : List UInt8, eS.E W AnyB o cs ∧ o.length ≤ 9223372036854775807 := by
  obtain ⟨s, e, _, w⟩ := DataW.trod_string Try.underlying9 hf
  exact ⟨s.data.toList, by rw [e]; rfl, by have h : s.size ≤ maxLen := w; unfold maxLen at h; exact h⟩
set_option maxRecDepth 100000 in
set_option maxHeartbeats 1000000 in
theorem open_band {H : Type} {enc : TypeId × Value → H} {W : World} (fuel : Nat) (cs : List Value) (x : DataW H × List MemPlace) (hf : DataW.trod enc Try.prog W 0 (fun _ => true) true fuel 99 cs = some x) : ∃ o : Int × Int, eBd.E W AnyB o cs ∧ (True) := by
  obtain ⟨xs, n, hfu, hx, hcl, hl, hg⟩ := DataW.trod_struct Try.underlying99 hf
  rw [show Try.prog.cellsOf 99 = 2 from by kernel_rfl] at hcl
  match cs, hcl, xs, hl with
  | [v0, v1], _, [y0, y1], _ =>
    have g0 := hg 0 _ rfl
    have g1 := hg 1 _ rfl
    simp [cellsI64] at g0 g1
    obtain ⟨z0, e0, _, w0⟩ := DataW.trod_int Try.underlying2 g0
    obtain ⟨z1, e1, _, w1⟩ := DataW.trod_int Try.underlying2 g1
    simp at e0 e1
    subst e0
    subst e1
    exact ⟨(z0, z1), ⟨rfl, rg_of w0, rg_of w1⟩, trivial⟩
set_option maxRecDepth 100000 in
set_option maxHeartbeats 1000000 in
theorem open_group {H : Type} {enc : TypeId × Value → H} {W : World} (fuel : Nat) (cs : List Value) (x : DataW H × List MemPlace) (hf : DataW.trod enc Try.prog W 0 (fun _ => true) true fuel 78 cs = some x) : ∃ o : List UInt8 × Int, eG.E W AnyB o cs ∧ (o.1.length ≤ 9223372036854775807) := by
  obtain ⟨xs, n, hfu, hx, hcl, hl, hg⟩ := DataW.trod_struct Try.underlying78 hf
  rw [show Try.prog.cellsOf 78 = 2 from by kernel_rfl] at hcl
  match cs, hcl, xs, hl with
  | [v0, v1], _, [y0, y1], _ =>
    have g0 := hg 0 _ rfl
    have g1 := hg 1 _ rfl
    simp [cellsI, cellsS] at g0 g1
    obtain ⟨s0, e0, _, w0⟩ := DataW.trod_string Try.underlying9 g0
    have w0 : s0.data.toList.length ≤ 9223372036854775807 := by have h : s0.size ≤ maxLen := w0; unfold maxLen at h; exact h
    obtain ⟨z1, e1, _, w1⟩ := DataW.trod_int Try.underlying3 g1
    simp at e0 e1
    subst e0
    subst e1
    exact ⟨(s0.data.toList, z1), ⟨rfl, rg_of w1⟩, w0⟩
set_option maxRecDepth 100000 in
set_option maxHeartbeats 1000000 in
theorem open_options {H : Type} {enc : TypeId × Value → H} {W : World} (fuel : Nat) (cs : List Value) (x : DataW H × List MemPlace) (hf : DataW.trod enc Try.prog W 0 (fun _ => true) true fuel 45 cs = some x) : ∃ o : List UInt8 × List (List UInt8), eO.E W AnyB o cs ∧ (o.1.length ≤ 9223372036854775807 ∧ o.2.length ≤ 9223372036854775807 ∧ ∀ s ∈ o.2, s.length ≤ 9223372036854775807) := by
  obtain ⟨xs, n, hfu, hx, hcl, hl, hg⟩ := DataW.trod_struct Try.underlying45 hf
  rw [show Try.prog.cellsOf 45 = 2 from by kernel_rfl] at hcl
  match cs, hcl, xs, hl with
  | [v0, v1], _, [y0, y1], _ =>
    have g0 := hg 0 _ rfl
    have g1 := hg 1 _ rfl
    simp [cellsS, cellsSS] at g0 g1
    obtain ⟨s0, e0, _, w0⟩ := DataW.trod_string Try.underlying9 g0
    have w0 : s0.data.toList.length ≤ 9223372036854775807 := by have h : s0.size ≤ maxLen := w0; unfold maxLen at h; exact h
    obtain ⟨l1, a1, c1, e1, h1, R1, Z1⟩ := open_row eS (fun s => s.length ≤ 9223372036854775807) Try.underlying43 (by kernel_rfl) (by decide) g1 (fun m cs' x' _ _ h => open_text m cs' x' h)
    simp at e0 e1
    subst e0
    subst e1
    exact ⟨(s0.data.toList, l1), ⟨a1, c1, rfl, R1⟩, ⟨w0, h1, Z1⟩⟩
set_option maxRecDepth 100000 in
set_option maxHeartbeats 1000000 in
theorem open_table {H : Type} {enc : TypeId × Value → H} {W : World} (fuel : Nat) (cs : List Value) (x : DataW H × List MemPlace) (hf : DataW.trod enc Try.prog W 0 (fun _ => true) true fuel 48 cs = some x) : ∃ o : List UInt8 × List (Int × Int), eT.E W AnyB o cs ∧ (o.1.length ≤ 9223372036854775807 ∧ o.2.length ≤ 9223372036854775807 ∧ ∀ b ∈ o.2, Rg b.1 ∧ Rg b.2) := by
  obtain ⟨xs, n, hfu, hx, hcl, hl, hg⟩ := DataW.trod_struct Try.underlying48 hf
  rw [show Try.prog.cellsOf 48 = 2 from by kernel_rfl] at hcl
  match cs, hcl, xs, hl with
  | [v0, v1], _, [y0, y1], _ =>
    have g0 := hg 0 _ rfl
    have g1 := hg 1 _ rfl
    simp [cellsS, cellsSB] at g0 g1
    obtain ⟨s0, e0, _, w0⟩ := DataW.trod_string Try.underlying9 g0
    have w0 : s0.data.toList.length ≤ 9223372036854775807 := by have h : s0.size ≤ maxLen := w0; unfold maxLen at h; exact h
    obtain ⟨l1, a1, c1, e1, h1, R1, Z1⟩ := open_row eBd (fun b => Rg b.1 ∧ Rg b.2) Try.underlying46 (by kernel_rfl) (by decide) g1 (fun m cs' x' _ _ h => (open_band m cs' x' h).imp (fun o h => ⟨h.1, h.1.2⟩))
    simp at e0 e1
    subst e0
    subst e1
    exact ⟨(s0.data.toList, l1), ⟨a1, c1, rfl, R1⟩, ⟨w0, h1, Z1⟩⟩
set_option maxRecDepth 100000 in
set_option maxHeartbeats 1000000 in
theorem open_clause {H : Type} {enc : TypeId × Value → H} {W : World} (fuel : Nat) (cs : List Value) (x : DataW H × List MemPlace) (hf : DataW.trod enc Try.prog W 0 (fun _ => true) true fuel 57 cs = some x) : ∃ o : Cl, eC.E W AnyB o cs ∧ (SzC o ∧ RgC o) := by
  obtain ⟨xs, n, hfu, hx, hcl, hl, hg⟩ := DataW.trod_struct Try.underlying57 hf
  rw [show Try.prog.cellsOf 57 = 12 from by kernel_rfl] at hcl
  match cs, hcl, xs, hl with
  | [v0, v1, v2, v3, v4, v5, v6, v7, v8, v9, v10, v11], _, [y0, y1, y2, y3], _ =>
    have g0 := hg 0 _ rfl
    have g1 := hg 1 _ rfl
    have g2 := hg 2 _ rfl
    have g3 := hg 3 _ rfl
    simp [cellsI, cellsBo, cellsE] at g0 g1 g2 g3
    obtain ⟨z0, e0, _, w0⟩ := DataW.trod_int Try.underlying3 g0
    obtain ⟨z1, e1, _⟩ := DataW.trod_bool Try.underlying4 g1
    obtain ⟨x2, ⟨a2, c2, e2, r2, f2⟩, s2, t2⟩ := open_expr _ _ _ g2
    obtain ⟨x3, ⟨a3, c3, e3, r3, f3⟩, s3, t3⟩ := open_expr _ _ _ g3
    simp at e0 e1 e2 e3
    subst e0
    subst e1
    obtain ⟨e2_0, e2_1, e2_2, e2_3, e2_4⟩ := e2
    subst e2_0 e2_1 e2_2 e2_3 e2_4
    obtain ⟨e3_0, e3_1, e3_2, e3_3, e3_4⟩ := e3
    subst e3_0 e3_1 e3_2 e3_3 e3_4
    exact ⟨⟨z0, z1, x2, x3⟩, ⟨a2, c2, a3, c3, rfl, rg_of w0, ⟨r2, r3⟩, f2, f3⟩, ⟨⟨s2, s3⟩, rg_of w0, t2, t3⟩⟩
set_option maxRecDepth 100000 in
set_option maxHeartbeats 1000000 in
theorem open_line {H : Type} {enc : TypeId × Value → H} {W : World} (fuel : Nat) (cs : List Value) (x : DataW H × List MemPlace) (hf : DataW.trod enc Try.prog W 0 (fun _ => true) true fuel 51 cs = some x) : ∃ o : Ln, eL.E W AnyB o cs ∧ ((o.name.length ≤ 9223372036854775807 ∧ SzL o) ∧ RgL o) := by
  obtain ⟨xs, n, hfu, hx, hcl, hl, hg⟩ := DataW.trod_struct Try.underlying51 hf
  rw [show Try.prog.cellsOf 51 = 7 from by kernel_rfl] at hcl
  match cs, hcl, xs, hl with
  | [v0, v1, v2, v3, v4, v5, v6], _, [y0, y1, y2, y3, y4, y5, y6], _ =>
    have g0 := hg 0 _ rfl
    have g1 := hg 1 _ rfl
    have g2 := hg 2 _ rfl
    have g3 := hg 3 _ rfl
    have g4 := hg 4 _ rfl
    have g5 := hg 5 _ rfl
    have g6 := hg 6 _ rfl
    simp [cellsI, cellsS, cellsBo, cellsSC] at g0 g1 g2 g3 g4 g5 g6
    obtain ⟨s0, e0, _, w0⟩ := DataW.trod_string Try.underlying9 g0
    have w0 : s0.data.toList.length ≤ 9223372036854775807 := by have h : s0.size ≤ maxLen := w0; unfold maxLen at h; exact h
    obtain ⟨z1, e1, _⟩ := DataW.trod_bool Try.underlying4 g1
    obtain ⟨z2, e2, _⟩ := DataW.trod_bool Try.underlying4 g2
    obtain ⟨z3, e3, _, w3⟩ := DataW.trod_int Try.underlying3 g3
    obtain ⟨z4, e4, _, w4⟩ := DataW.trod_int Try.underlying3 g4
    obtain ⟨z5, e5, _, w5⟩ := DataW.trod_int Try.underlying3 g5
    obtain ⟨l6, a6, c6, e6, h6, R6, Z6⟩ := open_row eC (fun c => SzC c ∧ RgC c) Try.underlying49 (by kernel_rfl) (by decide) g6 (fun m cs' x' _ _ h => open_clause m cs' x' h)
    simp at e0 e1 e2 e3 e4 e5 e6
    subst e0
    subst e1
    subst e2
    subst e3
    subst e4
    subst e5
    subst e6
    exact ⟨⟨s0.data.toList, z1, z2, z3, z4, z5, l6⟩, ⟨a6, c6, rfl, ⟨rg_of w3, rg_of w4, rg_of w5⟩, R6⟩, ⟨⟨w0, h6, fun c hc => (Z6 c hc).1⟩, ⟨rg_of w3, rg_of w4, rg_of w5⟩, fun c hc => (Z6 c hc).2⟩⟩
set_option maxRecDepth 100000 in
set_option maxHeartbeats 1000000 in
theorem open_check {H : Type} {enc : TypeId × Value → H} {W : World} (fuel : Nat) (cs : List Value) (x : DataW H × List MemPlace) (hf : DataW.trod enc Try.prog W 0 (fun _ => true) true fuel 59 cs = some x) : ∃ o : Ck, eK.E W AnyB o cs ∧ ((o.name.length ≤ 9223372036854775807 ∧ o.text.length ≤ 9223372036854775807 ∧ SzE o.when_) ∧ RgK o) := by
  obtain ⟨xs, n, hfu, hx, hcl, hl, hg⟩ := DataW.trod_struct Try.underlying59 hf
  rw [show Try.prog.cellsOf 59 = 9 from by kernel_rfl] at hcl
  match cs, hcl, xs, hl with
  | [v0, v1, v2, v3, v4, v5, v6, v7, v8], _, [y0, y1, y2, y3, y4], _ =>
    have g0 := hg 0 _ rfl
    have g1 := hg 1 _ rfl
    have g2 := hg 2 _ rfl
    have g3 := hg 3 _ rfl
    have g4 := hg 4 _ rfl
    simp [cellsI, cellsS, cellsBo, cellsE] at g0 g1 g2 g3 g4
    obtain ⟨s0, e0, _, w0⟩ := DataW.trod_string Try.underlying9 g0
    have w0 : s0.data.toList.length ≤ 9223372036854775807 := by have h : s0.size ≤ maxLen := w0; unfold maxLen at h; exact h
    obtain ⟨z1, e1, _⟩ := DataW.trod_bool Try.underlying4 g1
    obtain ⟨z2, e2, _, w2⟩ := DataW.trod_int Try.underlying3 g2
    obtain ⟨x3, ⟨a3, c3, e3, r3, f3⟩, s3, t3⟩ := open_expr _ _ _ g3
    obtain ⟨s4, e4, _, w4⟩ := DataW.trod_string Try.underlying9 g4
    have w4 : s4.data.toList.length ≤ 9223372036854775807 := by have h : s4.size ≤ maxLen := w4; unfold maxLen at h; exact h
    simp at e0 e1 e2 e3 e4
    subst e0
    subst e1
    subst e2
    obtain ⟨e3_0, e3_1, e3_2, e3_3, e3_4⟩ := e3
    subst e3_0 e3_1 e3_2 e3_3 e3_4
    subst e4
    exact ⟨⟨s0.data.toList, z1, z2, x3, s4.data.toList⟩, ⟨a3, c3, rfl, rg_of w2, r3, f3⟩, ⟨⟨w0, w4, s3⟩, rg_of w2, t3⟩⟩
set_option maxRecDepth 100000 in
set_option maxHeartbeats 1000000 in
theorem open_pack {H : Type} {enc : TypeId × Value → H} {W : World} (fuel : Nat) (cs : List Value) (x : DataW H × List MemPlace) (hf : DataW.trod enc Try.prog W 0 (fun _ => true) true fuel 28 cs = some x) : ∃ o : Pk, PkE W AnyB o cs ∧ (SzP o ∧ RgP o) := by
  obtain ⟨xs, n, hfu, hx, hcl, hl, hg⟩ := DataW.trod_struct Try.underlying28 hf
  rw [show Try.prog.cellsOf 28 = 7 from by kernel_rfl] at hcl
  match cs, hcl, xs, hl with
  | [v0, v1, v2, v3, v4, v5, v6], _, [y0, y1, y2, y3, y4, y5, y6], _ =>
    have g0 := hg 0 _ rfl
    have g1 := hg 1 _ rfl
    have g2 := hg 2 _ rfl
    have g3 := hg 3 _ rfl
    have g4 := hg 4 _ rfl
    have g5 := hg 5 _ rfl
    have g6 := hg 6 _ rfl
    simp [cellsI, cellsS, cellsSG, cellsSK, cellsSL, cellsSO, cellsST] at g0 g1 g2 g3 g4 g5 g6
    obtain ⟨s0, e0, _, w0⟩ := DataW.trod_string Try.underlying9 g0
    have w0 : s0.data.toList.length ≤ 9223372036854775807 := by have h : s0.size ≤ maxLen := w0; unfold maxLen at h; exact h
    obtain ⟨z1, e1, _, w1⟩ := DataW.trod_int Try.underlying3 g1
    obtain ⟨l2, a2, c2, e2, h2, R2, Z2⟩ := open_row eO (fun o => o.1.length ≤ 9223372036854775807 ∧ o.2.length ≤ 9223372036854775807 ∧ ∀ s ∈ o.2, s.length ≤ 9223372036854775807) Try.underlying22 (by kernel_rfl) (by decide) g2 (fun m cs' x' _ _ h => open_options m cs' x' h)
    obtain ⟨l3, a3, c3, e3, h3, R3, Z3⟩ := open_row eT (fun o => o.1.length ≤ 9223372036854775807 ∧ o.2.length ≤ 9223372036854775807 ∧ ∀ b ∈ o.2, Rg b.1 ∧ Rg b.2) Try.underlying23 (by kernel_rfl) (by decide) g3 (fun m cs' x' _ _ h => open_table m cs' x' h)
    obtain ⟨l4, a4, c4, e4, h4, R4, Z4⟩ := open_row eG (fun o => o.1.length ≤ 9223372036854775807 ∧ Rg o.2) Try.underlying24 (by kernel_rfl) (by decide) g4 (fun m cs' x' _ _ h => (open_group m cs' x' h).imp (fun o h => ⟨h.1, h.2, h.1.2⟩))
    obtain ⟨l5, a5, c5, e5, h5, R5, Z5⟩ := open_row eL (fun o => (o.name.length ≤ 9223372036854775807 ∧ SzL o) ∧ RgL o) Try.underlying25 (by kernel_rfl) (by decide) g5 (fun m cs' x' _ _ h => open_line m cs' x' h)
    obtain ⟨l6, a6, c6, e6, h6, R6, Z6⟩ := open_row eK (fun o => (o.name.length ≤ 9223372036854775807 ∧ o.text.length ≤ 9223372036854775807 ∧ SzE o.when_) ∧ RgK o) Try.underlying26 (by kernel_rfl) (by decide) g6 (fun m cs' x' _ _ h => open_check m cs' x' h)
    simp at e0 e1 e2 e3 e4 e5 e6
    subst e0
    subst e1
    subst e2
    subst e3
    subst e4
    subst e5
    subst e6
    exact ⟨⟨s0.data.toList, z1, l2, l3, l4, l5, l6⟩, ⟨a2, c2, a3, c3, a4, c4, a5, c5, a6, c6, rfl, rg_of w1, R2, R3, R4, R5, R6⟩, ⟨w0, ⟨h2, Z2⟩, ⟨h3, fun o ho => ⟨(Z3 o ho).1, (Z3 o ho).2.1⟩⟩, ⟨h4, fun o ho => (Z4 o ho).1⟩, ⟨h5, fun o ho => (Z5 o ho).1⟩, ⟨h6, fun o ho => (Z6 o ho).1⟩⟩, ⟨rg_of w1, fun o ho => (Z3 o ho).2.2, fun o ho => (Z4 o ho).2, fun o ho => (Z5 o ho).2, fun o ho => (Z6 o ho).2⟩⟩

end Go.Proofs.Ytjllaobiejahjaa


namespace Go.Proofs.Ytjllaobiejahjaa
open Go.ChangeShapes Go.WideShapes Go.ChangeAt Go.WideMaps Go.WideElems Go.RowKit

theorem own : ownKnob Try.prog.godebug = none := by kernel_rfl
theorem cellsB : Try.prog.cellsOf 5 = 1 := by kernel_rfl
theorem laidOutP : laidOutB Try.prog = true := by kernel_rfl

theorem u8_nat {n : Int} (h : (Lit.int .u8 n).wf = true) : 0 ≤ n ∧ n < 256 := by
  simp [Lit.wf] at h
  have h1 : IntKind.u8.min = 0 := by decide
  have h2 : IntKind.u8.max = 255 := by decide
  rw [h1, h2] at h
  omega

set_option maxRecDepth 100000 in
/-- A list of bytes that came in. -/
theorem open_in {H : Type} {enc : TypeId × Value → H} {W : World} {base : Nat} {v : Value} {d : DataW H} {ps : List MemPlace} (hval : Value.okWide Try.prog W .any base 31 v)
    (h : DataW.Trod enc Try.prog W 0 (fun _ => true) true 31 v d ps) : ∃ a cap l, v = .slice a (List.length l) cap ∧ InB W a cap l := by
  obtain ⟨a0, len, cap, rfl⟩ := okWide_slice Try.underlying31 hval
  obtain ⟨fuel, hf⟩ := h
  rcases open_ints Try.underlying31 Try.underlying5 cellsB hf with ⟨hcs, hx⟩ | ⟨a, len', cap', zs, hcs, _, hl, hm, hz, hx, hcell, hwz⟩
  · simp [Value.cells] at hcs
    obtain ⟨rfl, rfl, rfl⟩ := hcs
    exact ⟨none, 0, [], rfl, .inl rfl, fun _ => rfl, Nat.le_refl _⟩
  · simp [Value.cells] at hcs
    obtain ⟨rfl, rfl, rfl⟩ := hcs
    simp only [Prod.mk.injEq] at hx
    obtain ⟨rfl, rfl⟩ := hx
    simp only [if_true] at hz
    have hlen : ((zs.take len).map (fun z => UInt8.ofNat z.toNat)).length = len := by rw [List.length_map, List.length_take]; omega
    refine ⟨some a, cap, (zs.take len).map (fun z => UInt8.ofNat z.toNat), by rw [hlen], ?_, fun h => (nomatch h), by rw [hlen]; exact hl⟩
    by_cases h0 : len = 0
    · left
      rw [h0]
      rfl
    · obtain ⟨b, off, rfl, hc⟩ := ints_at hcell (by omega)
      refine .inr ⟨b, off, rfl, World.block_lt_of_cell? _ _ (hc 0 (by omega)), fun i hi => ?_⟩
      rw [hlen] at hi
      have hiz : i < zs.length := by omega
      have hw := u8_nat (hwz _ (List.getElem_mem hiz))
      rw [hc i (by omega), List.getD_eq_getElem?_getD, List.getElem?_eq_getElem hiz]
      simp only [Option.getD_some, List.getElem_map, List.getElem_take]
      have e : (UInt8.ofNat (zs[i]).toNat).toNat = (zs[i]).toNat := by
        rw [UInt8.toNat_ofNat']
        omega
      rw [e, Int.toNat_of_nonneg hw.1]

end Go.Proofs.Ytjllaobiejahjaa


namespace Go.Proofs.Ytjllaobiejahjaa
open Go.RowKit

def YnQ (W : World) (e : Ending) (W' : World) : Prop := Below W.heap.size W W' ∧ ∃ b : Bool, e = .returned (.bool b)
theorem pke_any {W : World} {p : Pk} {cs : List Value} (h : PkE W AnyB p cs) : PkE W (fun b => b < W.heap.size) p cs := pke_mo h (fun _ hb _ => hb)
theorem pke_bel {W W' : World} {n : Nat} {p : Pk} {cs : List Value} (h : PkE W AnyB p cs) (hB : Below n W W') (hn : W.heap.size ≤ n) : PkE W' AnyB p cs := pke_fr h hB.size (fun b _ hlt => hB.block b (Nat.lt_of_lt_of_le hlt hn))
/-- A pack that is written and read again. -/
theorem put_cases (p : Pk) (cs : List Value) (hsz : SzP p) (W : World) (hE : PkE W AnyB p cs) : Calls Try.prog 8 #[.agg cs.toArray] W fun e W' => Below W.heap.size W W' ∧ (e = .returned (.tuple #[.slice none 0 0, .int .i64 72]) ∨ ∃ a cap l, e = .returned (.tuple #[.slice a (List.length l) cap, .int .i64 0]) ∧ InB W' a cap l ∧ Hid (l.length ≤ 131072 ∧ l = encP p ++ sum4 (fnvB (encP p)) ∧ okP p)) := by
  refine (put_any p cs hsz W (pke_any hE)).mono ?_
  rintro e W' ⟨hB, acc, b, hr, h⟩
  refine ⟨hB, ?_⟩
  rcases h with ⟨-, rfl⟩ | ⟨hb, pa, cap, rfl, ho, hl⟩
  · exact .inl rfl
  · obtain ⟨-, hacc, hok⟩ := hr.1 hb
    rw [List.nil_append] at hacc
    exact .inr ⟨pa, cap, acc, rfl, InB.of_own ho, ⟨hl, hacc, hok⟩⟩
theorem get_back (p : Pk) (hr : RgP p) (a : Option Addr) (cap : Nat) (l : List UInt8) (W : World) (h : InB W a cap l) (hl : l.length ≤ 131072 ∧ l = encP p ++ sum4 (fnvB (encP p)) ∧ okP p) : Calls Try.prog 10 #[.slice a l.length cap] W fun e W' => Below W.heap.size W W' ∧ ∃ (a3 : Option Addr) (c3 : Nat) (a4 : Option Addr) (c4 : Nat) (a5 : Option Addr) (c5 : Nat) (a6 : Option Addr) (c6 : Nat) (a7 : Option Addr) (c7 : Nat), e = .returned (.tuple #[.agg #[.string ⟨p.name.toArray⟩, .int .i64 p.year, .slice a3 p.opts.length c3, .slice a4 p.tabs.length c4, .slice a5 p.grps.length c5, .slice a6 p.lns.length c6, .slice a7 p.cks.length c7], .int .i64 0, .int .i64 0]) ∧ PkE W' AnyB p [.string ⟨p.name.toArray⟩, .int .i64 p.year, .slice a3 p.opts.length c3, .slice a4 p.tabs.length c4, .slice a5 p.grps.length c5, .slice a6 p.lns.length c6, .slice a7 p.cks.length c7] := by
  obtain ⟨hl1, hl2, hok⟩ := hl
  have hc := cPack hr hok [] (by rw [List.append_nil, ← hl2]; omega)
  rw [List.append_nil, ← hl2, if_pos rfl] at hc
  refine (get_any a cap l W h).mono ?_
  rintro e W' ⟨hB, ⟨h1, rfl⟩ | ⟨-, ft, er, h1, -⟩ | ⟨-, q, a2, cs, h1, rfl, hE⟩⟩
  · omega
  · rw [hc] at h1; cases h1
  · rw [hc] at h1
    cases h1
    have hE0 := hE
    obtain ⟨a3, c3, a4, c4, a5, c5, a6, c6, a7, c7, rfl, -⟩ := hE0
    exact ⟨hB, a3, c3, a4, c4, a5, c5, a6, c6, a7, c7, rfl, pke_mo hE (fun _ _ _ => trivial)⟩
theorem same_pack (p q : Pk) (hz : SzP p) (a3 a4 a5 a6 a7 a3q a4q a5q a6q a7q : Option Addr) (c3 c4 c5 c6 c7 c3q c4q c5q c6q c7q : Nat) (W : World) (hE : PkE W AnyB p [.string ⟨p.name.toArray⟩, .int .i64 p.year, .slice a3 p.opts.length c3, .slice a4 p.tabs.length c4, .slice a5 p.grps.length c5, .slice a6 p.lns.length c6, .slice a7 p.cks.length c7]) (hF : PkE W AnyB q [.string ⟨q.name.toArray⟩, .int .i64 q.year, .slice a3q q.opts.length c3q, .slice a4q q.tabs.length c4q, .slice a5q q.grps.length c5q, .slice a6q q.lns.length c6q, .slice a7q q.cks.length c7q]) : Calls Try.prog 11 #[.agg #[.string ⟨p.name.toArray⟩, .int .i64 p.year, .slice a3 p.opts.length c3, .slice a4 p.tabs.length c4, .slice a5 p.grps.length c5, .slice a6 p.lns.length c6, .slice a7 p.cks.length c7], .agg #[.string ⟨q.name.toArray⟩, .int .i64 q.year, .slice a3q q.opts.length c3q, .slice a4q q.tabs.length c4q, .slice a5q q.grps.length c5q, .slice a6q q.lns.length c6q, .slice a7q q.cks.length c7q]] W (SmP (p = q) W) := by
  obtain ⟨_, _, _, _, _, _, _, _, _, _, e, -, h3, h4, h5, h6, h7⟩ := hE
  simp only [List.cons.injEq, Value.slice.injEq, and_true, true_and] at e
  obtain ⟨⟨rfl, -⟩, ⟨rfl, -⟩, ⟨rfl, -⟩, ⟨rfl, -⟩, ⟨rfl, -⟩⟩ := e
  obtain ⟨_, _, _, _, _, _, _, _, _, _, e, -, g3, g4, g5, g6, g7⟩ := hF
  simp only [List.cons.injEq, Value.slice.injEq, and_true, true_and] at e
  obtain ⟨⟨rfl, -⟩, ⟨rfl, -⟩, ⟨rfl, -⟩, ⟨rfl, -⟩, ⟨rfl, -⟩⟩ := e
  refine (samePack_any p.name q.name p.year q.year p.opts q.opts p.tabs q.tabs p.grps q.grps p.lns q.lns p.cks q.cks _ _ _ _ _ _ _ _ _ _ _ _ _ _ _ _ _ _ _ _ W ⟨⟨hz.opts.1, fun x hx => (hz.opts.2 x hx).2.1⟩, ⟨hz.tabs.1, fun x hx => (hz.tabs.2 x hx).2⟩, hz.grps.1⟩ ⟨⟨hz.lns.1, fun x hx => (hz.lns.2 x hx).2⟩, hz.cks.1, fun x hx => (hz.cks.2 x hx).2.2⟩ h3 g3 h4 g4 h5 g5 h6 g6 h7 g7).mono ?_
  rintro e W' ⟨hB, r, rfl, hr⟩
  refine ⟨hB, r, rfl, hr.trans ⟨fun h => ?_, fun h => ?_⟩⟩
  · obtain ⟨⟨h1, h2, h3, h4, h5⟩, h6, h7⟩ := h
    obtain ⟨_, _, _, _, _, _, _⟩ := p
    obtain ⟨_, _, _, _, _, _, _⟩ := q
    cases h1; cases h2; cases h3; cases h4; cases h5; cases h6; cases h7
    rfl
  · subst h
    exact ⟨⟨rfl, rfl, rfl, rfl, rfl⟩, rfl, rfl⟩
set_option maxRecDepth 8000 in
set_option maxHeartbeats 1000000 in
theorem round_walk (p : Pk) (a3 a4 a5 a6 a7 : Option Addr) (c3 c4 c5 c6 c7 : Nat) (hz : SzP p) (hr : RgP p) (W : World) (hE : PkE W AnyB p [.string ⟨p.name.toArray⟩, .int .i64 p.year, .slice a3 p.opts.length c3, .slice a4 p.tabs.length c4, .slice a5 p.grps.length c5, .slice a6 p.lns.length c6, .slice a7 p.cks.length c7]) (hsmall : ∀ X, PkE X AnyB p [.string ⟨p.name.toArray⟩, .int .i64 p.year, .slice a3 p.opts.length c3, .slice a4 p.tabs.length c4, .slice a5 p.grps.length c5, .slice a6 p.lns.length c6, .slice a7 p.cks.length c7] → Calls Try.prog 7 #[.agg #[.string ⟨p.name.toArray⟩, .int .i64 p.year, .slice a3 p.opts.length c3, .slice a4 p.tabs.length c4, .slice a5 p.grps.length c5, .slice a6 p.lns.length c6, .slice a7 p.cks.length c7]] X (YnQ X)) : Calls Try.prog 3 #[.agg #[.string ⟨p.name.toArray⟩, .int .i64 p.year, .slice a3 p.opts.length c3, .slice a4 p.tabs.length c4, .slice a5 p.grps.length c5, .slice a6 p.lns.length c6, .slice a7 p.cks.length c7]] W fun e W' => e = .returned (.bool true) ∧ Below W.heap.size W W' := by
  have hB0 : Below W.heap.size W (W.alloc (.cells #[.string ⟨p.name.toArray⟩, .int .i64 p.year, .slice a3 p.opts.length c3, .slice a4 p.tabs.length c4, .slice a5 p.grps.length c5, .slice a6 p.lns.length c6, .slice a7 p.cks.length c7] 28)) := (Below.refl _ _).alloc (Nat.le_refl _) _
  have hsz : (W.alloc (.cells #[.string ⟨p.name.toArray⟩, .int .i64 p.year, .slice a3 p.opts.length c3, .slice a4 p.tabs.length c4, .slice a5 p.grps.length c5, .slice a6 p.lns.length c6, .slice a7 p.cks.length c7] 28)).heap.size = W.heap.size + 1 := by simp
  have hbx := (bx_new W #[.string ⟨p.name.toArray⟩, .int .i64 p.year, .slice a3 p.opts.length c3, .slice a4 p.tabs.length c4, .slice a5 p.grps.length c5, .slice a6 p.lns.length c6, .slice a7 p.cks.length c7] 28).2.1
  have hkn := known_any (W.alloc (.cells #[.string ⟨p.name.toArray⟩, .int .i64 p.year, .slice a3 p.opts.length c3, .slice a4 p.tabs.length c4, .slice a5 p.grps.length c5, .slice a6 p.lns.length c6, .slice a7 p.cks.length c7] 28))
  have hE1 := pke_bel hE hB0 (Nat.le_refl _)
  clear hE
  go_enter Try.func3, Try.ntmps3
  go_wp2_with (first | (go_at_call 6; go_loud (refine hkn.mono ?_; clear hkn; rintro e w1 ⟨rfl, hB1⟩; have q0 : w1.cell? ⟨W.heap.size, 0, none⟩ = some (.string ⟨p.name.toArray⟩) := (bel_cell hB1 (by rw [hsz]; omega) 0).trans (hbx 0 (by simp)); have q1 : w1.cell? ⟨W.heap.size, 1, none⟩ = some (.int .i64 p.year) := (bel_cell hB1 (by rw [hsz]; omega) 1).trans (hbx 1 (by simp)); have q2 : w1.cell? ⟨W.heap.size, 2, none⟩ = some (.slice a3 p.opts.length c3) := (bel_cell hB1 (by rw [hsz]; omega) 2).trans (hbx 2 (by simp)); have q3 : w1.cell? ⟨W.heap.size, 3, none⟩ = some (.slice a4 p.tabs.length c4) := (bel_cell hB1 (by rw [hsz]; omega) 3).trans (hbx 3 (by simp)); have q4 : w1.cell? ⟨W.heap.size, 4, none⟩ = some (.slice a5 p.grps.length c5) := (bel_cell hB1 (by rw [hsz]; omega) 4).trans (hbx 4 (by simp)); have q5 : w1.cell? ⟨W.heap.size, 5, none⟩ = some (.slice a6 p.lns.length c6) := (bel_cell hB1 (by rw [hsz]; omega) 5).trans (hbx 5 (by simp)); have q6 : w1.cell? ⟨W.heap.size, 6, none⟩ = some (.slice a7 p.cks.length c7) := (bel_cell hB1 (by rw [hsz]; omega) 6).trans (hbx 6 (by simp)); have hE2 := pke_bel hE1 hB1 (Nat.le_refl _); have hs := hsmall w1 hE2)) | (go_at_call 7; go_loud (refine hs.mono ?_; clear hs; rintro e w2 ⟨hB2, r, rfl⟩; have hB12 := Below.tr hB1 hB2 hB1.size; have u0 : w2.cell? ⟨W.heap.size, 0, none⟩ = some (.string ⟨p.name.toArray⟩) := (bel_cell hB12 (by rw [hsz]; omega) 0).trans (hbx 0 (by simp)); have u1 : w2.cell? ⟨W.heap.size, 1, none⟩ = some (.int .i64 p.year) := (bel_cell hB12 (by rw [hsz]; omega) 1).trans (hbx 1 (by simp)); have u2 : w2.cell? ⟨W.heap.size, 2, none⟩ = some (.slice a3 p.opts.length c3) := (bel_cell hB12 (by rw [hsz]; omega) 2).trans (hbx 2 (by simp)); have u3 : w2.cell? ⟨W.heap.size, 3, none⟩ = some (.slice a4 p.tabs.length c4) := (bel_cell hB12 (by rw [hsz]; omega) 3).trans (hbx 3 (by simp)); have u4 : w2.cell? ⟨W.heap.size, 4, none⟩ = some (.slice a5 p.grps.length c5) := (bel_cell hB12 (by rw [hsz]; omega) 4).trans (hbx 4 (by simp)); have u5 : w2.cell? ⟨W.heap.size, 5, none⟩ = some (.slice a6 p.lns.length c6) := (bel_cell hB12 (by rw [hsz]; omega) 5).trans (hbx 5 (by simp)); have u6 : w2.cell? ⟨W.heap.size, 6, none⟩ = some (.slice a7 p.cks.length c7) := (bel_cell hB12 (by rw [hsz]; omega) 6).trans (hbx 6 (by simp)); have hE3 := pke_bel hE2 hB2 (Nat.le_refl _); have hput := put_cases p _ hz w2 hE3; clear q0 q1 q2 q3 q4 q5 q6; cases r)))
  · have hfin := Below.tr hB0 hB12 (by rw [hsz]; omega)
    go_wp2
    go_ret
    exact ⟨rfl, hfin⟩
  · go_wp2_with (first | (go_at_call 8; go_loud (refine hput.mono ?_; clear hput; rintro e w3 ⟨hB3, rfl | ⟨a, cap, l, rfl, hI, hl⟩⟩)))
    · have hfin := Below.tr hB0 (Below.tr hB12 hB3 hB12.size) (by rw [hsz]; omega)
      clear hE1 hE2 hE3
      go_wp2_with ((go_at_call 9; refine (num_any _ _).mono ?_; rintro e w ⟨rfl, rfl⟩))
      go_ret
      exact ⟨rfl, hfin⟩
    · have hB13 := Below.tr hB12 hB3 hB12.size
      have hE4 := pke_bel hE3 hB3 (Nat.le_refl _)
      have hget := get_back p hr a cap l w3 hI hl.out
      have hl131 : (l.length : Int) ≤ 131072 := by have := hl.out.1; omega
      clear hE1 hE2 hE3 u0 u1 u2 u3 u4 u5 u6
      go_wp2_with (first | (go_at_call 10; go_loud (refine hget.mono ?_; clear hget; rintro e w4 ⟨hB4, a3q, c3q, a4q, c4q, a5q, c5q, a6q, c6q, a7q, c7q, rfl, hEq⟩; have hB14 := Below.tr hB13 hB4 hB13.size; have hBn : Below w4.heap.size w4 (w4.alloc (.cells #[.string ⟨p.name.toArray⟩, .int .i64 p.year, .slice a3q p.opts.length c3q, .slice a4q p.tabs.length c4q, .slice a5q p.grps.length c5q, .slice a6q p.lns.length c6q, .slice a7q p.cks.length c7q] 28)) := (Below.refl _ _).alloc (Nat.le_refl _) _; have hB15 := Below.tr hB14 hBn hB14.size; have v0 : (w4.alloc (.cells #[.string ⟨p.name.toArray⟩, .int .i64 p.year, .slice a3q p.opts.length c3q, .slice a4q p.tabs.length c4q, .slice a5q p.grps.length c5q, .slice a6q p.lns.length c6q, .slice a7q p.cks.length c7q] 28)).cell? ⟨W.heap.size, 0, none⟩ = some (.string ⟨p.name.toArray⟩) := (bel_cell hB15 (by rw [hsz]; omega) 0).trans (hbx 0 (by simp)); have v1 : (w4.alloc (.cells #[.string ⟨p.name.toArray⟩, .int .i64 p.year, .slice a3q p.opts.length c3q, .slice a4q p.tabs.length c4q, .slice a5q p.grps.length c5q, .slice a6q p.lns.length c6q, .slice a7q p.cks.length c7q] 28)).cell? ⟨W.heap.size, 1, none⟩ = some (.int .i64 p.year) := (bel_cell hB15 (by rw [hsz]; omega) 1).trans (hbx 1 (by simp)); have v2 : (w4.alloc (.cells #[.string ⟨p.name.toArray⟩, .int .i64 p.year, .slice a3q p.opts.length c3q, .slice a4q p.tabs.length c4q, .slice a5q p.grps.length c5q, .slice a6q p.lns.length c6q, .slice a7q p.cks.length c7q] 28)).cell? ⟨W.heap.size, 2, none⟩ = some (.slice a3 p.opts.length c3) := (bel_cell hB15 (by rw [hsz]; omega) 2).trans (hbx 2 (by simp)); have v3 : (w4.alloc (.cells #[.string ⟨p.name.toArray⟩, .int .i64 p.year, .slice a3q p.opts.length c3q, .slice a4q p.tabs.length c4q, .slice a5q p.grps.length c5q, .slice a6q p.lns.length c6q, .slice a7q p.cks.length c7q] 28)).cell? ⟨W.heap.size, 3, none⟩ = some (.slice a4 p.tabs.length c4) := (bel_cell hB15 (by rw [hsz]; omega) 3).trans (hbx 3 (by simp)); have v4 : (w4.alloc (.cells #[.string ⟨p.name.toArray⟩, .int .i64 p.year, .slice a3q p.opts.length c3q, .slice a4q p.tabs.length c4q, .slice a5q p.grps.length c5q, .slice a6q p.lns.length c6q, .slice a7q p.cks.length c7q] 28)).cell? ⟨W.heap.size, 4, none⟩ = some (.slice a5 p.grps.length c5) := (bel_cell hB15 (by rw [hsz]; omega) 4).trans (hbx 4 (by simp)); have v5 : (w4.alloc (.cells #[.string ⟨p.name.toArray⟩, .int .i64 p.year, .slice a3q p.opts.length c3q, .slice a4q p.tabs.length c4q, .slice a5q p.grps.length c5q, .slice a6q p.lns.length c6q, .slice a7q p.cks.length c7q] 28)).cell? ⟨W.heap.size, 5, none⟩ = some (.slice a6 p.lns.length c6) := (bel_cell hB15 (by rw [hsz]; omega) 5).trans (hbx 5 (by simp)); have v6 : (w4.alloc (.cells #[.string ⟨p.name.toArray⟩, .int .i64 p.year, .slice a3q p.opts.length c3q, .slice a4q p.tabs.length c4q, .slice a5q p.grps.length c5q, .slice a6q p.lns.length c6q, .slice a7q p.cks.length c7q] 28)).cell? ⟨W.heap.size, 6, none⟩ = some (.slice a7 p.cks.length c7) := (bel_cell hB15 (by rw [hsz]; omega) 6).trans (hbx 6 (by simp)); have hbq := (bx_new w4 #[.string ⟨p.name.toArray⟩, .int .i64 p.year, .slice a3q p.opts.length c3q, .slice a4q p.tabs.length c4q, .slice a5q p.grps.length c5q, .slice a6q p.lns.length c6q, .slice a7q p.cks.length c7q] 28).2.1; have hE5 := pke_bel (pke_bel hE4 hB4 (Nat.le_refl _)) hBn (Nat.le_refl _); have hsp := same_pack p p hz a3 a4 a5 a6 a7 a3q a4q a5q a6q a7q c3 c4 c5 c6 c7 c3q c4q c5q c6q c7q _ hE5 (pke_bel hEq hBn (Nat.le_refl _)); clear hE4 hE5 hEq)) | (go_at_call 11; go_loud (refine hsp.mono ?_; clear hsp; rintro e w6 ⟨hB6, r6, rfl, hr6⟩; have hr6 : r6 = true := hr6.2 (by trivial); subst hr6; have hB16 := Below.tr hB15 hB6 hB15.size)) | (go_at_call 9; refine (num_any _ _).mono ?_; rintro e w ⟨rfl, rfl⟩))
      have hfin := Below.tr hB0 hB16 (by rw [hsz]; omega)
      go_ret
      exact ⟨rfl, hfin⟩
end Go.Proofs.Ytjllaobiejahjaa
