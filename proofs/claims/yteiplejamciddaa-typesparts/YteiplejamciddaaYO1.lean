import Derived.Test.YteiplejamciddaaYB
import Derived.Test.YteiplejamciddaaRows
import Derived.ProofKit
import Derived.OpenShut
import Derived.SizedLaws
import Derived.Deep.Slices
namespace Go.Proofs.Yteiplejamciddaa
open Go.ChangeShapes Go.WideShapes Go.ChangeAt Go.WideMaps Go.WideElems Go.RowKit

theorem cellsI : Try.prog.cellsOf 3 = 1 := by kernel_rfl
theorem cellsI64 : Try.prog.cellsOf 2 = 1 := by kernel_rfl
theorem cellsS : Try.prog.cellsOf 9 = 1 := by kernel_rfl
theorem cellsBo : Try.prog.cellsOf 4 = 1 := by kernel_rfl
theorem cellsE : Try.prog.cellsOf 31 = 5 := by kernel_rfl
theorem cellsSE : Try.prog.cellsOf 29 = 1 := by kernel_rfl

theorem rg_of {n : Int} (h : (Lit.int .i64 n).wf = true) : Rg n := by
  simp [Lit.wf] at h
  exact h
set_option maxRecDepth 100000 in
/-- A list that came in, whatever its items are. -/
theorem open_row {α : Type} (D : Elt α) (Z : α → Prop) {t e : TypeId} (ht : Try.prog.underlying t = some (.slice e)) (hk : Try.prog.cellsOf e = D.k) (hp : 0 < D.k) {H : Type} {enc : TypeId × Value → H} {W : World} {fuel : Nat} {cs : List Value} {x : DataW H × List MemPlace} (hf : DataW.trod enc Try.prog W 0 (fun _ => true) true fuel t cs = some x)
    (el : ∀ (n : Nat) (cs' : List Value) (x' : DataW H × List MemPlace), n < fuel → cs'.length = D.k → DataW.trod enc Try.prog W 0 (fun _ => true) true n e cs' = some x' → ∃ o, D.E W AnyB o cs' ∧ Z o) : ∃ (l : List α) (a : Option Addr) (cap : Nat), cs = [.slice a l.length cap] ∧ l.length ≤ 9223372036854775807 ∧ RowR D W AnyB l a ∧ ∀ o ∈ l, Z o := by
  rcases DataW.trod_slice ht hf with ⟨hcs, hx⟩ | ⟨a, len, cap, elems, rest, n, hfu, hcs, hx, _, hl, hm, hlen, hel, -, -⟩
  · exact ⟨[], none, 0, hcs, by simp, .inl rfl, fun o ho => by cases ho⟩
  · have hmx : cap ≤ 9223372036854775807 := by unfold maxLen at hm; omega
    rw [hk] at hel
    by_cases h0 : len = 0
    · subst h0
      exact ⟨[], some a, cap, hcs, by simp, .inl rfl, fun o ho => by cases ho⟩
    have key0 : ∀ i, i < len → ∃ cs', W.cells? 0 (a.add (i * D.k)) D.k = some cs' ∧ ∃ y, DataW.trod enc Try.prog W 0 (fun _ => true) true n e cs' = some y := fun i hi => by
      have h := hel i hi
      rw [List.getElem?_eq_getElem (by omega)] at h
      cases hc : W.cells? 0 (a.add (i * D.k)) D.k with
      | none => rw [hc] at h; cases h
      | some cs' =>
        rw [hc] at h
        exact ⟨cs', rfl, _, h⟩
    obtain ⟨b, off, spot⟩ := a
    have hspot : spot = none := by
      obtain ⟨cs', h1, -⟩ := key0 0 (by omega)
      obtain ⟨_, hlen, hc⟩ := World.cells?_some h1
      have h2 := hc 0 (by omega)
      obtain ⟨c, hcc⟩ : ∃ c, cs'[0]? = some c := ⟨cs'[0]'(by omega), List.getElem?_eq_getElem _⟩
      rw [hcc] at h2
      simpa [Addr.add] using World.cell?_spot h2
    subst hspot
    have key : ∀ i, i < len → ∃ oc : α × List Value, oc.2.length = D.k ∧ D.E W AnyB oc.1 oc.2 ∧ Z oc.1 ∧ ∀ j, j < D.k → W.cell? ⟨b, off + i * D.k + j, none⟩ = oc.2[j]? := fun i hi => by
      obtain ⟨cs', h1, y, h2⟩ := key0 i hi
      obtain ⟨_, hlen', hc⟩ := World.cells?_some h1
      obtain ⟨o, ho, hz⟩ := el n cs' y (by omega) hlen' h2
      refine ⟨(o, cs'), hlen', ho, hz, fun j hj => ?_⟩
      have := hc j hj
      rwa [add_plain, add_plain] at this
    obtain ⟨q, hq⟩ : ∃ q : Nat → α × List Value, ∀ i, i < len → (q i).2.length = D.k ∧ D.E W AnyB (q i).1 (q i).2 ∧ Z (q i).1 ∧ ∀ j, j < D.k → W.cell? ⟨b, off + i * D.k + j, none⟩ = (q i).2[j]? := by
      obtain ⟨o0, -⟩ := key 0 (by omega)
      refine ⟨fun i => if h : i < len then Classical.choose (key i h) else o0, fun i hi => ?_⟩
      simp only [dif_pos hi]
      exact Classical.choose_spec (key i hi)
    have hb : b < W.heap.size := by
      have h := (hq 0 (by omega)).2.2.2 0 hp
      rw [List.getElem?_eq_getElem (by rw [(hq 0 (by omega)).1]; exact hp)] at h
      exact World.block_lt_of_cell? _ _ h
    have hrow : ∀ m, m ≤ len → ∃ cs2, Elems D W AnyB ((List.range m).map (fun i => (q i).1)) cs2 ∧ ∀ j, j < cs2.length → W.cell? ⟨b, off + j, none⟩ = cs2[j]? := fun m => by
      induction m with
      | zero => exact fun _ => ⟨[], Elems.nil _ _ _, fun j hj => by simp at hj⟩
      | succ m ih =>
        intro hm1
        obtain ⟨cs2, h1, h2⟩ := ih (by omega)
        obtain ⟨g1, g2, -, g4⟩ := hq m (by omega)
        have hcl := h1.1
        rw [List.length_map, List.length_range] at hcl
        refine ⟨cs2 ++ (q m).2, by rw [List.range_succ, List.map_append]; exact h1.snoc g2, fun j hj => ?_⟩
        by_cases hj2 : j < cs2.length
        · rw [h2 j hj2, List.getElem?_append_left hj2]
        · rw [List.length_append, g1] at hj
          have := g4 (j - cs2.length) (by omega)
          rw [List.getElem?_append_right (by omega), ← this]
          congr 2
          omega
    obtain ⟨cs2, h1, h2⟩ := hrow len (Nat.le_refl _)
    refine ⟨(List.range len).map (fun i => (q i).1), some ⟨b, off, none⟩, cap, by rw [List.length_map, List.length_range]; exact hcs, by rw [List.length_map, List.length_range]; omega, .inr ⟨b, off, cs2, rfl, trivial, hb, h2, h1⟩, fun o ho => ?_⟩
    obtain ⟨i, hi, rfl⟩ := List.mem_map.1 ho
    exact (hq i (List.mem_range.1 hi)).2.2.1
theorem fo_sz : ∀ l : List Ex, (∀ e ∈ l, SzE e ∧ RgE e) → SzF (ofL l) ∧ RgF (ofL l)
  | [], _ => ⟨trivial, trivial⟩
  | e :: l, h => by
    obtain ⟨h1, h2⟩ := h e (by simp)
    obtain ⟨h3, h4⟩ := fo_sz l (fun x hx => h x (List.mem_cons_of_mem _ hx))
    exact ⟨⟨h1.1, h1.2, h3⟩, h2.1, h2.2, h4⟩
set_option maxRecDepth 100000 in
set_option maxHeartbeats 1000000 in
theorem open_expr {H : Type} {enc : TypeId × Value → H} {W : World} : ∀ (fuel : Nat) (cs : List Value) (x : DataW H × List MemPlace), DataW.trod enc Try.prog W 0 (fun _ => true) true fuel 31 cs = some x → ∃ o, eE.E W AnyB o cs ∧ SzE o ∧ RgE o := fun fuel => by
  induction fuel using Nat.strongRecOn with
  | _ fuel ih =>
    intro cs x hf
    obtain ⟨xs, n, hfu, hx, hcl, hl, hg⟩ := DataW.trod_struct Try.underlying31 hf
    rw [cellsE] at hcl
    match cs, hcl, xs, hl with
    | [v0, v1, v2, v3, v4], _, [y0, y1, y2, y3, y4], _ =>
      have g0 := hg 0 _ rfl
      have g1 := hg 1 _ rfl
      have g2 := hg 2 _ rfl
      have g3 := hg 3 _ rfl
      have g4 := hg 4 _ rfl
      simp [cellsI, cellsI64, cellsSE] at g0 g1 g2 g3 g4
      obtain ⟨z0, e0, _, w0⟩ := DataW.trod_int Try.underlying3 g0
      obtain ⟨z1, e1, _, w1⟩ := DataW.trod_int Try.underlying2 g1
      obtain ⟨z2, e2, _, w2⟩ := DataW.trod_int Try.underlying2 g2
      obtain ⟨z3, e3, _, w3⟩ := DataW.trod_int Try.underlying3 g3
      obtain ⟨l, a, cap, e4, hl4, hR, hZ⟩ := open_row eE (fun o => SzE o ∧ RgE o) Try.underlying29 cellsE (by decide) g4 (fun m cs' x' hm _ h => ih m (by omega) cs' x' h)
      simp at e0 e1 e2 e3 e4
      subst e0 e1 e2 e3 e4
      obtain ⟨s1, s2⟩ := fo_sz l hZ
      refine ⟨⟨z0, z1, z2, z3, ofL l⟩, ⟨a, cap, by simp only [ofL_len], ⟨rg_of w0, rg_of w1, rg_of w2, rg_of w3⟩, fo_of_row hR⟩, ⟨by rw [ofL_len]; exact hl4, s1⟩, ⟨rg_of w0, rg_of w1, rg_of w2, rg_of w3⟩, s2⟩

end Go.Proofs.Yteiplejamciddaa
