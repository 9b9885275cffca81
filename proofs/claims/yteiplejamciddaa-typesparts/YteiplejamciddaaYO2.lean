import Derived.Test.YteiplejamciddaaYO1
namespace Go.Proofs.Yteiplejamciddaa
open Go.ChangeShapes Go.WideShapes Go.ChangeAt Go.WideMaps Go.WideElems Go.RowKit

theorem cellsSS : Try.prog.cellsOf 61 = 1 := by kernel_rfl
theorem cellsSB : Try.prog.cellsOf 101 = 1 := by kernel_rfl
theorem cellsSC : Try.prog.cellsOf 47 = 1 := by kernel_rfl
theorem cellsSO : Try.prog.cellsOf 22 = 1 := by kernel_rfl
theorem cellsST : Try.prog.cellsOf 23 = 1 := by kernel_rfl
theorem cellsSG : Try.prog.cellsOf 24 = 1 := by kernel_rfl
theorem cellsSL : Try.prog.cellsOf 25 = 1 := by kernel_rfl
theorem cellsSK : Try.prog.cellsOf 26 = 1 := by kernel_rfl
theorem open_text {H : Type} {enc : TypeId × Value → H} {W : World} (fuel : Nat) (cs : List Value) (x : DataW H × List MemPlace) (hf : DataW.trod enc Try.prog W 0 (fun _ => true) true fuel 9 cs = some x) : ∃ o : List UInt8, eS.E W AnyB o cs ∧ o.length ≤ 9223372036854775807 := by
  obtain ⟨s, e, _, w⟩ := DataW.trod_string Try.underlying9 hf
  exact ⟨s.data.toList, by rw [e]; rfl, by have h : s.size ≤ maxLen := w; unfold maxLen at h; exact h⟩
set_option maxRecDepth 100000 in
set_option maxHeartbeats 1000000 in
theorem open_band {H : Type} {enc : TypeId × Value → H} {W : World} (fuel : Nat) (cs : List Value) (x : DataW H × List MemPlace) (hf : DataW.trod enc Try.prog W 0 (fun _ => true) true fuel 129 cs = some x) : ∃ o : Int × Int, eBd.E W AnyB o cs ∧ (True) := by
  obtain ⟨xs, n, hfu, hx, hcl, hl, hg⟩ := DataW.trod_struct Try.underlying129 hf
  rw [show Try.prog.cellsOf 129 = 2 from by kernel_rfl] at hcl
  match cs, hcl, xs, hl with
  | [v0, v1], _, [y0, y1], _ =>
    have g0 := hg 0 _ rfl
    have g1 := hg 1 _ rfl
    simp [cellsI64] at g0 g1
    obtain ⟨z0, e0, _, w0⟩ := DataW.trod_int Try.underlying2 g0
    obtain ⟨z1, e1, _, w1⟩ := DataW.trod_int Try.underlying2 g1
    simp at e0 e1
    subst e0
    subst e1
    exact ⟨(z0, z1), ⟨rfl, rg_of w0, rg_of w1⟩, trivial⟩
set_option maxRecDepth 100000 in
set_option maxHeartbeats 1000000 in
theorem open_group {H : Type} {enc : TypeId × Value → H} {W : World} (fuel : Nat) (cs : List Value) (x : DataW H × List MemPlace) (hf : DataW.trod enc Try.prog W 0 (fun _ => true) true fuel 70 cs = some x) : ∃ o : List UInt8 × Int, eG.E W AnyB o cs ∧ (o.1.length ≤ 9223372036854775807) := by
  obtain ⟨xs, n, hfu, hx, hcl, hl, hg⟩ := DataW.trod_struct Try.underlying70 hf
  rw [show Try.prog.cellsOf 70 = 2 from by kernel_rfl] at hcl
  match cs, hcl, xs, hl with
  | [v0, v1], _, [y0, y1], _ =>
    have g0 := hg 0 _ rfl
    have g1 := hg 1 _ rfl
    simp [cellsI, cellsS] at g0 g1
    obtain ⟨s0, e0, _, w0⟩ := DataW.trod_string Try.underlying9 g0
    have w0 : s0.data.toList.length ≤ 9223372036854775807 := by have h : s0.size ≤ maxLen := w0; unfold maxLen at h; exact h
    obtain ⟨z1, e1, _, w1⟩ := DataW.trod_int Try.underlying3 g1
    simp at e0 e1
    subst e0
    subst e1
    exact ⟨(s0.data.toList, z1), ⟨rfl, rg_of w1⟩, w0⟩
set_option maxRecDepth 100000 in
set_option maxHeartbeats 1000000 in
theorem open_options {H : Type} {enc : TypeId × Value → H} {W : World} (fuel : Nat) (cs : List Value) (x : DataW H × List MemPlace) (hf : DataW.trod enc Try.prog W 0 (fun _ => true) true fuel 96 cs = some x) : ∃ o : List UInt8 × List (List UInt8), eO.E W AnyB o cs ∧ (o.1.length ≤ 9223372036854775807 ∧ o.2.length ≤ 9223372036854775807 ∧ ∀ s ∈ o.2, s.length ≤ 9223372036854775807) := by
  obtain ⟨xs, n, hfu, hx, hcl, hl, hg⟩ := DataW.trod_struct Try.underlying96 hf
  rw [show Try.prog.cellsOf 96 = 2 from by kernel_rfl] at hcl
  match cs, hcl, xs, hl with
  | [v0, v1], _, [y0, y1], _ =>
    have g0 := hg 0 _ rfl
    have g1 := hg 1 _ rfl
    simp [cellsS, cellsSS] at g0 g1
    obtain ⟨s0, e0, _, w0⟩ := DataW.trod_string Try.underlying9 g0
    have w0 : s0.data.toList.length ≤ 9223372036854775807 := by have h : s0.size ≤ maxLen := w0; unfold maxLen at h; exact h
    obtain ⟨l1, a1, c1, e1, h1, R1, Z1⟩ := open_row eS (fun s => s.length ≤ 9223372036854775807) Try.underlying61 (by kernel_rfl) (by decide) g1 (fun m cs' x' _ _ h => open_text m cs' x' h)
    simp at e0 e1
    subst e0
    subst e1
    exact ⟨(s0.data.toList, l1), ⟨a1, c1, rfl, R1⟩, ⟨w0, h1, Z1⟩⟩
set_option maxRecDepth 100000 in
set_option maxHeartbeats 1000000 in
theorem open_table {H : Type} {enc : TypeId × Value → H} {W : World} (fuel : Nat) (cs : List Value) (x : DataW H × List MemPlace) (hf : DataW.trod enc Try.prog W 0 (fun _ => true) true fuel 103 cs = some x) : ∃ o : List UInt8 × List (Int × Int), eT.E W AnyB o cs ∧ (o.1.length ≤ 9223372036854775807 ∧ o.2.length ≤ 9223372036854775807 ∧ ∀ b ∈ o.2, Rg b.1 ∧ Rg b.2) := by
  obtain ⟨xs, n, hfu, hx, hcl, hl, hg⟩ := DataW.trod_struct Try.underlying103 hf
  rw [show Try.prog.cellsOf 103 = 2 from by kernel_rfl] at hcl
  match cs, hcl, xs, hl with
  | [v0, v1], _, [y0, y1], _ =>
    have g0 := hg 0 _ rfl
    have g1 := hg 1 _ rfl
    simp [cellsS, cellsSB] at g0 g1
    obtain ⟨s0, e0, _, w0⟩ := DataW.trod_string Try.underlying9 g0
    have w0 : s0.data.toList.length ≤ 9223372036854775807 := by have h : s0.size ≤ maxLen := w0; unfold maxLen at h; exact h
    obtain ⟨l1, a1, c1, e1, h1, R1, Z1⟩ := open_row eBd (fun b => Rg b.1 ∧ Rg b.2) Try.underlying101 (by kernel_rfl) (by decide) g1 (fun m cs' x' _ _ h => (open_band m cs' x' h).imp (fun o h => ⟨h.1, h.1.2⟩))
    simp at e0 e1
    subst e0
    subst e1
    exact ⟨(s0.data.toList, l1), ⟨a1, c1, rfl, R1⟩, ⟨w0, h1, Z1⟩⟩
set_option maxRecDepth 100000 in
set_option maxHeartbeats 1000000 in
theorem open_clause {H : Type} {enc : TypeId × Value → H} {W : World} (fuel : Nat) (cs : List Value) (x : DataW H × List MemPlace) (hf : DataW.trod enc Try.prog W 0 (fun _ => true) true fuel 46 cs = some x) : ∃ o : Cl, eC.E W AnyB o cs ∧ (SzC o ∧ RgC o) := by
  obtain ⟨xs, n, hfu, hx, hcl, hl, hg⟩ := DataW.trod_struct Try.underlying46 hf
  rw [show Try.prog.cellsOf 46 = 12 from by kernel_rfl] at hcl
  match cs, hcl, xs, hl with
  | [v0, v1, v2, v3, v4, v5, v6, v7, v8, v9, v10, v11], _, [y0, y1, y2, y3], _ =>
    have g0 := hg 0 _ rfl
    have g1 := hg 1 _ rfl
    have g2 := hg 2 _ rfl
    have g3 := hg 3 _ rfl
    simp [cellsI, cellsBo, cellsE] at g0 g1 g2 g3
    obtain ⟨z0, e0, _, w0⟩ := DataW.trod_int Try.underlying3 g0
    obtain ⟨z1, e1, _⟩ := DataW.trod_bool Try.underlying4 g1
    obtain ⟨x2, ⟨a2, c2, e2, r2, f2⟩, s2, t2⟩ := open_expr _ _ _ g2
    obtain ⟨x3, ⟨a3, c3, e3, r3, f3⟩, s3, t3⟩ := open_expr _ _ _ g3
    simp at e0 e1 e2 e3
    subst e0
    subst e1
    obtain ⟨e2_0, e2_1, e2_2, e2_3, e2_4⟩ := e2
    subst e2_0 e2_1 e2_2 e2_3 e2_4
    obtain ⟨e3_0, e3_1, e3_2, e3_3, e3_4⟩ := e3
    subst e3_0 e3_1 e3_2 e3_3 e3_4
    exact ⟨⟨z0, z1, x2, x3⟩, ⟨a2, c2, a3, c3, rfl, rg_of w0, ⟨r2, r3⟩, f2, f3⟩, ⟨⟨s2, s3⟩, rg_of w0, t2, t3⟩⟩
set_option maxRecDepth 100000 in
set_option maxHeartbeats 1000000 in
theorem open_line {H : Type} {enc : TypeId × Value → H} {W : World} (fuel : Nat) (cs : List Value) (x : DataW H × List MemPlace) (hf : DataW.trod enc Try.prog W 0 (fun _ => true) true fuel 49 cs = some x) : ∃ o : Ln, eL.E W AnyB o cs ∧ ((o.name.length ≤ 9223372036854775807 ∧ SzL o) ∧ RgL o) := by
  obtain ⟨xs, n, hfu, hx, hcl, hl, hg⟩ := DataW.trod_struct Try.underlying49 hf
  rw [show Try.prog.cellsOf 49 = 7 from by kernel_rfl] at hcl
  match cs, hcl, xs, hl with
  | [v0, v1, v2, v3, v4, v5, v6], _, [y0, y1, y2, y3, y4, y5, y6], _ =>
    have g0 := hg 0 _ rfl
    have g1 := hg 1 _ rfl
    have g2 := hg 2 _ rfl
    have g3 := hg 3 _ rfl
    have g4 := hg 4 _ rfl
    have g5 := hg 5 _ rfl
    have g6 := hg 6 _ rfl
    simp [cellsI, cellsS, cellsBo, cellsSC] at g0 g1 g2 g3 g4 g5 g6
    obtain ⟨s0, e0, _, w0⟩ := DataW.trod_string Try.underlying9 g0
    have w0 : s0.data.toList.length ≤ 9223372036854775807 := by have h : s0.size ≤ maxLen := w0; unfold maxLen at h; exact h
    obtain ⟨z1, e1, _⟩ := DataW.trod_bool Try.underlying4 g1
    obtain ⟨z2, e2, _⟩ := DataW.trod_bool Try.underlying4 g2
    obtain ⟨z3, e3, _, w3⟩ := DataW.trod_int Try.underlying3 g3
    obtain ⟨z4, e4, _, w4⟩ := DataW.trod_int Try.underlying3 g4
    obtain ⟨z5, e5, _, w5⟩ := DataW.trod_int Try.underlying3 g5
    obtain ⟨l6, a6, c6, e6, h6, R6, Z6⟩ := open_row eC (fun c => SzC c ∧ RgC c) Try.underlying47 (by kernel_rfl) (by decide) g6 (fun m cs' x' _ _ h => open_clause m cs' x' h)
    simp at e0 e1 e2 e3 e4 e5 e6
    subst e0
    subst e1
    subst e2
    subst e3
    subst e4
    subst e5
    subst e6
    exact ⟨⟨s0.data.toList, z1, z2, z3, z4, z5, l6⟩, ⟨a6, c6, rfl, ⟨rg_of w3, rg_of w4, rg_of w5⟩, R6⟩, ⟨⟨w0, h6, fun c hc => (Z6 c hc).1⟩, ⟨rg_of w3, rg_of w4, rg_of w5⟩, fun c hc => (Z6 c hc).2⟩⟩
set_option maxRecDepth 100000 in
set_option maxHeartbeats 1000000 in
theorem open_check {H : Type} {enc : TypeId × Value → H} {W : World} (fuel : Nat) (cs : List Value) (x : DataW H × List MemPlace) (hf : DataW.trod enc Try.prog W 0 (fun _ => true) true fuel 68 cs = some x) : ∃ o : Ck, eK.E W AnyB o cs ∧ ((o.name.length ≤ 9223372036854775807 ∧ o.text.length ≤ 9223372036854775807 ∧ SzE o.when_) ∧ RgK o) := by
  obtain ⟨xs, n, hfu, hx, hcl, hl, hg⟩ := DataW.trod_struct Try.underlying68 hf
  rw [show Try.prog.cellsOf 68 = 9 from by kernel_rfl] at hcl
  match cs, hcl, xs, hl with
  | [v0, v1, v2, v3, v4, v5, v6, v7, v8], _, [y0, y1, y2, y3, y4], _ =>
    have g0 := hg 0 _ rfl
    have g1 := hg 1 _ rfl
    have g2 := hg 2 _ rfl
    have g3 := hg 3 _ rfl
    have g4 := hg 4 _ rfl
    simp [cellsI, cellsS, cellsBo, cellsE] at g0 g1 g2 g3 g4
    obtain ⟨s0, e0, _, w0⟩ := DataW.trod_string Try.underlying9 g0
    have w0 : s0.data.toList.length ≤ 9223372036854775807 := by have h : s0.size ≤ maxLen := w0; unfold maxLen at h; exact h
    obtain ⟨z1, e1, _⟩ := DataW.trod_bool Try.underlying4 g1
    obtain ⟨z2, e2, _, w2⟩ := DataW.trod_int Try.underlying3 g2
    obtain ⟨x3, ⟨a3, c3, e3, r3, f3⟩, s3, t3⟩ := open_expr _ _ _ g3
    obtain ⟨s4, e4, _, w4⟩ := DataW.trod_string Try.underlying9 g4
    have w4 : s4.data.toList.length ≤ 9223372036854775807 := by have h : s4.size ≤ maxLen := w4; unfold maxLen at h; exact h
    simp at e0 e1 e2 e3 e4
    subst e0
    subst e1
    subst e2
    obtain ⟨e3_0, e3_1, e3_2, e3_3, e3_4⟩ := e3
    subst e3_0 e3_1 e3_2 e3_3 e3_4
    subst e4
    exact ⟨⟨s0.data.toList, z1, z2, x3, s4.data.toList⟩, ⟨a3, c3, rfl, rg_of w2, r3, f3⟩, ⟨⟨w0, w4, s3⟩, rg_of w2, t3⟩⟩
set_option maxRecDepth 100000 in
set_option maxHeartbeats 1000000 in
theorem open_pack {H : Type} {enc : TypeId × Value → H} {W : World} (fuel : Nat) (cs : List Value) (x : DataW H × List MemPlace) (hf : DataW.trod enc Try.prog W 0 (fun _ => true) true fuel 28 cs = some x) : ∃ o : Pk, PkE W AnyB o cs ∧ (SzP o ∧ RgP o) := by
  obtain ⟨xs, n, hfu, hx, hcl, hl, hg⟩ := DataW.trod_struct Try.underlying28 hf
  rw [show Try.prog.cellsOf 28 = 7 from by kernel_rfl] at hcl
  match cs, hcl, xs, hl with
  | [v0, v1, v2, v3, v4, v5, v6], _, [y0, y1, y2, y3, y4, y5, y6], _ =>
    have g0 := hg 0 _ rfl
    have g1 := hg 1 _ rfl
    have g2 := hg 2 _ rfl
    have g3 := hg 3 _ rfl
    have g4 := hg 4 _ rfl
    have g5 := hg 5 _ rfl
    have g6 := hg 6 _ rfl
    simp [cellsI, cellsS, cellsSG, cellsSK, cellsSL, cellsSO, cellsST] at g0 g1 g2 g3 g4 g5 g6
    obtain ⟨s0, e0, _, w0⟩ := DataW.trod_string Try.underlying9 g0
    have w0 : s0.data.toList.length ≤ 9223372036854775807 := by have h : s0.size ≤ maxLen := w0; unfold maxLen at h; exact h
    obtain ⟨z1, e1, _, w1⟩ := DataW.trod_int Try.underlying3 g1
    obtain ⟨l2, a2, c2, e2, h2, R2, Z2⟩ := open_row eO (fun o => o.1.length ≤ 9223372036854775807 ∧ o.2.length ≤ 9223372036854775807 ∧ ∀ s ∈ o.2, s.length ≤ 9223372036854775807) Try.underlying22 (by kernel_rfl) (by decide) g2 (fun m cs' x' _ _ h => open_options m cs' x' h)
    obtain ⟨l3, a3, c3, e3, h3, R3, Z3⟩ := open_row eT (fun o => o.1.length ≤ 9223372036854775807 ∧ o.2.length ≤ 9223372036854775807 ∧ ∀ b ∈ o.2, Rg b.1 ∧ Rg b.2) Try.underlying23 (by kernel_rfl) (by decide) g3 (fun m cs' x' _ _ h => open_table m cs' x' h)
    obtain ⟨l4, a4, c4, e4, h4, R4, Z4⟩ := open_row eG (fun o => o.1.length ≤ 9223372036854775807 ∧ Rg o.2) Try.underlying24 (by kernel_rfl) (by decide) g4 (fun m cs' x' _ _ h => (open_group m cs' x' h).imp (fun o h => ⟨h.1, h.2, h.1.2⟩))
    obtain ⟨l5, a5, c5, e5, h5, R5, Z5⟩ := open_row eL (fun o => (o.name.length ≤ 9223372036854775807 ∧ SzL o) ∧ RgL o) Try.underlying25 (by kernel_rfl) (by decide) g5 (fun m cs' x' _ _ h => open_line m cs' x' h)
    obtain ⟨l6, a6, c6, e6, h6, R6, Z6⟩ := open_row eK (fun o => (o.name.length ≤ 9223372036854775807 ∧ o.text.length ≤ 9223372036854775807 ∧ SzE o.when_) ∧ RgK o) Try.underlying26 (by kernel_rfl) (by decide) g6 (fun m cs' x' _ _ h => open_check m cs' x' h)
    simp at e0 e1 e2 e3 e4 e5 e6
    subst e0
    subst e1
    subst e2
    subst e3
    subst e4
    subst e5
    subst e6
    exact ⟨⟨s0.data.toList, z1, l2, l3, l4, l5, l6⟩, ⟨a2, c2, a3, c3, a4, c4, a5, c5, a6, c6, rfl, rg_of w1, R2, R3, R4, R5, R6⟩, ⟨w0, ⟨h2, Z2⟩, ⟨h3, fun o ho => ⟨(Z3 o ho).1, (Z3 o ho).2.1⟩⟩, ⟨h4, fun o ho => (Z4 o ho).1⟩, ⟨h5, fun o ho => (Z5 o ho).1⟩, ⟨h6, fun o ho => (Z6 o ho).1⟩⟩, ⟨rg_of w1, fun o ho => (Z3 o ho).2.2, fun o ho => (Z4 o ho).2, fun o ho => (Z5 o ho).2, fun o ho => (Z6 o ho).2⟩⟩

end Go.Proofs.Yteiplejamciddaa
