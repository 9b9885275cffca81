import Derived.Test.YtpmfgffhkklfeaaDoorTVer2
import Derived.Test.YtpmfgffhkklfeaaDoorRows
import Derived.Test.YtpmfgffhkklfeaaDoorTie
import Derived.Test.YtpmfgffhkklfeaaDoorCards
import Derived.ProofKit
import Derived.LaidMore
import Derived.OpenShut
import Derived.SizedLaws
import Derived.Stop.Joined
import Derived.Lib.SmallJoins
import Derived.Deep.Strs
import Derived.SevenTiedAt
namespace Go.Proofs.YtpmfgffhkklfeaaDoor
open Go.ChangeShapes Go.WideShapes Go.ChangeAt Go.WideMaps Go.WideElems Go.RowKit Go.Joins

theorem own : ownKnob Tryd.prog.godebug = none := by kernel_rfl
theorem cellsI : Tryd.prog.cellsOf 3 = 1 := by kernel_rfl
theorem cI64 : Tryd.prog.cellsOf 2 = 1 := by kernel_rfl
theorem cU32 : Tryd.prog.cellsOf 23 = 1 := by kernel_rfl
theorem cBool : Tryd.prog.cellsOf 4 = 1 := by kernel_rfl
theorem cVal : Tryd.prog.cellsOf 25 = 2 := by kernel_rfl
theorem cPut : Tryd.prog.cellsOf 27 = 4 := by kernel_rfl
theorem laidOutP : laidOutB Tryd.prog = true := by kernel_rfl

abbrev laidK : List (String × DataW Unit) := [("levy/levylaw3.none", Rows.laid_levy_levylaw3_none)]

set_option maxRecDepth 100000 in
/-- The door's own heap meets the condition. -/
theorem door_met (os : Os) (args : Array Value) : laidMetH Tryd.prog laidK ((World.doorLaid Tryd.prog 400 os).forCall (fun _ _ => 0) ⟨#[], args, []⟩).memory :=
  laidMetH_of_parts3 (fuel := 8) (laidMet_of_run' 8 (by kernel_rfl) (by kernel_rfl)) (by kernel_rfl) (by kernel_rfl)

theorem val_of {H : Type} {enc : TypeId × Value → H} {W : World} {fuel : Nat} {u v : Value} {x : DataW H × List MemPlace} (hf : DataW.trod enc Tryd.prog W 0 (fun _ => true) true fuel 25 [u, v] = some x) : ∃ k n : Int, u = .int .i64 k ∧ v = .int .i64 n := by
  obtain ⟨xs, n, -, -, -, hl, hg⟩ := DataW.trod_struct Tryd.underlying25 hf
  match xs, hl with
  | [y0, y1], _ =>
    have g0 := hg 0 _ rfl
    have g1 := hg 1 _ rfl
    simp [cellsI, cI64] at g0 g1
    obtain ⟨k, ek, _, _⟩ := DataW.trod_int Tryd.underlying3 g0
    obtain ⟨m, em, _, _⟩ := DataW.trod_int Tryd.underlying2 g1
    simp at ek em
    exact ⟨k, m, ek, em⟩

def PutAt (W : World) (b off : Nat) (o : Nat × (Int × (Int × Bool))) : Prop := o.1 < 4294967296 ∧ W.cell? ⟨b, off, none⟩ = some (.int .u32 (o.1 : Int)) ∧ W.cell? ⟨b, off + 1, none⟩ = some (.int .i64 o.2.1) ∧ W.cell? ⟨b, off + 2, none⟩ = some (.int .i64 o.2.2.1) ∧ W.cell? ⟨b, off + 3, none⟩ = some (.bool o.2.2.2)

theorem u32_range {n : Int} (h : (Lit.int .u32 n).wf = true) : 0 ≤ n ∧ n < 4294967296 := by
  simp [Lit.wf] at h
  have h1 : IntKind.u32.min = 0 := by decide
  have h2 : IntKind.u32.max = 4294967295 := by decide
  rw [h1, h2] at h
  omega

theorem u32_nat {n : Int} (h : (Lit.int .u32 n).wf = true) : ∃ u : Nat, n = (u : Int) ∧ u < 4294967296 := by
  have := u32_range h
  exact ⟨n.toNat, by omega, by omega⟩
theorem range64 {n : Int} (h : (Lit.int .i64 n).wf = true) : -9223372036854775808 ≤ n ∧ n ≤ 9223372036854775807 := by
  simp [Lit.wf, IntKind.min, IntKind.max, IntKind.signed, IntKind.bits] at h
  omega

set_option maxRecDepth 100000 in
set_option maxHeartbeats 1000000 in
theorem put_of {H : Type} {enc : TypeId × Value → H} {W : World} {fuel : Nat} {cs : List Value} {x : DataW H × List MemPlace} {b off : Nat} (hc : ∀ j, j < 4 → W.cell? ⟨b, off + j, none⟩ = cs[j]?) (hcl : cs.length = 4)
    (hf : DataW.trod enc Tryd.prog W 0 (fun _ => true) true fuel 27 cs = some x) : ∃ o, PutAt W b off o := by
  obtain ⟨xs, n, -, -, -, hl, hg⟩ := DataW.trod_struct Tryd.underlying27 hf
  match cs, hcl, xs, hl with
  | [v0, v1, v2, v3], _, [y0, y1, y2], _ =>
    have g0 := hg 0 _ rfl
    have g1 := hg 1 _ rfl
    have g2 := hg 2 _ rfl
    simp [cU32] at g0
    simp [cVal] at g1
    simp [cBool] at g2
    obtain ⟨id, e0, _, wi⟩ := DataW.trod_int Tryd.underlying23 g0
    obtain ⟨k, m, e1, e2⟩ := val_of g1
    obtain ⟨o, e3, _, _⟩ := DataW.trod_bool Tryd.underlying4 g2
    simp at e0 e3
    subst e0 e1 e2 e3
    have hr := u32_range wi
    have hn : ((id.toNat : Nat) : Int) = id := by omega
    refine ⟨(id.toNat, (k, (m, o))), by simp; omega, ?_, hc 1 (by omega), hc 2 (by omega), hc 3 (by omega)⟩
    simp only [hn]
    exact hc 0 (by omega)

set_option maxRecDepth 100000 in
/-- A list of puts that came in. -/
theorem open_puts {H : Type} {enc : TypeId × Value → H} {W : World} {base : Nat} {v : Value} {d : DataW H} {ps : List MemPlace} (hval : Value.okWide Tryd.prog W .any base 22 v)
    (h : DataW.Trod enc Tryd.prog W 0 (fun _ => true) true 22 v d ps) : ∃ L, PutsAt W v L := by
  obtain ⟨a0, len, cap, rfl⟩ := okWide_slice Tryd.underlying22 hval
  obtain ⟨fuel, hf⟩ := h
  rcases Go.Deep.open_slice Tryd.underlying22 hf with ⟨hcs, hx⟩ | ⟨a, len', cap', m, n, D, Pl, hcs, _, hl, hm, hmm, hx, hcell⟩
  · simp [Value.cells] at hcs
    obtain ⟨rfl, rfl, rfl⟩ := hcs
    exact ⟨[], none, 0, rfl, .inl rfl⟩
  · simp [Value.cells] at hcs
    obtain ⟨rfl, rfl, rfl⟩ := hcs
    simp only [if_true] at hmm
    rw [hmm] at hcell
    by_cases h0 : len = 0
    · subst h0
      exact ⟨[], some a, cap, rfl, .inl rfl⟩
    obtain ⟨b, off, spot⟩ := a
    have hspot : spot = none := by
      obtain ⟨cs', h1, -⟩ := hcell 0 (by omega)
      rw [cPut] at h1
      obtain ⟨_, hlen, hc⟩ := World.cells?_some h1
      have h2 := hc 0 (by omega)
      obtain ⟨c, hcc⟩ : ∃ c, cs'[0]? = some c := ⟨cs'[0]'(by omega), List.getElem?_eq_getElem _⟩
      rw [hcc] at h2
      simpa [Addr.add] using World.cell?_spot h2
    subst hspot
    have key : ∀ i, i < len → ∃ o, PutAt W b (off + i * 4) o := fun i hi => by
      obtain ⟨cs', h1, h2⟩ := hcell i (by omega)
      rw [cPut] at h1
      obtain ⟨_, hlen, hc⟩ := World.cells?_some h1
      refine put_of (fun j hj => ?_) hlen h2
      have := hc j hj
      rwa [add_plain, add_plain] at this
    obtain ⟨q, hq⟩ : ∃ q : Nat → (Nat × (Int × (Int × Bool))), ∀ i, i < len → PutAt W b (off + i * 4) (q i) := Go.Deep.choose_lt key
    have hlen : ((List.range len).map q).length = len := by simp
    have hb : b < W.heap.size := World.block_lt_of_cell? _ _ (hq 0 (by omega)).2.1
    refine ⟨(List.range len).map q, some ⟨b, off, none⟩, cap, by rw [hlen], .inr ⟨b, off, rfl, hb, fun i hi => ?_⟩⟩
    rw [hlen] at hi
    have := hq i hi
    unfold PutAt at this
    simpa using this

/-- How long such a list may be. -/
theorem puts_len {H : Type} {enc : TypeId × Value → H} {W : World} {v : Value} {d : DataW H} {ps : List MemPlace} {L : List (Nat × (Int × (Int × Bool)))}
    (h : DataW.Trod enc Tryd.prog W 0 (fun _ => true) true 22 v d ps) (hp : PutsAt W v L) : PutsAt W v L ∧ L.length ≤ 9223372036854775807 := by
  refine ⟨hp, ?_⟩
  obtain ⟨a0, cap0, rfl, -⟩ := hp
  obtain ⟨fuel, hf⟩ := h
  rcases Go.Deep.open_slice Tryd.underlying22 hf with ⟨hcs, hx⟩ | ⟨a, len', cap', m, n, D, Pl, hcs, _, hl, hm, hmm, hx, hcell⟩
  · simp [Value.cells] at hcs
    obtain ⟨-, h, -⟩ := hcs
    rw [h]
    simp
  · simp [Value.cells] at hcs
    obtain ⟨-, h2, -⟩ := hcs
    unfold maxLen at hm
    omega
set_option maxRecDepth 100000 in
set_option maxHeartbeats 1000000 in
/-- One put that came in. -/
theorem open_put1 {H : Type} {enc : TypeId × Value → H} {W : World} {base : Nat} {v : Value} {d : DataW H} {ps : List MemPlace} (hval : Value.okWide Tryd.prog W .any base 27 v)
    (h : DataW.Trod enc Tryd.prog W 0 (fun _ => true) true 27 v d ps) : ∃ (o : Nat × (Int × (Int × Bool))), o.1 < 4294967296 ∧ v = .agg #[.int .u32 (o.1 : Int), .int .i64 o.2.1, .int .i64 o.2.2.1, .bool o.2.2.2] := by
  obtain ⟨cs, rfl, hsz⟩ := okWide_struct Tryd.underlying27 hval
  obtain ⟨fuel, hf⟩ := h
  obtain ⟨xs, n, -, -, -, hl, hg⟩ := DataW.trod_struct Tryd.underlying27 hf
  rw [cPut] at hsz
  obtain ⟨ls⟩ := cs
  match ls, hsz, xs, hl with
  | [v0, v1, v2, v3], _, [y0, y1, y2], _ =>
    have g0 := hg 0 _ rfl
    have g1 := hg 1 _ rfl
    have g2 := hg 2 _ rfl
    simp [Value.cells, cU32] at g0
    simp [Value.cells, cVal] at g1
    simp [Value.cells, cBool] at g2
    obtain ⟨id, e0, _, wi⟩ := DataW.trod_int Tryd.underlying23 g0
    obtain ⟨k, m, e1, e2⟩ := val_of g1
    obtain ⟨o, e3, _, _⟩ := DataW.trod_bool Tryd.underlying4 g2
    simp at e0 e3
    subst e0 e1 e2 e3
    have hr := u32_range wi
    have hn : ((id.toNat : Nat) : Int) = id := by omega
    refine ⟨(id.toNat, (k, (m, o))), by simp; omega, ?_⟩
    simp only [hn]

end Go.Proofs.YtpmfgffhkklfeaaDoor
