import Derived.Test.YtkojgbfocdefnaaHPlay
import Derived.Test.YtkojgbfocdefnaaRows
import Derived.ProofKit
import Derived.OpenShut
import Derived.SizedLaws
import Derived.Deep.Slices
import Derived.Carry
namespace Go.Proofs.Ytkojgbfocdefnaa
open Go.ChangeShapes Go.WideShapes Go.ChangeAt Go.WideMaps Go.WideElems Go.RowKit

theorem own : ownKnob Try.prog.godebug = none := by kernel_rfl
theorem laidOutP : laidOutB Try.prog = true := by kernel_rfl
theorem cellsI : Try.prog.cellsOf 3 = 1 := by kernel_rfl
theorem cI64 : Try.prog.cellsOf 2 = 1 := by kernel_rfl
theorem cU32 : Try.prog.cellsOf 56 = 1 := by kernel_rfl
theorem cVal : Try.prog.cellsOf 58 = 2 := by kernel_rfl
theorem cEnt : Try.prog.cellsOf 98 = 3 := by kernel_rfl
theorem cEnts : Try.prog.cellsOf 22 = 1 := by kernel_rfl
theorem cOp : Try.prog.cellsOf 36 = 6 := by kernel_rfl

instance : Inhabited HOp := ⟨⟨0, 0, []⟩⟩
set_option maxRecDepth 100000 in
/-- A list that came in, whatever its items are. -/
theorem open_items {α : Type} [Inhabited α] (At : World → Nat → Nat → α → Prop) (k : Nat) {t e : TypeId} (ht : Try.prog.underlying t = some (.slice e)) (hk : Try.prog.cellsOf e = k) (hp : 0 < k) {H : Type} {enc : TypeId × Value → H} {W : World} {fuel : Nat} {cs : List Value} {x : DataW H × List MemPlace} (hf : DataW.trod enc Try.prog W 0 (fun _ => true) true fuel t cs = some x)
    (el : ∀ (n : Nat) (cs' : List Value) (x' : DataW H × List MemPlace) (b off : Nat), cs'.length = k → (∀ j, j < k → W.cell? ⟨b, off + j, none⟩ = cs'[j]?) → DataW.trod enc Try.prog W 0 (fun _ => true) true n e cs' = some x' → ∃ o, At W b off o) : ∃ (l : List α) (a : Option Addr) (cap : Nat), cs = [.slice a l.length cap] ∧ l.length ≤ cap ∧ l.length ≤ 9223372036854775807 ∧ (l = [] ∨ ∃ g off, a = some ⟨g, off, none⟩ ∧ g < W.heap.size ∧ ∀ i (h : i < l.length), At W g (off + i * k) l[i]) := by
  rcases DataW.trod_slice ht hf with ⟨hcs, hx⟩ | ⟨a, len, cap, elems, rest, n, hfu, hcs, hx, _, hl, hm, hlen, hel, -, -⟩
  · exact ⟨[], none, 0, hcs, by simp, by simp, .inl rfl⟩
  · have hmx : cap ≤ 9223372036854775807 := by unfold maxLen at hm; omega
    rw [hk] at hel
    by_cases h0 : len = 0
    · subst h0
      exact ⟨[], some a, cap, hcs, by simp, by simp, .inl rfl⟩
    have key0 : ∀ i, i < len → ∃ cs', W.cells? 0 (a.add (i * k)) k = some cs' ∧ ∃ y, DataW.trod enc Try.prog W 0 (fun _ => true) true n e cs' = some y := fun i hi => by
      have h := hel i hi
      rw [List.getElem?_eq_getElem (by omega)] at h
      cases hc : W.cells? 0 (a.add (i * k)) k with
      | none => rw [hc] at h; cases h
      | some cs' =>
        rw [hc] at h
        exact ⟨cs', rfl, _, h⟩
    obtain ⟨b, off, spot⟩ := a
    have hspot : spot = none := by
      obtain ⟨cs', h1, -⟩ := key0 0 (by omega)
      obtain ⟨_, hlen, hc⟩ := World.cells?_some h1
      have h2 := hc 0 (by omega)
      obtain ⟨c, hcc⟩ : ∃ c, cs'[0]? = some c := ⟨cs'[0]'(by omega), List.getElem?_eq_getElem _⟩
      rw [hcc] at h2
      simpa [Addr.add] using World.cell?_spot h2
    subst hspot
    have key : ∀ i, i < len → ∃ o : α, At W b (off + i * k) o := fun i hi => by
      obtain ⟨cs', h1, y, h2⟩ := key0 i hi
      obtain ⟨_, hlen', hc⟩ := World.cells?_some h1
      refine el n cs' y b (off + i * k) hlen' (fun j hj => ?_) h2
      have := hc j hj
      rwa [add_plain, add_plain] at this
    obtain ⟨q, hq⟩ : ∃ q : Nat → α, ∀ i, i < len → At W b (off + i * k) (q i) := Go.Deep.choose_lt key
    have hb : b < W.heap.size := by
      obtain ⟨cs', h1, -⟩ := key0 0 (by omega)
      obtain ⟨_, hlen', hc⟩ := World.cells?_some h1
      have h := hc 0 hp
      rw [List.getElem?_eq_getElem (by omega), add_plain, add_plain] at h
      exact World.block_lt_of_cell? _ _ h
    have hll : ((List.range len).map q).length = len := by simp
    refine ⟨(List.range len).map q, some ⟨b, off, none⟩, cap, by rw [hll]; exact hcs, by rw [hll]; omega, by rw [hll]; omega, .inr ⟨b, off, rfl, hb, fun i hi => ?_⟩⟩
    rw [hll] at hi
    simpa using hq i hi

def EntI (W : World) (b off : Nat) (o : Nat × (Int × Int)) : Prop := o.1 < 4294967296 ∧ W.cell? ⟨b, off, none⟩ = some (.int .u32 (o.1 : Int)) ∧ W.cell? ⟨b, off + 1, none⟩ = some (.int .i64 o.2.1) ∧ W.cell? ⟨b, off + 2, none⟩ = some (.int .i64 o.2.2)
theorem u32_range {n : Int} (h : (Lit.int .u32 n).wf = true) : 0 ≤ n ∧ n < 4294967296 := by
  simp [Lit.wf] at h
  have h1 : IntKind.u32.min = 0 := by decide
  have h2 : IntKind.u32.max = 4294967295 := by decide
  rw [h1, h2] at h
  omega
theorem val_of {H : Type} {enc : TypeId × Value → H} {W : World} {fuel : Nat} {u v : Value} {x : DataW H × List MemPlace} (hf : DataW.trod enc Try.prog W 0 (fun _ => true) true fuel 58 [u, v] = some x) : ∃ k n : Int, u = .int .i64 k ∧ v = .int .i64 n := by
  obtain ⟨xs, n, -, -, -, hl, hg⟩ := DataW.trod_struct Try.underlying58 hf
  match xs, hl with
  | [y0, y1], _ =>
    have g0 := hg 0 _ rfl
    have g1 := hg 1 _ rfl
    simp [cellsI, cI64] at g0 g1
    obtain ⟨k, ek, _, _⟩ := DataW.trod_int Try.underlying3 g0
    obtain ⟨m, em, _, _⟩ := DataW.trod_int Try.underlying2 g1
    simp at ek em
    exact ⟨k, m, ek, em⟩

set_option maxRecDepth 100000 in
set_option maxHeartbeats 1000000 in
theorem ent_of {H : Type} {enc : TypeId × Value → H} {W : World} {fuel : Nat} {cs : List Value} {x : DataW H × List MemPlace} {b off : Nat} (hcl : cs.length = 3) (hc : ∀ j, j < 3 → W.cell? ⟨b, off + j, none⟩ = cs[j]?)
    (hf : DataW.trod enc Try.prog W 0 (fun _ => true) true fuel 98 cs = some x) : ∃ o, EntI W b off o := by
  obtain ⟨xs, n, -, -, -, hl, hg⟩ := DataW.trod_struct Try.underlying98 hf
  match cs, hcl, xs, hl with
  | [v0, v1, v2], _, [y0, y1], _ =>
    have g0 := hg 0 _ rfl
    have g1 := hg 1 _ rfl
    simp [cU32] at g0
    simp [cVal] at g1
    obtain ⟨id, e0, _, wi⟩ := DataW.trod_int Try.underlying56 g0
    obtain ⟨k, m, e1, e2⟩ := val_of g1
    simp at e0
    subst e0 e1 e2
    have hr := u32_range wi
    have hn : ((id.toNat : Nat) : Int) = id := by omega
    refine ⟨(id.toNat, (k, m)), by simp; omega, ?_, hc 1 (by omega), hc 2 (by omega)⟩
    simp only [hn]
    exact hc 0 (by omega)

/-- A list of entries that came in. -/
theorem open_ents {H : Type} {enc : TypeId × Value → H} {W : World} {fuel : Nat} {v : Value} {x : DataW H × List MemPlace} (hf : DataW.trod enc Try.prog W 0 (fun _ => true) true fuel 22 [v] = some x) : ∃ L, EntA W v L := by
  obtain ⟨l, a, cap, e, h1, h2, h3⟩ := open_items EntI 3 Try.underlying22 cEnt (by decide) hf (fun n cs' x' b off hl hc h => ent_of hl hc h)
  obtain rfl : v = .slice a l.length cap := by simpa using e
  rcases h3 with h3 | ⟨g, off, rfl, hg, hc⟩
  · exact ⟨l, a, cap, rfl, h1, h2, fun e he => (by rw [h3] at he; cases he), .inl h3⟩
  · refine ⟨l, _, cap, rfl, h1, h2, fun e he => ?_, .inr ⟨g, off, rfl, hg, fun i hi => (hc i hi).2⟩⟩
    obtain ⟨i, hi, rfl⟩ := List.mem_iff_getElem.1 he
    exact (hc i hi).1

set_option maxRecDepth 100000 in
set_option maxHeartbeats 1000000 in
theorem op_of {H : Type} {enc : TypeId × Value → H} {W : World} {fuel : Nat} {cs : List Value} {x : DataW H × List MemPlace} {b off : Nat} (hcl : cs.length = 6) (hc : ∀ j, j < 6 → W.cell? ⟨b, off + j, none⟩ = cs[j]?)
    (hf : DataW.trod enc Try.prog W 0 (fun _ => true) true fuel 36 cs = some x) : ∃ o, OpAt W b off o := by
  obtain ⟨xs, n, -, -, -, hl, hg⟩ := DataW.trod_struct Try.underlying36 hf
  match cs, hcl, xs, hl with
  | [v0, v1, v2, v3, v4, v5], _, [y0, y1, y2, y3, y4, y5], _ =>
    have g0 := hg 0 _ rfl
    have g1 := hg 1 _ rfl
    have g5 := hg 5 _ rfl
    simp [cellsI, cEnts] at g0 g1 g5
    obtain ⟨z0, e0, _, _⟩ := DataW.trod_int Try.underlying3 g0
    obtain ⟨z1, e1, _, _⟩ := DataW.trod_int Try.underlying3 g1
    obtain ⟨L, hL⟩ := open_ents g5
    simp at e0 e1
    subst e0 e1
    exact ⟨⟨z0, z1, L⟩, hc 0 (by omega), hc 1 (by omega), v5, hc 5 (by omega), hL⟩

/-- A script that came in. -/
theorem open_ops {H : Type} {enc : TypeId × Value → H} {W : World} {fuel : Nat} {v : Value} {x : DataW H × List MemPlace} (hf : DataW.trod enc Try.prog W 0 (fun _ => true) true fuel 23 [v] = some x) : ∃ S, OpsA W v S := by
  obtain ⟨l, a, cap, e, h1, h2, h3⟩ := open_items OpAt 6 Try.underlying23 cOp (by decide) hf (fun n cs' x' b off hl hc h => op_of hl hc h)
  obtain rfl : v = .slice a l.length cap := by simpa using e
  exact ⟨l, a, cap, rfl, h1, h2, h3⟩
set_option maxRecDepth 100000 in
theorem cells_slice {W : World} {base : Nat} {t e : TypeId} {v : Value} (ht : Try.prog.underlying t = some (.slice e)) (hval : Value.okWide Try.prog W .any base t v) : v.cells.toList = [v] := by
  obtain ⟨a0, len, cap, rfl⟩ := okWide_slice ht hval
  rfl
set_option maxRecDepth 100000 in
theorem open_opsT {H : Type} {enc : TypeId × Value → H} {W : World} {base : Nat} {v : Value} {d : DataW H} {ps : List MemPlace} (hval : Value.okWide Try.prog W .any base 23 v) (h : DataW.Trod enc Try.prog W 0 (fun _ => true) true 23 v d ps) : ∃ S, OpsA W v S := by
  obtain ⟨fuel, hf⟩ := h
  rw [cells_slice Try.underlying23 hval] at hf
  exact open_ops hf
set_option maxRecDepth 100000 in
theorem open_entsT {H : Type} {enc : TypeId × Value → H} {W : World} {base : Nat} {v : Value} {d : DataW H} {ps : List MemPlace} (hval : Value.okWide Try.prog W .any base 22 v) (h : DataW.Trod enc Try.prog W 0 (fun _ => true) true 22 v d ps) : ∃ L, EntA W v L := by
  obtain ⟨fuel, hf⟩ := h
  rw [cells_slice Try.underlying22 hval] at hf
  exact open_ents hf
theorem range64 {n : Int} (h : (Lit.int .i64 n).wf = true) : -9223372036854775808 ≤ n ∧ n ≤ 9223372036854775807 := by
  simp [Lit.wf, IntKind.min, IntKind.max, IntKind.signed, IntKind.bits] at h
  omega

end Go.Proofs.Ytkojgbfocdefnaa
