import Derived.Test.YtblfdjdhikfjhaaGreatJoin17
import Derived.Test.YtblfdjdhikfjhaaGreatRows
import Derived.ProofKit
import Derived.OpenShut
import Derived.SizedLaws
import Derived.Deep.Slices
import Derived.Carry
namespace Go.Proofs.YtblfdjdhikfjhaaGreat
open Go.ChangeShapes Go.WideShapes Go.ChangeAt Go.WideMaps Go.WideElems Go.RowKit

theorem own : ownKnob Tryz.prog.godebug = none := by kernel_rfl
theorem laidOutP : laidOutB Tryz.prog = true := by kernel_rfl
theorem cellsI : Tryz.prog.cellsOf 3 = 1 := by kernel_rfl
theorem cI64 : Tryz.prog.cellsOf 2 = 1 := by kernel_rfl
theorem cU32 : Tryz.prog.cellsOf 45 = 1 := by kernel_rfl
theorem cVal : Tryz.prog.cellsOf 47 = 2 := by kernel_rfl
theorem cEnt : Tryz.prog.cellsOf 49 = 3 := by kernel_rfl
theorem cEnts : Tryz.prog.cellsOf 22 = 1 := by kernel_rfl
theorem cOp : Tryz.prog.cellsOf 37 = 5 := by kernel_rfl

theorem cStr : Tryz.prog.cellsOf 9 = 1 := by kernel_rfl

set_option maxRecDepth 100000 in
/-- A list that came in, whatever its items are. -/
theorem open_items {α : Type} [Inhabited α] (At : World → Nat → Nat → α → Prop) (k : Nat) {t e : TypeId} (ht : Tryz.prog.underlying t = some (.slice e)) (hk : Tryz.prog.cellsOf e = k) (hp : 0 < k) {H : Type} {enc : TypeId × Value → H} {W : World} {fuel : Nat} {cs : List Value} {x : DataW H × List MemPlace} (hf : DataW.trod enc Tryz.prog W 0 (fun _ => true) true fuel t cs = some x)
    (el : ∀ (n : Nat) (cs' : List Value) (x' : DataW H × List MemPlace) (b off : Nat), cs'.length = k → (∀ j, j < k → W.cell? ⟨b, off + j, none⟩ = cs'[j]?) → DataW.trod enc Tryz.prog W 0 (fun _ => true) true n e cs' = some x' → ∃ o, At W b off o) : ∃ (l : List α) (a : Option Addr) (cap : Nat), cs = [.slice a l.length cap] ∧ l.length ≤ cap ∧ l.length ≤ 9223372036854775807 ∧ (l = [] ∨ ∃ g off, a = some ⟨g, off, none⟩ ∧ g < W.heap.size ∧ ∀ i (h : i < l.length), At W g (off + i * k) l[i]) := by
  rcases DataW.trod_slice ht hf with ⟨hcs, hx⟩ | ⟨a, len, cap, elems, rest, n, hfu, hcs, hx, _, hl, hm, hlen, hel, -, -⟩
  · exact ⟨[], none, 0, hcs, by simp, by simp, .inl rfl⟩
  · have hmx : cap ≤ 9223372036854775807 := by unfold maxLen at hm; omega
    rw [hk] at hel
    by_cases h0 : len = 0
    · subst h0
      exact ⟨[], some a, cap, hcs, by simp, by simp, .inl rfl⟩
    have key0 : ∀ i, i < len → ∃ cs', W.cells? 0 (a.add (i * k)) k = some cs' ∧ ∃ y, DataW.trod enc Tryz.prog W 0 (fun _ => true) true n e cs' = some y := fun i hi => by
      have h := hel i hi
      rw [List.getElem?_eq_getElem (by omega)] at h
      cases hc : W.cells? 0 (a.add (i * k)) k with
      | none => rw [hc] at h; cases h
      | some cs' =>
        rw [hc] at h
        exact ⟨cs', rfl, _, h⟩
    obtain ⟨b, off, spot⟩ := a
    have hspot : spot = none := by
      obtain ⟨cs', h1, -⟩ := key0 0 (by omega)
      obtain ⟨_, hlen, hc⟩ := World.cells?_some h1
      have h2 := hc 0 (by omega)
      obtain ⟨c, hcc⟩ : ∃ c, cs'[0]? = some c := ⟨cs'[0]'(by omega), List.getElem?_eq_getElem _⟩
      rw [hcc] at h2
      simpa [Addr.add] using World.cell?_spot h2
    subst hspot
    have key : ∀ i, i < len → ∃ o : α, At W b (off + i * k) o := fun i hi => by
      obtain ⟨cs', h1, y, h2⟩ := key0 i hi
      obtain ⟨_, hlen', hc⟩ := World.cells?_some h1
      refine el n cs' y b (off + i * k) hlen' (fun j hj => ?_) h2
      have := hc j hj
      rwa [add_plain, add_plain] at this
    obtain ⟨q, hq⟩ : ∃ q : Nat → α, ∀ i, i < len → At W b (off + i * k) (q i) := Go.Deep.choose_lt key
    have hb : b < W.heap.size := by
      obtain ⟨cs', h1, -⟩ := key0 0 (by omega)
      obtain ⟨_, hlen', hc⟩ := World.cells?_some h1
      have h := hc 0 hp
      rw [List.getElem?_eq_getElem (by omega), add_plain, add_plain] at h
      exact World.block_lt_of_cell? _ _ h
    have hll : ((List.range len).map q).length = len := by simp
    refine ⟨(List.range len).map q, some ⟨b, off, none⟩, cap, by rw [hll]; exact hcs, by rw [hll]; omega, by rw [hll]; omega, .inr ⟨b, off, rfl, hb, fun i hi => ?_⟩⟩
    rw [hll] at hi
    simpa using hq i hi

def EntI (W : World) (b off : Nat) (o : Nat × (Int × Int)) : Prop := o.1 < 4294967296 ∧ W.cell? ⟨b, off, none⟩ = some (.int .u32 (o.1 : Int)) ∧ W.cell? ⟨b, off + 1, none⟩ = some (.int .i64 o.2.1) ∧ W.cell? ⟨b, off + 2, none⟩ = some (.int .i64 o.2.2)
theorem u32_range {n : Int} (h : (Lit.int .u32 n).wf = true) : 0 ≤ n ∧ n < 4294967296 := by
  simp [Lit.wf] at h
  have h1 : IntKind.u32.min = 0 := by decide
  have h2 : IntKind.u32.max = 4294967295 := by decide
  rw [h1, h2] at h
  omega
theorem val_of {H : Type} {enc : TypeId × Value → H} {W : World} {fuel : Nat} {u v : Value} {x : DataW H × List MemPlace} (hf : DataW.trod enc Tryz.prog W 0 (fun _ => true) true fuel 47 [u, v] = some x) : ∃ k n : Int, u = .int .i64 k ∧ v = .int .i64 n := by
  obtain ⟨xs, n, -, -, -, hl, hg⟩ := DataW.trod_struct Tryz.underlying47 hf
  match xs, hl with
  | [y0, y1], _ =>
    have g0 := hg 0 _ rfl
    have g1 := hg 1 _ rfl
    simp [cellsI, cI64] at g0 g1
    obtain ⟨k, ek, _, _⟩ := DataW.trod_int Tryz.underlying3 g0
    obtain ⟨m, em, _, _⟩ := DataW.trod_int Tryz.underlying2 g1
    simp at ek em
    exact ⟨k, m, ek, em⟩

set_option maxRecDepth 100000 in
set_option maxHeartbeats 1000000 in
theorem ent_of {H : Type} {enc : TypeId × Value → H} {W : World} {fuel : Nat} {cs : List Value} {x : DataW H × List MemPlace} {b off : Nat} (hcl : cs.length = 3) (hc : ∀ j, j < 3 → W.cell? ⟨b, off + j, none⟩ = cs[j]?)
    (hf : DataW.trod enc Tryz.prog W 0 (fun _ => true) true fuel 49 cs = some x) : ∃ o, EntI W b off o := by
  obtain ⟨xs, n, -, -, -, hl, hg⟩ := DataW.trod_struct Tryz.underlying49 hf
  match cs, hcl, xs, hl with
  | [v0, v1, v2], _, [y0, y1], _ =>
    have g0 := hg 0 _ rfl
    have g1 := hg 1 _ rfl
    simp [cU32] at g0
    simp [cVal] at g1
    obtain ⟨id, e0, _, wi⟩ := DataW.trod_int Tryz.underlying45 g0
    obtain ⟨k, m, e1, e2⟩ := val_of g1
    simp at e0
    subst e0 e1 e2
    have hr := u32_range wi
    have hn : ((id.toNat : Nat) : Int) = id := by omega
    refine ⟨(id.toNat, (k, m)), by simp; omega, ?_, hc 1 (by omega), hc 2 (by omega)⟩
    simp only [hn]
    exact hc 0 (by omega)

/-- A list of entries that came in. -/
theorem open_entB {H : Type} {enc : TypeId × Value → H} {W : World} {fuel : Nat} {v : Value} {x : DataW H × List MemPlace} (hf : DataW.trod enc Tryz.prog W 0 (fun _ => true) true fuel 22 [v] = some x) : ∃ L, EntB W v L := by
  obtain ⟨l, a, cap, e, h1, h2, h3⟩ := open_items EntI 3 Tryz.underlying22 cEnt (by decide) hf (fun n cs' x' b off hl hc h => ent_of hl hc h)
  obtain rfl : v = .slice a l.length cap := by simpa using e
  rcases h3 with h3 | ⟨g, off, rfl, hg, hc⟩
  · exact ⟨l, ⟨a, cap, rfl, .inl h3⟩, h2, fun e he => (by rw [h3] at he; cases he)⟩
  · refine ⟨l, ⟨_, cap, rfl, .inr ⟨g, off, rfl, hg, fun i hi => (hc i hi).2⟩⟩, h2, fun e he => ?_⟩
    obtain ⟨i, hi, rfl⟩ := List.mem_iff_getElem.1 he
    exact (hc i hi).1

theorem mem_weightsAll {H : Type} {P : Program} {e : TypeId} {d : DataW H} {n : Nat} : ∀ {l : List (DataW H)}, d ∈ l → n ∈ d.weights P e → n ∈ DataW.weightsAll P e l
  | x :: l, h, hn => by
    simp only [DataW.weightsAll, List.mem_append]
    rcases List.mem_cons.1 h with rfl | h
    · exact .inl hn
    · exact .inr (mem_weightsAll h hn)

instance : Inhabited OpR := ⟨⟨0, 0, 0, { data := #[] }, .slice none 0 0, []⟩⟩
def OpI (W : World) (b off : Nat) (o : OpR) : Prop := (W.cell? ⟨b, off, none⟩ = some (.int .i64 o.kind) ∧ W.cell? ⟨b, off + 1, none⟩ = some (.int .i64 o.b) ∧ W.cell? ⟨b, off + 2, none⟩ = some (.int .i64 o.n) ∧ W.cell? ⟨b, off + 3, none⟩ = some (.string o.name) ∧ W.cell? ⟨b, off + 4, none⟩ = some o.inV) ∧ OpIn W o
set_option maxRecDepth 100000 in
set_option maxHeartbeats 1000000 in
theorem op_ofB {H : Type} {enc : TypeId × Value → H} {W : World} {fuel : Nat} {cs : List Value} {x : DataW H × List MemPlace} {b off : Nat} (hc : ∀ j, j < 5 → W.cell? ⟨b, off + j, none⟩ = cs[j]?) (hcl : cs.length = 5)
    (hf : DataW.trod enc Tryz.prog W 0 (fun _ => true) true fuel 37 cs = some x) (hz : ∀ n ∈ x.1.weights Tryz.prog 37, n ≤ reachBytes) : ∃ o, OpI W b off o := by
  obtain ⟨xs, n, -, hx, -, hl, hg⟩ := DataW.trod_struct Tryz.underlying37 hf
  match cs, hcl, xs, hl with
  | [v0, v1, v2, v3, v4], _, [y0, y1, y2, y3, y4], _ =>
    have g0 := hg 0 _ rfl
    have g1 := hg 1 _ rfl
    have g2 := hg 2 _ rfl
    have g3 := hg 3 _ rfl
    have g4 := hg 4 _ rfl
    simp [cellsI] at g0 g1 g2
    simp [cStr] at g3
    simp [cEnts] at g4
    obtain ⟨k, e0, _, _⟩ := DataW.trod_int Tryz.underlying3 g0
    obtain ⟨a, e1, _, _⟩ := DataW.trod_int Tryz.underlying3 g1
    obtain ⟨m, e2, _, _⟩ := DataW.trod_int Tryz.underlying3 g2
    obtain ⟨s, e3, y3e, _⟩ := DataW.trod_string Tryz.underlying9 g3
    obtain ⟨L, hL⟩ := open_entB g4
    simp at e0 e1 e2 e3
    subst e0 e1 e2 e3
    have hlen : s.data.toList.length ≤ reachBytes := by
      apply hz
      rw [hx]
      simp only [DataW.weights, Tryz.underlying37]
      exact DataW.weights_mem_each (j := 3) (t := 9) (d := y3.1) rfl rfl _ (by rw [y3e]; simp [DataW.weights])
    refine ⟨⟨k, a, m, s, v4, L⟩, ⟨hc 0 (by omega), hc 1 (by omega), hc 2 (by omega), hc 3 (by omega), hc 4 (by omega)⟩, hL, ?_⟩
    have : s.size = s.data.toList.length := by rw [Array.length_toList]; rfl
    unfold reachBytes at hlen
    show s.size ≤ _
    omega

set_option maxRecDepth 100000 in
/-- A script that came in. -/
theorem open_opsB {H : Type} {enc : TypeId × Value → H} {W : World} {base : Nat} {v : Value} {d : DataW H} {ps : List MemPlace} (hval : Value.okWide Tryz.prog W .any base 23 v)
    (h : DataW.Trod enc Tryz.prog W 0 (fun _ => true) true 23 v d ps) (hz : ∀ n ∈ d.weights Tryz.prog 23, n ≤ reachBytes) : ∃ S, OpsB W v S := by
  obtain ⟨a0, len, cap, rfl⟩ := okWide_slice Tryz.underlying23 hval
  obtain ⟨fuel, hf⟩ := h
  rcases Go.Deep.open_slice Tryz.underlying23 hf with ⟨hcs, hx⟩ | ⟨a, len', cap', m, n, D, Pl, hcs, _, hl, hm, hmm, hx, hcell⟩
  · simp [Value.cells] at hcs
    obtain ⟨rfl, rfl, rfl⟩ := hcs
    exact ⟨[], none, 0, rfl, by simp, .inl rfl⟩
  · simp [Value.cells] at hcs
    obtain ⟨rfl, rfl, rfl⟩ := hcs
    simp only [if_true] at hmm
    rw [hmm] at hcell
    have hmx : cap ≤ 9223372036854775807 := by unfold maxLen at hm; omega
    by_cases h0 : len = 0
    · subst h0
      exact ⟨[], some a, cap, rfl, by simp, .inl rfl⟩
    obtain ⟨b, off, spot⟩ := a
    have hspot : spot = none := by
      obtain ⟨cs', h1, -⟩ := hcell 0 (by omega)
      rw [cOp] at h1
      obtain ⟨_, hlen, hc⟩ := World.cells?_some h1
      have h2 := hc 0 (by omega)
      obtain ⟨c, hcc⟩ : ∃ c, cs'[0]? = some c := ⟨cs'[0]'(by omega), List.getElem?_eq_getElem _⟩
      rw [hcc] at h2
      simpa [Addr.add] using World.cell?_spot h2
    subst hspot
    simp only [Prod.mk.injEq] at hx
    have key : ∀ i, i < len → ∃ o, OpI W b (off + i * 5) o := fun i hi => by
      obtain ⟨cs', h1, h2⟩ := hcell i (by omega)
      rw [cOp] at h1
      obtain ⟨_, hlen, hc⟩ := World.cells?_some h1
      refine op_ofB (fun j hj => ?_) hlen h2 (fun n hn => hz n ?_)
      · have := hc j hj
        rwa [add_plain, add_plain] at this
      · rw [hx.1]
        simp only [DataW.weights, Tryz.underlying23, List.mem_cons, List.mem_append]
        exact .inr (.inl (mem_weightsAll (d := D i) (List.mem_map.2 ⟨i, List.mem_range.2 hi, rfl⟩) hn))
    obtain ⟨q, hq⟩ : ∃ q : Nat → OpR, ∀ i, i < len → OpI W b (off + i * 5) (q i) := Go.Deep.choose_lt key
    have hlen : ((List.range len).map q).length = len := by simp
    have hb : b < W.heap.size := World.block_lt_of_cell? _ _ (hq 0 (by omega)).1.1
    refine ⟨(List.range len).map q, some ⟨b, off, none⟩, cap, by rw [hlen], by rw [hlen]; omega, .inr ⟨b, off, rfl, hb, fun i hi => ?_⟩⟩
    rw [hlen] at hi
    have := hq i hi
    unfold OpI at this
    simpa using this

set_option maxRecDepth 100000 in
theorem cells_slice {W : World} {base : Nat} {t e : TypeId} {v : Value} (ht : Tryz.prog.underlying t = some (.slice e)) (hval : Value.okWide Tryz.prog W .any base t v) : v.cells.toList = [v] := by
  obtain ⟨a0, len, cap, rfl⟩ := okWide_slice ht hval
  rfl
set_option maxRecDepth 100000 in
theorem open_entBT {H : Type} {enc : TypeId × Value → H} {W : World} {base : Nat} {v : Value} {d : DataW H} {ps : List MemPlace} (hval : Value.okWide Tryz.prog W .any base 22 v) (h : DataW.Trod enc Tryz.prog W 0 (fun _ => true) true 22 v d ps) : ∃ L, EntB W v L := by
  obtain ⟨fuel, hf⟩ := h
  rw [cells_slice Tryz.underlying22 hval] at hf
  exact open_entB hf

end Go.Proofs.YtblfdjdhikfjhaaGreat
