import Derived.Test.YtblfdjdhikfjhaaGreatTurnBOpen
import Derived.Test.YtblfdjdhikfjhaaGreatJoin29
/- Lists of entries and of steps that came in, and their bulk. -/
namespace Go.Proofs.YtblfdjdhikfjhaaGreat.BZ
open Go.ChangeShapes Go.WideShapes Go.ChangeAt Go.WideMaps Go.WideElems Go.RowKit

theorem ubD_one {H : Type} (d : DataW H) : 1 ≤ Rows.uptoBulk d := by
  cases d with
  | lit l => cases l <;> simp [Rows.uptoBulk]
  | nil => simp [Rows.uptoBulk]
  | ptr d => simp [Rows.uptoBulk]
  | slice elems spare => simp [Rows.uptoBulk]
  | agg parts => simp [Rows.uptoBulk]
  | iface t d => simp [Rows.uptoBulk]
  | map entries => simp [Rows.uptoBulk]
  | held h => simp [Rows.uptoBulk]
theorem ubD_len {H : Type} : ∀ l : List (DataW H), l.length ≤ Rows.uptoBulkAll l
  | [] => Nat.zero_le _
  | d :: l => by
    have := ubD_len l
    have := ubD_one d
    simp only [Rows.uptoBulkAll, List.length_cons]
    omega
theorem ubD_mem {H : Type} {d : DataW H} : ∀ {l : List (DataW H)}, d ∈ l → Rows.uptoBulk d ≤ Rows.uptoBulkAll l
  | x :: l, h => by
    simp only [Rows.uptoBulkAll]
    rcases List.mem_cons.1 h with rfl | h
    · omega
    · have := ubD_mem h
      omega
theorem rgD {n : Int} (h : (Lit.int .i64 n).wf = true) : -9223372036854775808 ≤ n ∧ n ≤ 9223372036854775807 := by
  simp [Lit.wf, IntKind.min, IntKind.max, IntKind.signed, IntKind.bits] at h
  omega
set_option maxRecDepth 100000 in
/-- A list that came in, whatever its items are. -/
theorem openD_items {α : Type} [Inhabited α] (At : World → Nat → Nat → α → Prop) (k B : Nat) {t e : TypeId} (ht : Tryz.prog.underlying t = some (.slice e)) (hk : Tryz.prog.cellsOf e = k) (hp : 0 < k) {H : Type} {enc : TypeId × Value → H} {W : World} {fuel : Nat} {cs : List Value} {x : DataW H × List MemPlace} (hf : DataW.trod enc Tryz.prog W 0 (fun _ => true) true fuel t cs = some x) (hB : Rows.uptoBulk x.1 ≤ B)
    (el : ∀ (n : Nat) (cs' : List Value) (x' : DataW H × List MemPlace) (b off : Nat), cs'.length = k → (∀ j, j < k → W.cell? ⟨b, off + j, none⟩ = cs'[j]?) → DataW.trod enc Tryz.prog W 0 (fun _ => true) true n e cs' = some x' → Rows.uptoBulk x'.1 ≤ B → ∃ o, At W b off o) : ∃ (l : List α) (a : Option Addr) (cap : Nat), cs = [.slice a l.length cap] ∧ l.length ≤ cap ∧ (a = none → cap = 0) ∧ l.length ≤ B ∧ (l = [] ∨ ∃ g off, a = some ⟨g, off, none⟩ ∧ g < W.heap.size ∧ ∀ i (h : i < l.length), At W g (off + i * k) l[i]) := by
  rcases DataW.trod_slice ht hf with ⟨hcs, hx⟩ | ⟨a, len, cap, elems, rest, n, hfu, hcs, hx, _, hl, hm, hlen, hel, -, -⟩
  · exact ⟨[], none, 0, hcs, by simp, fun _ => rfl, by simp, .inl rfl⟩
  · rw [hk] at hel
    have hbk : Rows.uptoBulkAll (elems.map (·.1)) + 1 ≤ B := by
      rw [hx] at hB
      simp only [Rows.uptoBulk] at hB
      omega
    have hlb : len ≤ B := by
      have := ubD_len (elems.map (·.1))
      rw [List.length_map] at this
      omega
    by_cases h0 : len = 0
    · subst h0
      exact ⟨[], some a, cap, hcs, by simp, fun e => (by cases e), by simp, .inl rfl⟩
    have key0 : ∀ i, i < len → ∃ cs', W.cells? 0 (a.add (i * k)) k = some cs' ∧ ∃ y, DataW.trod enc Tryz.prog W 0 (fun _ => true) true n e cs' = some y ∧ Rows.uptoBulk y.1 ≤ B := fun i hi => by
      have h := hel i hi
      rw [List.getElem?_eq_getElem (by omega)] at h
      cases hc : W.cells? 0 (a.add (i * k)) k with
      | none => rw [hc] at h; cases h
      | some cs' =>
        rw [hc] at h
        have := ubD_mem (List.mem_map.2 ⟨elems[i]'(by omega), List.getElem_mem _, rfl⟩ : (elems[i]'(by omega)).1 ∈ elems.map (·.1))
        exact ⟨cs', rfl, _, h, by omega⟩
    obtain ⟨b, off, spot⟩ := a
    have hspot : spot = none := by
      obtain ⟨cs', h1, -⟩ := key0 0 (by omega)
      obtain ⟨_, hlen, hc⟩ := World.cells?_some h1
      have h2 := hc 0 (by omega)
      obtain ⟨c, hcc⟩ : ∃ c, cs'[0]? = some c := ⟨cs'[0]'(by omega), List.getElem?_eq_getElem _⟩
      rw [hcc] at h2
      simpa [Addr.add] using World.cell?_spot h2
    subst hspot
    have key : ∀ i, i < len → ∃ o : α, At W b (off + i * k) o := fun i hi => by
      obtain ⟨cs', h1, y, h2, h3⟩ := key0 i hi
      obtain ⟨_, hlen', hc⟩ := World.cells?_some h1
      refine el n cs' y b (off + i * k) hlen' (fun j hj => ?_) h2 h3
      have := hc j hj
      rwa [add_plain, add_plain] at this
    obtain ⟨q, hq⟩ : ∃ q : Nat → α, ∀ i, i < len → At W b (off + i * k) (q i) := Go.Deep.choose_lt key
    have hb : b < W.heap.size := by
      obtain ⟨cs', h1, -⟩ := key0 0 (by omega)
      obtain ⟨_, hlen', hc⟩ := World.cells?_some h1
      have h := hc 0 hp
      rw [List.getElem?_eq_getElem (by omega), add_plain, add_plain] at h
      exact World.block_lt_of_cell? _ _ h
    have hll : ((List.range len).map q).length = len := by simp
    refine ⟨(List.range len).map q, some ⟨b, off, none⟩, cap, by rw [hll]; exact hcs, by rw [hll]; omega, fun e => (by cases e), by rw [hll]; exact hlb, .inr ⟨b, off, rfl, hb, fun i hi => ?_⟩⟩
    rw [hll] at hi
    simpa using hq i hi
theorem val_x {H : Type} {enc : TypeId × Value → H} {W : World} {fuel : Nat} {u v : Value} {x : DataW H × List MemPlace} (hf : DataW.trod enc Tryz.prog W 0 (fun _ => true) true fuel 47 [u, v] = some x) : ∃ k n : Int, u = .int .i64 k ∧ v = .int .i64 n ∧ Rg k ∧ Rg n := by
  obtain ⟨xs, n, -, -, -, hl, hg⟩ := DataW.trod_struct Tryz.underlying47 hf
  match xs, hl with
  | [y0, y1], _ =>
    have g0 := hg 0 _ rfl
    have g1 := hg 1 _ rfl
    simp [cellsI, cI64] at g0 g1
    obtain ⟨k, ek, _, wk⟩ := DataW.trod_int Tryz.underlying3 g0
    obtain ⟨m, em, _, wm⟩ := DataW.trod_int Tryz.underlying2 g1
    simp at ek em
    exact ⟨k, m, ek, em, rgD wk, rgD wm⟩
set_option maxRecDepth 100000 in
set_option maxHeartbeats 1000000 in
theorem ent_x {H : Type} {enc : TypeId × Value → H} {W : World} {fuel : Nat} {cs : List Value} {x : DataW H × List MemPlace} {b off : Nat} (hcl : cs.length = 3) (hc : ∀ j, j < 3 → W.cell? ⟨b, off + j, none⟩ = cs[j]?)
    (hf : DataW.trod enc Tryz.prog W 0 (fun _ => true) true fuel 49 cs = some x) : ∃ o, EntI W b off o ∧ Rg o.2.1 ∧ Rg o.2.2 := by
  obtain ⟨xs, n, -, -, -, hl, hg⟩ := DataW.trod_struct Tryz.underlying49 hf
  match cs, hcl, xs, hl with
  | [v0, v1, v2], _, [y0, y1], _ =>
    have g0 := hg 0 _ rfl
    have g1 := hg 1 _ rfl
    simp [cU32] at g0
    simp [cVal] at g1
    obtain ⟨id, e0, _, wi⟩ := DataW.trod_int Tryz.underlying45 g0
    obtain ⟨k, m, e1, e2, r1, r2⟩ := val_x g1
    simp at e0
    subst e0 e1 e2
    have hr := u32_range wi
    have hn : ((id.toNat : Nat) : Int) = id := by omega
    refine ⟨(id.toNat, (k, m)), ⟨by simp; omega, ?_, hc 1 (by omega), hc 2 (by omega)⟩, r1, r2⟩
    simp only [hn]
    exact hc 0 (by omega)
/-- A list of entries that came in. -/
theorem ents_x {B : Nat} (hB0 : B ≤ 9223372036854775806) {H : Type} {enc : TypeId × Value → H} {W : World} {fuel : Nat} {v : Value} {x : DataW H × List MemPlace} (hf : DataW.trod enc Tryz.prog W 0 (fun _ => true) true fuel 22 [v] = some x) (hB : Rows.uptoBulk x.1 ≤ B) : ∃ L, EntB W v L ∧ EsR L ∧ L.length ≤ B := by
  obtain ⟨l, a, cap, e, -, -, h2, h3⟩ := openD_items (fun W b off o => EntI W b off o ∧ Rg o.2.1 ∧ Rg o.2.2) 3 B Tryz.underlying22 cEnt (by decide) hf hB (fun n cs' x' b off hl hc h _ => ent_x hl hc h)
  obtain rfl : v = .slice a l.length cap := by simpa using e
  rcases h3 with h3 | ⟨g, off, rfl, hg, hc⟩
  · exact ⟨l, ⟨⟨a, cap, rfl, .inl h3⟩, by omega, fun e he => (by rw [h3] at he; cases he)⟩, fun e he => (by rw [h3] at he; cases he), h2⟩
  · refine ⟨l, ⟨⟨_, cap, rfl, .inr ⟨g, off, rfl, hg, fun i hi => (hc i hi).1.2⟩⟩, by omega, fun e he => ?_⟩, fun e he => ?_, h2⟩
    · obtain ⟨i, hi, rfl⟩ := List.mem_iff_getElem.1 he
      exact (hc i hi).1.1
    · obtain ⟨i, hi, rfl⟩ := List.mem_iff_getElem.1 he
      exact (hc i hi).2
set_option maxRecDepth 100000 in
set_option maxHeartbeats 1000000 in
theorem op_x {B : Nat} (hB0 : B ≤ 140737488355328) {H : Type} {enc : TypeId × Value → H} {W : World} {fuel : Nat} {cs : List Value} {x : DataW H × List MemPlace} {b off : Nat} (hc : ∀ j, j < 5 → W.cell? ⟨b, off + j, none⟩ = cs[j]?) (hcl : cs.length = 5)
    (hf : DataW.trod enc Tryz.prog W 0 (fun _ => true) true fuel 37 cs = some x) (hB : Rows.uptoBulk x.1 ≤ B) : ∃ o, OpI W b off o ∧ EsR o.In ∧ o.In.length ≤ B := by
  obtain ⟨xs, n, -, hx, -, hl, hg⟩ := DataW.trod_struct Tryz.underlying37 hf
  match cs, hcl, xs, hl with
  | [v0, v1, v2, v3, v4], _, [y0, y1, y2, y3, y4], _ =>
    have g0 := hg 0 _ rfl
    have g1 := hg 1 _ rfl
    have g2 := hg 2 _ rfl
    have g3 := hg 3 _ rfl
    have g4 := hg 4 _ rfl
    simp [cellsI] at g0 g1 g2
    simp [cStr] at g3
    simp [cEnts] at g4
    rw [hx] at hB
    simp only [List.map_cons, List.map_nil, Rows.uptoBulk, Rows.uptoBulkAll] at hB
    obtain ⟨k, e0, _, _⟩ := DataW.trod_int Tryz.underlying3 g0
    obtain ⟨a, e1, _, _⟩ := DataW.trod_int Tryz.underlying3 g1
    obtain ⟨m, e2, _, _⟩ := DataW.trod_int Tryz.underlying3 g2
    obtain ⟨s, e3, r3, _⟩ := DataW.trod_string Tryz.underlying9 g3
    obtain ⟨L, hL, hR, hLl⟩ := ents_x (B := B) (by omega) g4 (by omega)
    rw [r3] at hB
    simp only [Rows.uptoBulk] at hB
    simp at e0 e1 e2 e3
    subst e0 e1 e2 e3
    refine ⟨⟨k, a, m, s, v4, L⟩, ⟨⟨hc 0 (by omega), hc 1 (by omega), hc 2 (by omega), hc 3 (by omega), hc 4 (by omega)⟩, hL, ?_⟩, hR, hLl⟩
    have : s.size = s.data.toList.length := by rw [Array.length_toList]; rfl
    show s.size ≤ _
    omega
/-- A script that came in. -/
theorem ops_x {B : Nat} (hB0 : B ≤ 140737488355328) {H : Type} {enc : TypeId × Value → H} {W : World} {fuel : Nat} {v : Value} {x : DataW H × List MemPlace} (hf : DataW.trod enc Tryz.prog W 0 (fun _ => true) true fuel 23 [v] = some x) (hB : Rows.uptoBulk x.1 ≤ B) : ∃ Os, OpsB W v Os ∧ (∀ o ∈ Os, EsR o.In) ∧ tot Os ≤ B * B := by
  obtain ⟨l, a, cap, e, -, -, h2, h3⟩ := openD_items (fun W b off o => OpI W b off o ∧ EsR o.In ∧ o.In.length ≤ B) 5 B Tryz.underlying23 cOp (by decide) hf hB (fun n cs' x' b off hl hc h hb => op_x hB0 hc hl h hb)
  obtain rfl : v = .slice a l.length cap := by simpa using e
  have htot : ∀ (l : List OpR), (∀ o ∈ l, o.In.length ≤ B) → tot l ≤ l.length * B := fun l => by
    induction l with
    | nil => intro _; simp [tot]
    | cons o l ih =>
      intro h
      have h1 := ih (fun x hx => h x (List.mem_cons_of_mem _ hx))
      have h2 := h o (by simp)
      unfold tot at h1 ⊢
      rw [List.map_cons, List.sum_cons, List.length_cons, Nat.succ_mul]
      omega
  rcases h3 with h3 | ⟨g, off, rfl, hg, hc⟩
  · exact ⟨l, ⟨a, cap, rfl, by omega, .inl h3⟩, fun e he => (by rw [h3] at he; cases he), by rw [h3]; simp [tot]⟩
  · have hall : ∀ o ∈ l, EsR o.In ∧ o.In.length ≤ B := fun o ho => by
      obtain ⟨i, hi, rfl⟩ := List.mem_iff_getElem.1 ho
      exact (hc i hi).2
    refine ⟨l, ⟨_, cap, rfl, by omega, .inr ⟨g, off, rfl, hg, fun i hi => ?_⟩⟩, fun o ho => (hall o ho).1, ?_⟩
    · have := (hc i hi).1
      unfold OpI at this
      simpa using this
    · exact Nat.le_trans (htot l (fun o ho => (hall o ho).2)) (Nat.mul_le_mul_right B h2)

end Go.Proofs.YtblfdjdhikfjhaaGreat.BZ
