import Derived.Test.YthbojlbgjmecoaaGreatTurnRdY
import Derived.Test.YthbojlbgjmecoaaGreatJoin30
import Derived.Test.YthbojlbgjmecoaaGreatRows
import Derived.Deep.Slices
import Derived.Carry
import Derived.ProofKit
/- The state of a pair of disks; what a call of both does. -/
namespace Go.Proofs.YthbojlbgjmecoaaGreat.DJ
open Go.RowKit
set_option linter.constructorNameAsVariable false

/-- One step of a script. -/
structure OpD where
  kind : Int
  n : Int
  m : Int
  sec : Bool
  nm : List Nat
  da : Option Addr
  dat : List Nat
  dc : Nat
  ka : Option Addr
  ks : List Int
  kc : Nat
  sum : Int
def OpD.v (o : OpD) : List Value := [.int .i64 o.kind, .int .i64 o.n, .int .i64 o.m, .bool o.sec, .string (strB o.nm), .slice o.da o.dat.length o.dc, .slice o.ka o.ks.length o.kc, .int .u32 o.sum]
structure OpB (o : OpD) : Prop where
  n0 : -9223372036854775808 ≤ o.n
  n1 : o.n ≤ 9223372036854775807
  m0 : -9223372036854775808 ≤ o.m
  m1 : o.m ≤ 9223372036854775807
  nl : o.nm.length ≤ 1048576
  nb : ∀ x ∈ o.nm, x < 256
  dl : o.dat.length ≤ 1048576
  kl : o.ks.length ≤ 1048576
  dcap : o.da = none → o.dc = 0
  dcl : o.dat.length ≤ o.dc
/-- A pair of disks. -/
structure PD (W : World) (lo pb db rb l2 : Nat) (d : Dk) (S T : Nat → Prop) : Prop where
  row : W.heap[pb]? = some (prRow (some ⟨db, 0, none⟩) (some ⟨rb, 0, none⟩))
  two : Two W lo db rb d S T l2
  sp : ¬ S pb
  tp : ¬ T pb
/-- What a call leaves. -/
def PdP (lo pb db rb l2 : Nat) (S T : Nat → Prop) (w : World) (e : Ending) (w' : World) : Prop := e = .returned (.bool true) ∧ ∃ d' S' T', PD w' lo pb db rb l2 d' S' T' ∧ GrS (fun z => S z ∨ T z) w w' ∧ ∀ k, S' k ∨ T' k → (S k ∨ T k) ∨ w.heap.size ≤ k
theorem PD.lt {W : World} {lo pb db rb l2 : Nat} {d : Dk} {S T : Nat → Prop} (h : PD W lo pb db rb l2 d S T) : pb < W.heap.size := (Array.getElem?_eq_some_iff.1 h.row).1
theorem Two.lo {S T : Nat → Prop} {W : World} {lo db rb l2 : Nat} {d : Dk} (h : Two W lo db rb d S T l2) : lo ≤ W.heap.size := by
  have := h.tl _ h.r.Trb
  have := h.r.lt
  omega
theorem Two.l2 {S T : Nat → Prop} {W : World} {lo db rb l2 : Nat} {d : Dk} (h : Two W lo db rb d S T l2) : l2 ≤ W.heap.size := by
  obtain ⟨mb, D, fb, vv, hL⟩ := h.p
  have h1 := hL.low _ hL.Sdb
  have h2 := hL.hi _ hL.Sdb
  omega
theorem PD.later {W W' : World} {lo pb db rb l2 : Nat} {d : Dk} {S T : Nat → Prop} (h : PD W lo pb db rb l2 d S T) (hb : Below W.heap.size W W') : PD W' lo pb db rb l2 d S T := ⟨(hb.block _ h.lt).trans h.row, h.two.later hb, h.sp, h.tp⟩
/-- Behind both calls. -/
theorem PD.both {W W2 W3 W4 : World} {lo pb db rb l2 : Nat} {d d' : Dk} {S T S' T' : Nat → Prop} (h : PD W lo pb db rb l2 d S T) (hp : DiskAt W2 l2 S' db d') (hv : Dv S W S' W2) (hb : Below W2.heap.size W2 W3) (hr : RdAt W4 T' rb d') (hv' : Dv T W3 T' W4) : PD W4 lo pb db rb l2 d' S' T' ∧ GrS (fun z => S z ∨ T z) W W4 ∧ ∀ k, S' k ∨ T' k → (S k ∨ T k) ∨ W.heap.size ≤ k := by
  have hSW : ∀ k, S' k → S k ∨ W.heap.size ≤ k := hv.sub
  have hs2 := hv.gr.size
  have hs3 := hb.size
  have hS2 : ∀ k, S' k → k < W2.heap.size := fun k hk => (hp.low k hk).2
  have hTW : ∀ k, T' k → T k ∨ W3.heap.size ≤ k := hv'.sub
  have hTl : ∀ k, T k → k < W.heap.size := h.two.r.hi
  have hpl := h.lt
  have hST : ∀ k, S' k → ¬ T k := fun k h1 h2 => by
    rcases hSW k h1 with h3 | h3
    · exact h.two.ap k h3 h2
    · have := hTl k h2
      omega
  have hg1 : GrS (fun z => S z ∨ T z) W W2 := hv.gr.mono (fun _ _ h => .inl h)
  have hg2 : GrS (fun z => S z ∨ T z) W2 W3 := .of_below hb
  have hg3 : GrS (fun z => S z ∨ T z) W3 W4 := hv'.gr.mono (fun _ _ h => .inr h)
  have hG := (hg1.trans hg2).trans hg3
  have hlo := h.two.lo
  refine ⟨⟨(hG.block _ hpl (fun e => e.elim h.sp h.tp)).trans h.row, ⟨(hp.later hb).grS hv'.gr hST, hr, fun k h1 h2 => ?_, fun k hk => ?_, fun k hk => ?_, h.two.l⟩, fun e => ?_, fun e => ?_⟩, hG, fun k hk => ?_⟩
  · rcases hTW k h2 with h3 | h3
    · exact hST k h1 h3
    · have := hS2 k h1
      omega
  · rcases hSW k hk with h3 | h3
    · exact h.two.sl k h3
    · omega
  · rcases hTW k hk with h3 | h3
    · exact h.two.tl k h3
    · omega
  · rcases hSW _ e with h3 | h3
    · exact h.sp h3
    · omega
  · rcases hTW _ e with h3 | h3
    · exact h.tp h3
    · omega
  · rcases hk with hk | hk
    · rcases hSW k hk with h3 | h3
      · exact .inl (.inl h3)
      · exact .inr h3
    · rcases hTW k hk with h3 | h3
      · exact .inl (.inr h3)
      · exact .inr (by omega)
/-- What lies where the step was laid, and in the pair. -/
def OpC (Y : World) (pb ob db rb : Nat) (o : OpD) : Prop := Y.cell? ⟨pb, 0, none⟩ = some (.pointer (some ⟨db, 0, none⟩)) ∧ Y.cell? ⟨pb, 2, none⟩ = some (.pointer (some ⟨rb, 0, none⟩)) ∧ Y.cell? ⟨ob, 0, none⟩ = some (.int .i64 o.kind) ∧ Y.cell? ⟨ob, 1, none⟩ = some (.int .i64 o.n) ∧ Y.cell? ⟨ob, 2, none⟩ = some (.int .i64 o.m) ∧ Y.cell? ⟨ob, 4, none⟩ = some (.string (strB o.nm)) ∧ Y.cell? ⟨ob, 5, none⟩ = some (.slice o.da o.dat.length o.dc) ∧ Y.cell? ⟨ob, 6, none⟩ = some (.slice o.ka o.ks.length o.kc)
theorem opc_of {Y : World} {pb db rb : Nat} {o : OpD} {ob : Nat} (h1 : Y.heap[pb]? = some (prRow (some ⟨db, 0, none⟩) (some ⟨rb, 0, none⟩))) (h2 : Y.heap[ob]? = some (.cells o.v.toArray 38 (0, 0))) : OpC Y pb ob db rb o := by
  unfold prRow at h1
  exact ⟨cell_of_row _ _ 0 _ _ _ h1, cell_of_row _ _ 2 _ _ _ h1, cell_of_row _ _ 0 _ _ _ h2, cell_of_row _ _ 1 _ _ _ h2, cell_of_row _ _ 2 _ _ _ h2, cell_of_row _ _ 4 _ _ _ h2, cell_of_row _ _ 5 _ _ _ h2, cell_of_row _ _ 6 _ _ _ h2⟩
end Go.Proofs.YthbojlbgjmecoaaGreat.DJ


/- Lists that came in, and their bulk. -/
namespace Go.Proofs.YthbojlbgjmecoaaGreat.DJ
open Go.ChangeShapes Go.WideShapes Go.ChangeAt Go.WideMaps Go.WideElems Go.RowKit

theorem ubD_one {H : Type} (d : DataW H) : 1 ≤ Rows.uptoBulk d := by
  cases d with
  | lit l => cases l <;> simp [Rows.uptoBulk]
  | nil => simp [Rows.uptoBulk]
  | ptr d => simp [Rows.uptoBulk]
  | slice elems spare => simp [Rows.uptoBulk]
  | agg parts => simp [Rows.uptoBulk]
  | iface t d => simp [Rows.uptoBulk]
  | map entries => simp [Rows.uptoBulk]
  | held h => simp [Rows.uptoBulk]
theorem ubD_len {H : Type} : ∀ l : List (DataW H), l.length ≤ Rows.uptoBulkAll l
  | [] => Nat.zero_le _
  | d :: l => by
    have := ubD_len l
    have := ubD_one d
    simp only [Rows.uptoBulkAll, List.length_cons]
    omega
theorem ubD_mem {H : Type} {d : DataW H} : ∀ {l : List (DataW H)}, d ∈ l → Rows.uptoBulk d ≤ Rows.uptoBulkAll l
  | x :: l, h => by
    simp only [Rows.uptoBulkAll]
    rcases List.mem_cons.1 h with rfl | h
    · omega
    · have := ubD_mem h
      omega
theorem rgD {n : Int} (h : (Lit.int .i64 n).wf = true) : -9223372036854775808 ≤ n ∧ n ≤ 9223372036854775807 := by
  simp [Lit.wf, IntKind.min, IntKind.max, IntKind.signed, IntKind.bits] at h
  omega
theorem u8D {n : Int} (h : (Lit.int .u8 n).wf = true) : 0 ≤ n ∧ n < 256 := by
  simp [Lit.wf] at h
  have h1 : IntKind.u8.min = 0 := by decide
  have h2 : IntKind.u8.max = 255 := by decide
  rw [h1, h2] at h
  omega
theorem strD (s : ByteArray) : ∃ nm : List Nat, s = strB nm ∧ (∀ x ∈ nm, x < 256) ∧ nm.length = s.data.toList.length := by
  refine ⟨s.data.toList.map UInt8.toNat, ?_, fun x hx => ?_, by rw [List.length_map]⟩
  · have h := strB_data (s.data.toList.map UInt8.toNat)
    have h2 : u8 (s.data.toList.map UInt8.toNat) = s.data.toList := by
      unfold u8
      rw [List.map_map]
      exact (List.map_congr_left (fun x _ => by simp)).trans (List.map_id _)
    rw [h2] at h
    exact ByteArray.ext (Array.toList_inj.1 h).symm
  · obtain ⟨y, -, rfl⟩ := List.mem_map.1 hx
    exact y.toNat_lt
set_option maxRecDepth 100000 in
/-- A list that came in, whatever its items are. -/
theorem openD_items {α : Type} [Inhabited α] (At : World → Nat → Nat → α → Prop) (k B : Nat) {t e : TypeId} (ht : Tryz.prog.underlying t = some (.slice e)) (hk : Tryz.prog.cellsOf e = k) (hp : 0 < k) {H : Type} {enc : TypeId × Value → H} {W : World} {fuel : Nat} {cs : List Value} {x : DataW H × List MemPlace} (hf : DataW.trod enc Tryz.prog W 0 (fun _ => true) true fuel t cs = some x) (hB : Rows.uptoBulk x.1 ≤ B)
    (el : ∀ (n : Nat) (cs' : List Value) (x' : DataW H × List MemPlace) (b off : Nat), cs'.length = k → (∀ j, j < k → W.cell? ⟨b, off + j, none⟩ = cs'[j]?) → DataW.trod enc Tryz.prog W 0 (fun _ => true) true n e cs' = some x' → Rows.uptoBulk x'.1 ≤ B → ∃ o, At W b off o) : ∃ (l : List α) (a : Option Addr) (cap : Nat), cs = [.slice a l.length cap] ∧ l.length ≤ cap ∧ (a = none → cap = 0) ∧ l.length ≤ B ∧ (l = [] ∨ ∃ g off, a = some ⟨g, off, none⟩ ∧ g < W.heap.size ∧ ∀ i (h : i < l.length), At W g (off + i * k) l[i]) := by
  rcases DataW.trod_slice ht hf with ⟨hcs, hx⟩ | ⟨a, len, cap, elems, rest, n, hfu, hcs, hx, _, hl, hm, hlen, hel, -, -⟩
  · exact ⟨[], none, 0, hcs, by simp, fun _ => rfl, by simp, .inl rfl⟩
  · rw [hk] at hel
    have hbk : Rows.uptoBulkAll (elems.map (·.1)) + 1 ≤ B := by
      rw [hx] at hB
      simp only [Rows.uptoBulk] at hB
      omega
    have hlb : len ≤ B := by
      have := ubD_len (elems.map (·.1))
      rw [List.length_map] at this
      omega
    by_cases h0 : len = 0
    · subst h0
      exact ⟨[], some a, cap, hcs, by simp, fun e => (by cases e), by simp, .inl rfl⟩
    have key0 : ∀ i, i < len → ∃ cs', W.cells? 0 (a.add (i * k)) k = some cs' ∧ ∃ y, DataW.trod enc Tryz.prog W 0 (fun _ => true) true n e cs' = some y ∧ Rows.uptoBulk y.1 ≤ B := fun i hi => by
      have h := hel i hi
      rw [List.getElem?_eq_getElem (by omega)] at h
      cases hc : W.cells? 0 (a.add (i * k)) k with
      | none => rw [hc] at h; cases h
      | some cs' =>
        rw [hc] at h
        have := ubD_mem (List.mem_map.2 ⟨elems[i]'(by omega), List.getElem_mem _, rfl⟩ : (elems[i]'(by omega)).1 ∈ elems.map (·.1))
        exact ⟨cs', rfl, _, h, by omega⟩
    obtain ⟨b, off, spot⟩ := a
    have hspot : spot = none := by
      obtain ⟨cs', h1, -⟩ := key0 0 (by omega)
      obtain ⟨_, hlen, hc⟩ := World.cells?_some h1
      have h2 := hc 0 (by omega)
      obtain ⟨c, hcc⟩ : ∃ c, cs'[0]? = some c := ⟨cs'[0]'(by omega), List.getElem?_eq_getElem _⟩
      rw [hcc] at h2
      simpa [Addr.add] using World.cell?_spot h2
    subst hspot
    have key : ∀ i, i < len → ∃ o : α, At W b (off + i * k) o := fun i hi => by
      obtain ⟨cs', h1, y, h2, h3⟩ := key0 i hi
      obtain ⟨_, hlen', hc⟩ := World.cells?_some h1
      refine el n cs' y b (off + i * k) hlen' (fun j hj => ?_) h2 h3
      have := hc j hj
      rwa [add_plain, add_plain] at this
    obtain ⟨q, hq⟩ : ∃ q : Nat → α, ∀ i, i < len → At W b (off + i * k) (q i) := Go.Deep.choose_lt key
    have hb : b < W.heap.size := by
      obtain ⟨cs', h1, -⟩ := key0 0 (by omega)
      obtain ⟨_, hlen', hc⟩ := World.cells?_some h1
      have h := hc 0 hp
      rw [List.getElem?_eq_getElem (by omega), add_plain, add_plain] at h
      exact World.block_lt_of_cell? _ _ h
    have hll : ((List.range len).map q).length = len := by simp
    refine ⟨(List.range len).map q, some ⟨b, off, none⟩, cap, by rw [hll]; exact hcs, by rw [hll]; omega, fun e => (by cases e), by rw [hll]; exact hlb, .inr ⟨b, off, rfl, hb, fun i hi => ?_⟩⟩
    rw [hll] at hi
    simpa using hq i hi
theorem bytD {H : Type} {enc : TypeId × Value → H} {W : World} {fuel B : Nat} {cs : List Value} {x : DataW H × List MemPlace} (hf : DataW.trod enc Tryz.prog W 0 (fun _ => true) true fuel 34 cs = some x) (hB : Rows.uptoBulk x.1 ≤ B) : ∃ bs a cap, cs = [.slice a (List.length bs) cap] ∧ bs.length ≤ cap ∧ (a = none → cap = 0) ∧ bs.length ≤ B ∧ Byts W a bs ∧ (bs = [] ∨ ∀ p, a = some p → p.block < W.heap.size) := by
  obtain ⟨l, a, cap, e, h1, h2, h3, h4⟩ := openD_items (fun W b off (n : Nat) => W.cell? ⟨b, off, none⟩ = some (.int .u8 (n : Int)) ∧ n < 256) 1 B Tryz.underlying34 (by kernel_rfl) (by decide) hf hB (fun n cs' x' b off _ hc hg _ => by
    obtain ⟨z, e, -, hw⟩ := DataW.trod_int Tryz.underlying5 hg
    have hw := u8D hw
    have := hc 0 (by omega)
    rw [e] at this
    exact ⟨z.toNat, by rw [Nat.add_zero] at this; rw [this, Int.toNat_of_nonneg hw.1]; rfl, by omega⟩)
  refine ⟨l, a, cap, e, h1, h2, h3, ?_, ?_⟩
  · rcases h4 with rfl | ⟨g, off, rfl, hg, hc⟩
    · exact ⟨fun x hx => (by cases hx), .inl rfl⟩
    · refine ⟨fun x hx => ?_, .inr ⟨g, off, rfl, hg, fun i hi => ?_⟩⟩
      · obtain ⟨i, hi, rfl⟩ := List.mem_iff_getElem.1 hx
        exact (hc i hi).2
      · have := (hc i hi).1
        rwa [Nat.mul_one] at this
  · rcases h4 with h | ⟨g, off, rfl, hg, -⟩
    · exact .inl h
    · exact .inr fun p e => by obtain rfl := Option.some.inj e; exact hg
theorem intD {H : Type} {enc : TypeId × Value → H} {W : World} {fuel B : Nat} {cs : List Value} {x : DataW H × List MemPlace} (hf : DataW.trod enc Tryz.prog W 0 (fun _ => true) true fuel 35 cs = some x) (hB : Rows.uptoBulk x.1 ≤ B) : ∃ ks a cap, cs = [.slice a (List.length ks) cap] ∧ ks.length ≤ B ∧ KpAt W a ks ∧ (ks = [] ∨ ∀ p, a = some p → p.block < W.heap.size) := by
  obtain ⟨l, a, cap, e, h1, h2, h3, h4⟩ := openD_items (fun W b off (n : Int) => W.cell? ⟨b, off, none⟩ = some (.int .i64 n)) 1 B Tryz.underlying35 (by kernel_rfl) (by decide) hf hB (fun n cs' x' b off _ hc hg _ => by
    obtain ⟨z, e, -, hw⟩ := DataW.trod_int Tryz.underlying3 hg
    have := hc 0 (by omega)
    rw [e] at this
    exact ⟨z, by rw [Nat.add_zero] at this; rw [this]; rfl⟩)
  refine ⟨l, a, cap, e, h3, ?_, ?_⟩
  · rcases h4 with h | ⟨g, off, rfl, hg, hc⟩
    · exact .inl h
    · exact .inr ⟨g, off, rfl, hg, fun i hi => by have := hc i hi; rwa [Nat.mul_one] at this⟩
  · rcases h4 with h | ⟨g, off, rfl, hg, -⟩
    · exact .inl h
    · exact .inr fun p e => by obtain rfl := Option.some.inj e; exact hg
instance : Inhabited Fi := ⟨⟨[], [], 0⟩⟩
instance : Inhabited OpD := ⟨⟨0, 0, 0, false, [], none, [], 0, none, [], 0, 0⟩⟩
set_option maxRecDepth 100000 in
theorem filesD {H : Type} {enc : TypeId × Value → H} {W : World} {fuel B : Nat} {cs : List Value} {x : DataW H × List MemPlace} (hf : DataW.trod enc Tryz.prog W 0 (fun _ => true) true fuel 22 cs = some x) (hB : Rows.uptoBulk x.1 ≤ B) : ∃ (L : List Fi) (a : Option Addr) (cap : Nat), cs = [.slice a L.length cap] ∧ L.length ≤ B ∧ FiAt W a L ∧ (∀ f ∈ L, FiB B f) ∧ (∀ f ∈ L, ∀ x ∈ f.dat, x < 256) ∧ (L = [] ∨ ∀ p, a = some p → p.block < W.heap.size) := by
  obtain ⟨l, a, cap, e, h1, h2, h3, h4⟩ := openD_items (fun W b off (f : Fi) => (W.cell? ⟨b, off, none⟩ = some (.string (strB f.nm)) ∧ (∃ p c, W.cell? ⟨b, off + 1, none⟩ = some (.slice p f.dat.length c) ∧ (p = none → c = 0) ∧ f.dat.length ≤ c ∧ Byts W p f.dat) ∧ W.cell? ⟨b, off + 2, none⟩ = some (.int .i64 f.syn)) ∧ FiB B f ∧ ∀ x ∈ f.dat, x < 256) 3 B Tryz.underlying22 (by kernel_rfl) (by decide) hf hB (fun n cs' x' b off hcl hc hg hB' => by
    obtain ⟨xs, n, -, hx, -, hl, hg⟩ := DataW.trod_struct Tryz.underlying74 hg
    match cs', hcl, xs, hl with
    | [v0, v1, v2], _, [y0, y1, y2], _ =>
      have g0 := hg 0 _ rfl
      have g1 := hg 1 _ rfl
      have g2 := hg 2 _ rfl
      simp [show Tryz.prog.cellsOf 9 = 1 by kernel_rfl, show Tryz.prog.cellsOf 34 = 1 by kernel_rfl, show Tryz.prog.cellsOf 3 = 1 by kernel_rfl] at g0 g1 g2
      rw [hx] at hB'
      simp only [List.map_cons, List.map_nil, Rows.uptoBulk, Rows.uptoBulkAll] at hB'
      obtain ⟨z0, e0, r0, -⟩ := DataW.trod_string Tryz.underlying9 g0
      obtain ⟨bs, a1, c1, e1, k1, k2, k3, k4, -⟩ := bytD g1 (B := B) (by omega)
      obtain ⟨z2, e2, -, w2⟩ := DataW.trod_int Tryz.underlying3 g2
      obtain ⟨nm, q0, q1, q2⟩ := strD z0
      simp only [List.cons.injEq, and_true] at e0 e1 e2
      subst e0 e1 e2
      rw [r0] at hB'
      simp only [Rows.uptoBulk] at hB'
      refine ⟨⟨nm, bs, z2⟩, ⟨by have := hc 0 (by omega); rw [← q0]; exact this, ⟨a1, c1, hc 1 (by omega), k2, k1, k4⟩, hc 2 (by omega)⟩, ⟨by show nm.length ≤ B; omega, q1, k3, (rgD w2).1, (rgD w2).2⟩, k4.1⟩)
  refine ⟨l, a, cap, e, h3, ?_, fun f hf => ?_, fun f hf => ?_, ?_⟩
  · rcases h4 with h | ⟨g, off, rfl, hg, hc⟩
    · exact .inl h
    · exact .inr ⟨g, off, rfl, hg, fun i hi => (hc i hi).1⟩
  · obtain ⟨i, hi, rfl⟩ := List.mem_iff_getElem.1 hf
    rcases h4 with h | ⟨g, off, rfl, hg, hc⟩
    · rw [h] at hi; simp at hi
    · exact (hc i hi).2.1
  · obtain ⟨i, hi, rfl⟩ := List.mem_iff_getElem.1 hf
    rcases h4 with h | ⟨g, off, rfl, hg, hc⟩
    · rw [h] at hi; simp at hi
    · exact (hc i hi).2.2
  · rcases h4 with h | ⟨g, off, rfl, hg, -⟩
    · exact .inl h
    · exact .inr fun p e => by obtain rfl := Option.some.inj e; exact hg
end Go.Proofs.YthbojlbgjmecoaaGreat.DJ
