import Derived.Test.YtblfdjdhikfjhaaGreatJoin36
import Derived.Maps.AppendAt
import Derived.Test.YtblfdjdhikfjhaaGreatJoin19
import Derived.RangeFuncCalls
import Derived.RangeFuncWrites
import Derived.Deep.RegionLaw
namespace Go.Proofs.YtblfdjdhikfjhaaGreat
open Go.RowKit

/-- An append to an own row as a step of a region that draws its order, with which block is new. -/
theorem step_append_at {P : Program} {ops : Array Oper} {o : Oper} {a : Act} (w : World) {K : Act → World → Prop} {Q : Exit → Act → World → Prop} {E : Prop}
    (hg : o.guard = none) (s x : Operand) (t : TypeId) (ho : o.op = .call { callee := .builtin .append, args := #[s, x], argTypes := #[t, t] })
    (base : Nat) (e : TypeId) (i : TypeInfo) (z : Value) (size bytes : Nat) (ht : P.underlying t = some (.slice e)) (hi : P.info? e = some i) (hz : i.zero = some z)
    (hsize : i.size = size) (hby : i.bytes = bytes) (hzs : z.cells.size = size) (hsz : 0 < size)
    (v : Value) (n : Nat) (xs : List Value) (hs : a.eval s = v) (hown : w.ownsRow base e size v n xs)
    (ad : Addr) (m c : Nat) (news : List Value) (hx : a.eval x = .slice (some ad) m c) (hl : news.length = m * size) (hnews : ∀ j u, news[j]? = some u → w.cell? (ad.add j) = some u) (h1 : ∀ u ∈ news, u.oneCell' = true)
    (h63 : n + m ≤ maxLen) (hbytes : (n + m) * bytes ≤ 140737488355328) (hbase : base ≤ w.heap.size)
    (h : ∀ v' w', w'.ownsRow base e size v' (n + m) (xs ++ news) → w.grownBy w' v.ownBlock → (v'.ownBlock = v.ownBlock ∨ v'.ownBlock = some w.heap.size) → K (a.put o.dst v') w') : if Region.wanted o (yielded ops a.tmps) = true then Oper.wp P o a w K Q else E := by
  rw [if_pos (by simp [Region.wanted, hg])]
  obtain ⟨v', w', hr, h2, h3, -, h5⟩ := run_append_own_at (P := P) w base t o.type e i z size bytes ht hi hz hsize hby hzs hsz v n xs hown ad m c news hl hnews h1 h63 hbytes hbase
  unfold Oper.wp execOp
  simp only [ho, resolve, invoke, builtin, Sem.run_bind, Sem.run_pure, Result.andThen_ok, List.map_toArray, List.map_cons, List.map_nil, hs, hx, hr]
  exact h v' w' h2 h3 h5

/-- The puts that came in. -/
def PutsAt (W : World) (v : Value) (L : List (Nat × (Int × (Int × Bool)))) : Prop := ∃ a cap, v = .slice a L.length cap ∧ (L = [] ∨ ∃ g off, a = some ⟨g, off, none⟩ ∧ g < W.heap.size ∧ ∀ i (h : i < L.length), L[i].1 < 4294967296 ∧ W.cell? ⟨g, off + i * 4, none⟩ = some (.int .u32 (L[i].1 : Int)) ∧ W.cell? ⟨g, off + i * 4 + 1, none⟩ = some (.int .i64 L[i].2.1) ∧ W.cell? ⟨g, off + i * 4 + 2, none⟩ = some (.int .i64 L[i].2.2.1) ∧ W.cell? ⟨g, off + i * 4 + 3, none⟩ = some (.bool L[i].2.2.2))
/-- The numbers that came in. -/
def NumsAt (W : World) (v : Value) (L : List Int) : Prop := ∃ a cap, v = .slice a L.length cap ∧ (L = [] ∨ ∃ g off, a = some ⟨g, off, none⟩ ∧ g < W.heap.size ∧ ∀ i (h : i < L.length), W.cell? ⟨g, off + i, none⟩ = some (.int .i64 L[i]))

/-- The first loop's state: the versions vs, the two rows that hold them. -/
structure Vers (B : Nat) (w W : World) (mv hv : Value) (vs : List Ver) : Prop where
  ats : ∀ x ∈ vs, VerAt W x
  maps : W.ownsRow B 40 1 mv vs.length (mapsC vs)
  held : W.ownsRow B 22 1 hv vs.length (heldC vs)
  moff : ∀ r, mv.ownBlock = some r → ∀ x ∈ vs, VerOff r x
  hoff : ∀ r, hv.ownBlock = some r → ∀ x ∈ vs, VerOff r x
  apart : ∀ r, mv.ownBlock = some r → hv.ownBlock ≠ some r
  below : Below B w W

theorem Vers.size {B : Nat} {w W : World} {mv hv : Value} {vs : List Ver} (h : Vers B w W mv hv vs) (hB : B ≤ w.heap.size) : B ≤ W.heap.size := Nat.le_trans hB h.below.size
theorem Vers.later {B : Nat} {w W W' : World} {mv hv : Value} {vs : List Ver} (h : Vers B w W mv hv vs) (hB : B ≤ w.heap.size) (hb : Below W.heap.size W W') : Vers B w W' mv hv vs where
  ats := fun x hx => (h.ats x hx).later hb
  maps := own_laterB h.maps hb
  held := own_laterB h.held hb
  moff := h.moff
  hoff := h.hoff
  apart := h.apart
  below := h.below.trans (hb.mono (h.size hB))

/-- Behind the first append of a round: the new map is held, its list is not yet. -/
structure Mid (B : Nat) (w W : World) (mv hv : Value) (vs : List Ver) (mb : Nat) (t : Tr) : Prop where
  ats : ∀ x ∈ vs, VerAt W x
  new : MapT W mb t
  maps : W.ownsRow B 40 1 mv (vs.length + 1) (mapsC vs ++ [.pointer (some ⟨mb, 0, none⟩)])
  held : W.ownsRow B 22 1 hv vs.length (heldC vs)
  moff : ∀ r, mv.ownBlock = some r → (∀ x ∈ vs, VerOff r x) ∧ mb ≠ r ∧ t.avoid r
  hoff : ∀ r, hv.ownBlock = some r → (∀ x ∈ vs, VerOff r x) ∧ mb ≠ r ∧ t.avoid r
  apart : ∀ r, mv.ownBlock = some r → hv.ownBlock ≠ some r
  below : Below B w W

theorem Mid.later {B : Nat} {w W W' : World} {mv hv : Value} {vs : List Ver} {mb : Nat} {t : Tr} (h : Mid B w W mv hv vs mb t) (hB : B ≤ w.heap.size) (hb : Below W.heap.size W W') : Mid B w W' mv hv vs mb t where
  ats := fun x hx => (h.ats x hx).later hb
  new := h.new.later hb
  maps := own_laterB h.maps hb
  held := own_laterB h.held hb
  moff := h.moff
  hoff := h.hoff
  apart := h.apart
  below := h.below.trans (hb.mono (Nat.le_trans hB h.below.size))

theorem mid_of {B : Nat} {w X X1 A Y : World} {mv hv mv' : Value} {vs : List Ver} {x : Ver} {mb' : Nat} {t' : Tr} (h : Vers B w X mv hv vs) (hB : B ≤ w.heap.size) (hx : x ∈ vs) (hb1 : Below X.heap.size X X1) (hM : MapT X1 mb' t') (hf : Fresh X x.1 x.2.1 mb' t') (hbA : Below X1.heap.size X1 A)
    (hg : A.grownBy Y mv.ownBlock) (hown : Y.ownsRow B 40 1 mv' (vs.length + 1) (mapsC vs ++ [.pointer (some ⟨mb', 0, none⟩)])) (hn : mv'.ownBlock = mv.ownBlock ∨ mv'.ownBlock = some A.heap.size) : Mid B w Y mv' hv vs mb' t' := by
  have hA : Vers B w A mv hv vs := (h.later hB hb1).later hB hbA
  have hMA := hM.later hbA
  have hsz : X.heap.size ≤ A.heap.size := Nat.le_trans hb1.size hbA.size
  have hr : ∀ r, mv.ownBlock = some r → mb' ≠ r ∧ t'.avoid r := fun r e => hf r (h.maps.lt r e).2 (Ne.symm (h.moff r e x hx).1) (h.moff r e x hx).2.1
  have hh : ∀ r, hv.ownBlock = some r → mb' ≠ r ∧ t'.avoid r := fun r e => hf r (h.held.lt r e).2 (Ne.symm (h.hoff r e x hx).1) (h.hoff r e x hx).2.1
  refine ⟨fun y hy => (hA.ats y hy).grown hg (fun r e => h.moff r e y hy), map_grown hg hMA hr, hown, hA.held.kept hg ?_, ?_, fun r e => ⟨h.hoff r e, hh r e⟩, ?_, hA.below.grown hg (hA.size hB) (fun k e => (h.maps.lt k e).1)⟩
  · cases e : hv.ownBlock with
    | none => exact .inl rfl
    | some r => exact .inr fun e2 => h.apart r e2.symm e
  · intro r e
    rcases hn with e1 | e1
    · exact ⟨h.moff r (e1 ▸ e), hr r (e1 ▸ e)⟩
    · obtain rfl : A.heap.size = r := Option.some.inj (e1.symm.trans e)
      exact ⟨fun y hy => (hA.ats y hy).off_new (Nat.le_refl _), by have := hMA.1; omega, lies_avoid (Nat.le_refl _) hMA.2.2.2.1⟩
  · intro r e e2
    rcases hn with e1 | e1
    · exact h.apart r (e1 ▸ e) e2
    · obtain rfl : A.heap.size = r := Option.some.inj (e1.symm.trans e)
      have := (hA.held.lt _ e2).2
      omega

theorem vers_of {B base : Nat} {w X X1 A Y : World} {mv hv hv' ev : Value} {vs : List Ver} {mb : Nat} {t : Tr} (h : Mid B w X mv hv vs mb t) (hB : B ≤ w.heap.size) (hb1 : Below X.heap.size X X1) (hbase : X.heap.size ≤ base) (he : X1.ownsRow base 49 3 ev (t.ents 7 0).length (flat3 (t.ents 7 0))) (hbA : Below X1.heap.size X1 A)
    (hg : A.grownBy Y hv.ownBlock) (hown : Y.ownsRow B 22 1 hv' (vs.length + 1) (heldC vs ++ [ev])) (hn : hv'.ownBlock = hv.ownBlock ∨ hv'.ownBlock = some A.heap.size) : Vers B w Y mv hv' (vs ++ [(mb, (t, ev))]) := by
  have hA : Mid B w A mv hv vs mb t := (h.later hB hb1).later hB hbA
  have hev : VerAt A (mb, (t, ev)) := ⟨hA.new, (ents_of_own he).later hbA, fun g e => Nat.lt_of_lt_of_le (he.lt g e).2 hbA.size⟩
  have hoff : ∀ r, r < X.heap.size → mb ≠ r ∧ t.avoid r → VerOff r (mb, (t, ev)) := fun r hr ha => ⟨ha.1, ha.2, fun e => by have := (he.lt r e).1; omega⟩
  have hall : ∀ y ∈ vs ++ [(mb, (t, ev))], VerAt A y := by
    intro y hy
    rcases List.mem_append.1 hy with hy | hy
    · exact hA.ats y hy
    · rw [List.mem_singleton.1 hy]; exact hev
  have hm : ∀ r, mv.ownBlock = some r → ∀ y ∈ vs ++ [(mb, (t, ev))], VerOff r y := by
    intro r e y hy
    rcases List.mem_append.1 hy with hy | hy
    · exact (h.moff r e).1 y hy
    · rw [List.mem_singleton.1 hy]; exact hoff r (h.maps.lt r e).2 (h.moff r e).2
  have hh : ∀ r, hv.ownBlock = some r → ∀ y ∈ vs ++ [(mb, (t, ev))], VerOff r y := by
    intro r e y hy
    rcases List.mem_append.1 hy with hy | hy
    · exact (h.hoff r e).1 y hy
    · rw [List.mem_singleton.1 hy]; exact hoff r (h.held.lt r e).2 (h.hoff r e).2
  refine ⟨fun y hy => (hall y hy).grown hg (fun r e => hh r e y hy), ?_, ?_, hm, offs_grown hall hh hn, ?_, hA.below.grown hg (Nat.le_trans hB hA.below.size) (fun k e => (h.held.lt k e).1)⟩
  · rw [mapsC_app, List.length_append]
    refine hA.maps.kept hg ?_
    cases e : mv.ownBlock with
    | none => exact .inl rfl
    | some r => exact .inr fun e2 => h.apart r e e2.symm
  · rw [heldC_app, List.length_append]
    exact hown
  · intro r e e2
    rcases hn with e1 | e1
    · exact h.apart r e (e1 ▸ e2)
    · obtain rfl : A.heap.size = r := Option.some.inj (e1.symm.trans e2)
      have := (hA.maps.lt _ e).2
      omega

/-- Behind the call of one: the map that it gave, made of one of the versions. -/
def Made (B : Nat) (w W : World) (mv hv : Value) (vs : List Ver) (mb : Nat) (t : Tr) : Prop := ∃ X X1 x, Vers B w X mv hv vs ∧ x ∈ vs ∧ Below X.heap.size X X1 ∧ MapT X1 mb t ∧ Fresh X x.1 x.2.1 mb t ∧ Below X1.heap.size X1 W
theorem Made.later {B : Nat} {w W W' : World} {mv hv : Value} {vs : List Ver} {mb : Nat} {t : Tr} (h : Made B w W mv hv vs mb t) (hb : Below W.heap.size W W') : Made B w W' mv hv vs mb t := by
  obtain ⟨X, X1, x, h1, h2, h3, h4, h5, h6⟩ := h
  exact ⟨X, X1, x, h1, h2, h3, h4, h5, below_step h6 hb⟩
theorem Made.vers {B : Nat} {w W : World} {mv hv : Value} {vs : List Ver} {mb : Nat} {t : Tr} (h : Made B w W mv hv vs mb t) (hB : B ≤ w.heap.size) : Vers B w W mv hv vs := by
  obtain ⟨X, X1, x, h1, h2, h3, h4, h5, h6⟩ := h
  exact (h1.later hB h3).later hB h6
theorem mid_made {B : Nat} {w A Y : World} {mv hv mv' : Value} {vs : List Ver} {mb' : Nat} {t' : Tr} (h : Made B w A mv hv vs mb' t') (hB : B ≤ w.heap.size)
    (hown : Y.ownsRow B 40 1 mv' (vs.length + 1) (mapsC vs ++ [.pointer (some ⟨mb', 0, none⟩)])) (hg : A.grownBy Y mv.ownBlock) (hn : mv'.ownBlock = mv.ownBlock ∨ mv'.ownBlock = some A.heap.size) : Mid B w Y mv' hv vs mb' t' := by
  obtain ⟨X, X1, x, h1, h2, h3, h4, h5, h6⟩ := h
  exact mid_of h1 hB h2 h3 h4 h5 h6 hg hown hn

theorem round_later {B mg k ga o : Nat} {w X X' : World} {mv hv : Value} {vs : List Ver} {u u0 u1 u2 u3 : Value} (hB : B ≤ w.heap.size) (h : X.cell? ⟨mg, k, none⟩ = some u ∧ X.cell? ⟨ga, o, none⟩ = some u0 ∧ X.cell? ⟨ga, o + 1, none⟩ = some u1 ∧ X.cell? ⟨ga, o + 2, none⟩ = some u2 ∧ X.cell? ⟨ga, o + 3, none⟩ = some u3 ∧ Vers B w X mv hv vs) (hb : Below X.heap.size X X') : X'.cell? ⟨mg, k, none⟩ = some u ∧ X'.cell? ⟨ga, o, none⟩ = some u0 ∧ X'.cell? ⟨ga, o + 1, none⟩ = some u1 ∧ X'.cell? ⟨ga, o + 2, none⟩ = some u2 ∧ X'.cell? ⟨ga, o + 3, none⟩ = some u3 ∧ Vers B w X' mv hv vs := by
  obtain ⟨h, h0, h1, h2, h3, h4⟩ := h
  exact ⟨(hb.cell (World.block_lt_of_cell? _ _ h)).trans h, (hb.cell (World.block_lt_of_cell? _ _ h0)).trans h0, (hb.cell (World.block_lt_of_cell? _ _ h1)).trans h1, (hb.cell (World.block_lt_of_cell? _ _ h2)).trans h2, (hb.cell (World.block_lt_of_cell? _ _ h3)).trans h3, h4.later hB hb⟩

theorem vers_start {w w1 w2 : World} (hM : MapT w1 w.heap.size .nil) (h1 : Below w.heap.size w w1) (h2 : Below w1.heap.size w1 w2) : Vers w.heap.size w ((w2.alloc (.cells #[.pointer (some ⟨w.heap.size, 0, none⟩)] 40)).alloc (.cells #[.slice none 0 0] 22)) (.slice (some ⟨w2.heap.size, 0, none⟩) 1 1) (.slice (some ⟨w2.heap.size + 1, 0, none⟩) 1 1) [(w.heap.size, (.nil, .slice none 0 0))] := by
  have hB := below_step h1 h2
  have hV2 := ver_empty (hM.later h2)
  have hb := ((Below.refl w2.heap.size w2).alloc (Nat.le_refl _) (.cells #[.pointer (some ⟨w.heap.size, 0, none⟩)] 40)).alloc (by simp) (.cells #[.slice none 0 0] 22)
  have hs := hB.size
  refine ⟨?_, ?_, ?_, ?_, ?_, ?_, below_step hB hb⟩
  · intro x hx
    rw [List.mem_singleton.1 hx]
    exact hV2.later hb
  · refine World.ownsRow.alloc ?_ _
    exact ⟨rfl, .inr ⟨_, _, _, rfl, hs, heap_alloc_last w2 _, Nat.le_refl _, by unfold maxLen; omega, rfl, rfl⟩⟩
  · refine ⟨rfl, .inr ⟨w2.heap.size + 1, 1, #[.slice none 0 0], rfl, by omega, ?_, Nat.le_refl _, by unfold maxLen; omega, rfl, rfl⟩⟩
    have := heap_alloc_last (w2.alloc (.cells #[.pointer (some ⟨w.heap.size, 0, none⟩)] 40)) (.cells #[.slice none 0 0] 22)
    simpa using this
  · intro r e x hx
    obtain rfl := Option.some.inj e
    rw [List.mem_singleton.1 hx]
    exact hV2.off_new (Nat.le_refl _)
  · intro r e x hx
    obtain rfl := Option.some.inj e
    rw [List.mem_singleton.1 hx]
    exact hV2.off_new (Nat.le_succ _)
  · intro r e e2
    have a := Option.some.inj e
    have b := Option.some.inj e2
    simp at a b
    omega

end Go.Proofs.YtblfdjdhikfjhaaGreat


namespace Go.Proofs.YtblfdjdhikfjhaaGreat
open Go.RowKit

/-- A change as it lies in memory. -/
def chL (c : Ch) : List Value := [.int .u32 (c.1 : Int), .bool c.2.1.isSome, .bool c.2.2.isSome, .int .i64 (c.2.1.getD (0, 0)).1, .int .i64 (c.2.1.getD (0, 0)).2, .int .i64 (c.2.2.getD (0, 0)).1, .int .i64 (c.2.2.getD (0, 0)).2]
def flat7 (L : List Ch) : List Value := L.flatMap chL
theorem flat7_snoc (L : List Ch) (c : Ch) : flat7 (L ++ [c]) = flat7 L ++ chL c := by simp [flat7]
theorem infoC : (Tryz.prog.info? 150).map (fun i => (i.zero, i.size, i.bytes)) = some (some (.agg #[.int .u32 0, .bool false, .bool false, .int .i64 0, .int .i64 0, .int .i64 0, .int .i64 0]), 7, 40) := by kernel_rfl

def takerRowC (cv : Value) (stop most n : Int) (over deaf : Bool) : Array Value := #[.slice none 0 0, cv, .int .i64 stop, .int .i64 most, .int .i64 n, .bool over, .bool deaf]
/-- The block k is none of a taker's. -/
def offT (T k : Nat) (X : World) : Prop := k ≠ T ∧ ∀ cv : Value, X.cell? ⟨T, 1, none⟩ = some cv → cv.ownBlock ≠ some k

theorem cells7_at (W : World) (n : Nat) (hn : n = W.heap.size) (a b c d e f g : Value) (t : TypeId) : ∀ j u, ([a, b, c, d, e, f, g] : List Value)[j]? = some u → (W.alloc (.cells #[a, b, c, d, e, f, g] t)).cell? ((⟨n, 0, none⟩ : Addr).add j) = some u := by
  subst hn
  intro j u h
  match j, h with
  | 0, h => simpa [Addr.add] using h
  | 1, h => simpa [Addr.add] using h
  | 2, h => simpa [Addr.add] using h
  | 3, h => simpa [Addr.add] using h
  | 4, h => simpa [Addr.add] using h
  | 5, h => simpa [Addr.add] using h
  | 6, h => simpa [Addr.add] using h
  | j + 7, h => simp at h
theorem own_cells {w : World} {base n size : Nat} {e : TypeId} {v : Value} {xs : List Value} (h : w.ownsRow base e size v n xs) (j : Nat) (o : Obj) (hj : v.ownBlock = some j) (ho : w.heap[j]? = some o) : o.isCells = true := by
  obtain ⟨-, h | ⟨g, cap, cur, rfl, -, hb, -⟩⟩ := h
  · rw [h.1] at hj; cases hj
  · obtain rfl := Option.some.inj hj
    rw [hb] at ho
    rw [← Option.some.inj ho]
    rfl
theorem row_cells {w : World} {T : Nat} {cs : Array Value} {t : TypeId} {z : Nat × Nat} {o : Obj} (h : w.heap[T]? = some (.cells cs t z)) (ho : w.heap[T]? = some o) : o.isCells = true := by
  rw [h] at ho
  rw [← Option.some.inj ho]
  rfl

end Go.Proofs.YtblfdjdhikfjhaaGreat
