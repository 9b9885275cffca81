import Derived.Test.YtkojgbfocdefnaaJoin43
import Derived.Maps.AppendAt
import Derived.RangeFuncCalls
import Derived.RangeFuncWrites
import Derived.Deep.RegionLaw
import Derived.Test.YtkojgbfocdefnaaTRun
import Derived.RangeFuncNested
import Derived.RangeFuncBound
import Derived.RangeFuncLeaves
import Derived.Shelf.Abstract
import Derived.OwnWalkIn
import Derived.TacticsInMore
import Derived.LoopNIn
import Derived.LoopIn
import Derived.Stop.RegionWithIn
import Derived.Deep.QuietTactic
import Derived.BigQuiet
namespace Go.Proofs.Ytkojgbfocdefnaa
open Go.RowKit

/-- A map of the world w that goes through no block that an elder one didn't go through. -/
def Fresh (w : World) (mb : Nat) (t : Tr) (mb' : Nat) (t' : Tr) : Prop := ∀ b, b < w.heap.size → b ≠ mb → t.avoid b → mb' ≠ b ∧ t'.avoid b

theorem mput_fresh (mb id : Nat) (hi : id < 4294967296) (v : Int × Int) (t : Tr) (w : World) (h : MapT w mb t) : Calls Try.prog 44 #[.pointer (some ⟨mb, 0, none⟩), .int .u32 (id : Int), .agg #[.int .i64 v.1, .int .i64 v.2]] w fun e w' => ∃ mb' t', e = .returned (.pointer (some ⟨mb', 0, none⟩)) ∧ MapT w' mb' t' ∧ t'.ents 7 0 = ins (t.ents 7 0) id v ∧ Below w.heap.size w w' ∧ Fresh w mb t mb' t' := by
  have hw := h.2.2.2.2
  have hlen := length_ins (t.ents 7 0) id v
  cases hg : t.get 7 id with
  | none =>
    refine (put_none mb id v t w h hg).mono ?_
    rintro e w' ⟨mb', t', rfl, h0, h1, h2, h3, h4, h5, h6⟩
    have he := ents_put h5 hw hi
    have hf : (t.ents 7 0).filter (fun e => decide (e.1 = id)) = [] := filter_none fun x hx => by rw [mem_of_get hw hi, hg] at hx; cases hx
    rw [hf] at hlen
    refine ⟨mb', t', rfl, ⟨h1, h2, ?_, h4, put_wf 7 h5 hw⟩, he, h6, fun b hb _ ha => ⟨by omega, put_avoid hb 7 h5 ha⟩⟩
    rw [h3, he, ← hlen]
    simp
  | some x =>
    have hf := filter_one (ents_rises 7 hw 0) ((mem_of_get hw hi).2 hg)
    by_cases hx : x = v
    · subst hx
      refine (put_same mb id x t w h hg).mono ?_
      rintro e w' ⟨rfl, hb⟩
      exact ⟨mb, t, rfl, h.later hb, (ins_same (ents_rises 7 hw 0) ((mem_of_get hw hi).2 hg)).symm, hb, fun b _ hn ha => ⟨Ne.symm hn, ha⟩⟩
    · refine (put_other mb id v t w h x hx hg).mono ?_
      rintro e w' ⟨mb', t', rfl, h0, h1, h2, h3, h4, h5, h6⟩
      have he := ents_put h5 hw hi
      refine ⟨mb', t', rfl, ⟨h1, h2, ?_, h4, put_wf 7 h5 hw⟩, he, h6, fun b hb _ ha => ⟨by omega, put_avoid hb 7 h5 ha⟩⟩
      rw [h3, he]
      congr 3
      omega

theorem lies_grown {w w' : World} {row : Option Nat} (hg : w.grownBy w' row) : ∀ {t : Tr}, Lies w t → (∀ r, row = some r → t.avoid r) → Lies w' t := by
  intro t
  induction t with
  | nil => intro _ _; trivial
  | node c kids ih => intro h ha; exact ⟨(hg.block c h.1.lt (fun e => (ha c e.symm).1 rfl)).trans h.1, fun i hi => ih i (h.2 i hi) (fun r hr => (ha r hr).2 i hi)⟩
  | leaf c s th vk vn => intro h ha; exact ⟨(hg.block c h.1.lt (fun e => (ha c e.symm).1 rfl)).trans h.1, (hg.block s h.2.lt (fun e => (ha s e.symm).2 rfl)).trans h.2⟩
theorem map_grown {w w' : World} {row : Option Nat} {mb : Nat} {t : Tr} (hg : w.grownBy w' row) (h : MapT w mb t) (ha : ∀ r, row = some r → mb ≠ r ∧ t.avoid r) : MapT w' mb t := by
  have hb : w'.heap[mb]? = w.heap[mb]? := hg.block mb h.1 (fun e => (ha mb e.symm).1 rfl)
  exact ⟨Nat.lt_of_lt_of_le h.1 hg.size, (World.cell?_of_block hb).trans h.2.1, (World.cell?_of_block hb).trans h.2.2.1, lies_grown hg h.2.2.2.1 (fun r hr => (ha r hr).2), h.2.2.2.2⟩

end Go.Proofs.Ytkojgbfocdefnaa


namespace Go.Proofs.Ytkojgbfocdefnaa
open Go.RowKit

/-- A map that was held, the tree of it, and the list that was laid beside it. -/
abbrev Ver := Nat × (Tr × Value)
def VerAt (W : World) (x : Ver) : Prop := MapT W x.1 x.2.1 ∧ EntsAt W x.2.2 (x.2.1.ents 7 0) ∧ ∀ g, x.2.2.ownBlock = some g → g < W.heap.size
/-- The block r is no part of it. -/
def VerOff (r : Nat) (x : Ver) : Prop := x.1 ≠ r ∧ x.2.1.avoid r ∧ x.2.2.ownBlock ≠ some r

theorem ents_grown {W W' : World} {row : Option Nat} {v : Value} {L : List (Nat × (Int × Int))} (hg : W.grownBy W' row) (h : EntsAt W v L) (ha : ∀ r, row = some r → v.ownBlock ≠ some r) : EntsAt W' v L := by
  obtain ⟨a, cap, rfl, h | ⟨g, off, rfl, hl, hc⟩⟩ := h
  · exact ⟨a, cap, rfl, .inl h⟩
  · have hb : W'.heap[g]? = W.heap[g]? := hg.block g hl (fun e => ha g e.symm rfl)
    have e : ∀ j, W'.cell? ⟨g, j, none⟩ = W.cell? ⟨g, j, none⟩ := fun j => World.cell?_of_block hb
    exact ⟨_, cap, rfl, .inr ⟨g, off, rfl, Nat.lt_of_lt_of_le hl hg.size, fun i hi => ⟨(e _).trans (hc i hi).1, (e _).trans (hc i hi).2.1, (e _).trans (hc i hi).2.2⟩⟩⟩

theorem VerAt.later {W W' : World} {x : Ver} (h : VerAt W x) (hb : Below W.heap.size W W') : VerAt W' x :=
  ⟨h.1.later hb, h.2.1.later hb, fun g hg => Nat.lt_of_lt_of_le (h.2.2 g hg) hb.size⟩
theorem VerAt.grown {W W' : World} {row : Option Nat} {x : Ver} (h : VerAt W x) (hg : W.grownBy W' row) (ha : ∀ r, row = some r → VerOff r x) : VerAt W' x :=
  ⟨map_grown hg h.1 (fun r hr => ⟨(ha r hr).1, (ha r hr).2.1⟩), ents_grown hg h.2.1 (fun r hr => (ha r hr).2.2), fun g hr => Nat.lt_of_lt_of_le (h.2.2 g hr) hg.size⟩

theorem VerAt.off_new {W : World} {x : Ver} (h : VerAt W x) {r : Nat} (hr : W.heap.size ≤ r) : VerOff r x :=
  ⟨by have := h.1.1; omega, lies_avoid hr h.1.2.2.2.1, fun e => by have := h.2.2 r e; omega⟩

/-- The empty map, and no list. -/
theorem ver_empty {W : World} {mb : Nat} (h : MapT W mb .nil) : VerAt W (mb, .nil, .slice none 0 0) :=
  ⟨h, ⟨none, 0, rfl, .inl rfl⟩, fun g hg => by cases hg⟩

/-- The blocks of the two rows that grow: new where they are not the old ones. -/
theorem offs_grown {W : World} {vs : List Ver} {v v' : Value} (hA : ∀ x ∈ vs, VerAt W x) (h : ∀ r, v.ownBlock = some r → ∀ x ∈ vs, VerOff r x) (hn : v'.ownBlock = v.ownBlock ∨ v'.ownBlock = some W.heap.size) : ∀ r, v'.ownBlock = some r → ∀ x ∈ vs, VerOff r x := by
  intro r hr x hx
  rcases hn with e | e
  · exact h r (e ▸ hr) x hx
  · rw [e] at hr
    exact (hA x hx).off_new (Nat.le_of_eq (Option.some.inj hr))

/-- What is made of a version goes through no block that the version does not, but for new ones. -/
theorem off_made {w : World} {x : Ver} {mb' : Nat} {t' : Tr} {ev : Value} {r : Nat} (hr : r < w.heap.size) (hx : VerOff r x) (hf : Fresh w x.1 x.2.1 mb' t') (he : ∀ g, ev.ownBlock = some g → w.heap.size ≤ g) : VerOff r (mb', t', ev) :=
  have h := hf r hr (Ne.symm hx.1) hx.2.1
  ⟨h.1, h.2, fun e => by have := he r e; omega⟩

/-- The two rows' cells. -/
def mapsC (vs : List Ver) : List Value := vs.map fun x => .pointer (some ⟨x.1, 0, none⟩)
def heldC (vs : List Ver) : List Value := vs.map fun x => x.2.2
theorem mapsC_len (vs : List Ver) : (mapsC vs).length = vs.length := by simp [mapsC]
theorem heldC_len (vs : List Ver) : (heldC vs).length = vs.length := by simp [heldC]
theorem mapsC_at (vs : List Ver) {i : Nat} (h : i < vs.length) : (mapsC vs)[i]? = some (.pointer (some ⟨(vs[i]).1, 0, none⟩)) := by simp [mapsC, h]
theorem heldC_at (vs : List Ver) {i : Nat} (h : i < vs.length) : (heldC vs)[i]? = some (vs[i]).2.2 := by simp [heldC, h]
theorem mapsC_app (vs : List Ver) (x : Ver) : mapsC (vs ++ [x]) = mapsC vs ++ [.pointer (some ⟨x.1, 0, none⟩)] := by simp [mapsC]
theorem heldC_app (vs : List Ver) (x : Ver) : heldC (vs ++ [x]) = heldC vs ++ [x.2.2] := by simp [heldC]

end Go.Proofs.Ytkojgbfocdefnaa


namespace Go.Proofs.Ytkojgbfocdefnaa
open Go.RowKit

/-- An append to an own row as a step of a region that draws its order, with which block is new. -/
theorem step_append_at {P : Program} {ops : Array Oper} {o : Oper} {a : Act} (w : World) {K : Act → World → Prop} {Q : Exit → Act → World → Prop} {E : Prop}
    (hg : o.guard = none) (s x : Operand) (t : TypeId) (ho : o.op = .call { callee := .builtin .append, args := #[s, x], argTypes := #[t, t] })
    (base : Nat) (e : TypeId) (i : TypeInfo) (z : Value) (size bytes : Nat) (ht : P.underlying t = some (.slice e)) (hi : P.info? e = some i) (hz : i.zero = some z)
    (hsize : i.size = size) (hby : i.bytes = bytes) (hzs : z.cells.size = size) (hsz : 0 < size)
    (v : Value) (n : Nat) (xs : List Value) (hs : a.eval s = v) (hown : w.ownsRow base e size v n xs)
    (ad : Addr) (m c : Nat) (news : List Value) (hx : a.eval x = .slice (some ad) m c) (hl : news.length = m * size) (hnews : ∀ j u, news[j]? = some u → w.cell? (ad.add j) = some u) (h1 : ∀ u ∈ news, u.oneCell' = true)
    (h63 : n + m ≤ maxLen) (hbytes : (n + m) * bytes ≤ 140737488355328) (hbase : base ≤ w.heap.size)
    (h : ∀ v' w', w'.ownsRow base e size v' (n + m) (xs ++ news) → w.grownBy w' v.ownBlock → (v'.ownBlock = v.ownBlock ∨ v'.ownBlock = some w.heap.size) → K (a.put o.dst v') w') : if Region.wanted o (yielded ops a.tmps) = true then Oper.wp P o a w K Q else E := by
  rw [if_pos (by simp [Region.wanted, hg])]
  obtain ⟨v', w', hr, h2, h3, -, h5⟩ := run_append_own_at (P := P) w base t o.type e i z size bytes ht hi hz hsize hby hzs hsz v n xs hown ad m c news hl hnews h1 h63 hbytes hbase
  unfold Oper.wp execOp
  simp only [ho, resolve, invoke, builtin, Sem.run_bind, Sem.run_pure, Result.andThen_ok, List.map_toArray, List.map_cons, List.map_nil, hs, hx, hr]
  exact h v' w' h2 h3 h5

/-- The puts that came in. -/
def PutsAt (W : World) (v : Value) (L : List (Nat × (Int × (Int × Bool)))) : Prop := ∃ a cap, v = .slice a L.length cap ∧ (L = [] ∨ ∃ g off, a = some ⟨g, off, none⟩ ∧ g < W.heap.size ∧ ∀ i (h : i < L.length), L[i].1 < 4294967296 ∧ W.cell? ⟨g, off + i * 4, none⟩ = some (.int .u32 (L[i].1 : Int)) ∧ W.cell? ⟨g, off + i * 4 + 1, none⟩ = some (.int .i64 L[i].2.1) ∧ W.cell? ⟨g, off + i * 4 + 2, none⟩ = some (.int .i64 L[i].2.2.1) ∧ W.cell? ⟨g, off + i * 4 + 3, none⟩ = some (.bool L[i].2.2.2))
/-- The numbers that came in. -/
def NumsAt (W : World) (v : Value) (L : List Int) : Prop := ∃ a cap, v = .slice a L.length cap ∧ (L = [] ∨ ∃ g off, a = some ⟨g, off, none⟩ ∧ g < W.heap.size ∧ ∀ i (h : i < L.length), W.cell? ⟨g, off + i, none⟩ = some (.int .i64 L[i]))

/-- The first loop's state: the versions vs, the two rows that hold them. -/
structure Vers (B : Nat) (w W : World) (mv hv : Value) (vs : List Ver) : Prop where
  ats : ∀ x ∈ vs, VerAt W x
  maps : W.ownsRow B 46 1 mv vs.length (mapsC vs)
  held : W.ownsRow B 22 1 hv vs.length (heldC vs)
  moff : ∀ r, mv.ownBlock = some r → ∀ x ∈ vs, VerOff r x
  hoff : ∀ r, hv.ownBlock = some r → ∀ x ∈ vs, VerOff r x
  apart : ∀ r, mv.ownBlock = some r → hv.ownBlock ≠ some r
  below : Below B w W

theorem Vers.size {B : Nat} {w W : World} {mv hv : Value} {vs : List Ver} (h : Vers B w W mv hv vs) (hB : B ≤ w.heap.size) : B ≤ W.heap.size := Nat.le_trans hB h.below.size
theorem Vers.later {B : Nat} {w W W' : World} {mv hv : Value} {vs : List Ver} (h : Vers B w W mv hv vs) (hB : B ≤ w.heap.size) (hb : Below W.heap.size W W') : Vers B w W' mv hv vs where
  ats := fun x hx => (h.ats x hx).later hb
  maps := own_laterB h.maps hb
  held := own_laterB h.held hb
  moff := h.moff
  hoff := h.hoff
  apart := h.apart
  below := h.below.trans (hb.mono (h.size hB))

/-- Behind the first append of a round: the new map is held, its list is not yet. -/
structure Mid (B : Nat) (w W : World) (mv hv : Value) (vs : List Ver) (mb : Nat) (t : Tr) : Prop where
  ats : ∀ x ∈ vs, VerAt W x
  new : MapT W mb t
  maps : W.ownsRow B 46 1 mv (vs.length + 1) (mapsC vs ++ [.pointer (some ⟨mb, 0, none⟩)])
  held : W.ownsRow B 22 1 hv vs.length (heldC vs)
  moff : ∀ r, mv.ownBlock = some r → (∀ x ∈ vs, VerOff r x) ∧ mb ≠ r ∧ t.avoid r
  hoff : ∀ r, hv.ownBlock = some r → (∀ x ∈ vs, VerOff r x) ∧ mb ≠ r ∧ t.avoid r
  apart : ∀ r, mv.ownBlock = some r → hv.ownBlock ≠ some r
  below : Below B w W

theorem Mid.later {B : Nat} {w W W' : World} {mv hv : Value} {vs : List Ver} {mb : Nat} {t : Tr} (h : Mid B w W mv hv vs mb t) (hB : B ≤ w.heap.size) (hb : Below W.heap.size W W') : Mid B w W' mv hv vs mb t where
  ats := fun x hx => (h.ats x hx).later hb
  new := h.new.later hb
  maps := own_laterB h.maps hb
  held := own_laterB h.held hb
  moff := h.moff
  hoff := h.hoff
  apart := h.apart
  below := h.below.trans (hb.mono (Nat.le_trans hB h.below.size))

theorem mid_of {B : Nat} {w X X1 A Y : World} {mv hv mv' : Value} {vs : List Ver} {x : Ver} {mb' : Nat} {t' : Tr} (h : Vers B w X mv hv vs) (hB : B ≤ w.heap.size) (hx : x ∈ vs) (hb1 : Below X.heap.size X X1) (hM : MapT X1 mb' t') (hf : Fresh X x.1 x.2.1 mb' t') (hbA : Below X1.heap.size X1 A)
    (hg : A.grownBy Y mv.ownBlock) (hown : Y.ownsRow B 46 1 mv' (vs.length + 1) (mapsC vs ++ [.pointer (some ⟨mb', 0, none⟩)])) (hn : mv'.ownBlock = mv.ownBlock ∨ mv'.ownBlock = some A.heap.size) : Mid B w Y mv' hv vs mb' t' := by
  have hA : Vers B w A mv hv vs := (h.later hB hb1).later hB hbA
  have hMA := hM.later hbA
  have hsz : X.heap.size ≤ A.heap.size := Nat.le_trans hb1.size hbA.size
  have hr : ∀ r, mv.ownBlock = some r → mb' ≠ r ∧ t'.avoid r := fun r e => hf r (h.maps.lt r e).2 (Ne.symm (h.moff r e x hx).1) (h.moff r e x hx).2.1
  have hh : ∀ r, hv.ownBlock = some r → mb' ≠ r ∧ t'.avoid r := fun r e => hf r (h.held.lt r e).2 (Ne.symm (h.hoff r e x hx).1) (h.hoff r e x hx).2.1
  refine ⟨fun y hy => (hA.ats y hy).grown hg (fun r e => h.moff r e y hy), map_grown hg hMA hr, hown, hA.held.kept hg ?_, ?_, fun r e => ⟨h.hoff r e, hh r e⟩, ?_, hA.below.grown hg (hA.size hB) (fun k e => (h.maps.lt k e).1)⟩
  · cases e : hv.ownBlock with
    | none => exact .inl rfl
    | some r => exact .inr fun e2 => h.apart r e2.symm e
  · intro r e
    rcases hn with e1 | e1
    · exact ⟨h.moff r (e1 ▸ e), hr r (e1 ▸ e)⟩
    · obtain rfl : A.heap.size = r := Option.some.inj (e1.symm.trans e)
      exact ⟨fun y hy => (hA.ats y hy).off_new (Nat.le_refl _), by have := hMA.1; omega, lies_avoid (Nat.le_refl _) hMA.2.2.2.1⟩
  · intro r e e2
    rcases hn with e1 | e1
    · exact h.apart r (e1 ▸ e) e2
    · obtain rfl : A.heap.size = r := Option.some.inj (e1.symm.trans e)
      have := (hA.held.lt _ e2).2
      omega

theorem vers_of {B base : Nat} {w X X1 A Y : World} {mv hv hv' ev : Value} {vs : List Ver} {mb : Nat} {t : Tr} (h : Mid B w X mv hv vs mb t) (hB : B ≤ w.heap.size) (hb1 : Below X.heap.size X X1) (hbase : X.heap.size ≤ base) (he : X1.ownsRow base 98 3 ev (t.ents 7 0).length (flat3 (t.ents 7 0))) (hbA : Below X1.heap.size X1 A)
    (hg : A.grownBy Y hv.ownBlock) (hown : Y.ownsRow B 22 1 hv' (vs.length + 1) (heldC vs ++ [ev])) (hn : hv'.ownBlock = hv.ownBlock ∨ hv'.ownBlock = some A.heap.size) : Vers B w Y mv hv' (vs ++ [(mb, (t, ev))]) := by
  have hA : Mid B w A mv hv vs mb t := (h.later hB hb1).later hB hbA
  have hev : VerAt A (mb, (t, ev)) := ⟨hA.new, (ents_of_own he).later hbA, fun g e => Nat.lt_of_lt_of_le (he.lt g e).2 hbA.size⟩
  have hoff : ∀ r, r < X.heap.size → mb ≠ r ∧ t.avoid r → VerOff r (mb, (t, ev)) := fun r hr ha => ⟨ha.1, ha.2, fun e => by have := (he.lt r e).1; omega⟩
  have hall : ∀ y ∈ vs ++ [(mb, (t, ev))], VerAt A y := by
    intro y hy
    rcases List.mem_append.1 hy with hy | hy
    · exact hA.ats y hy
    · rw [List.mem_singleton.1 hy]; exact hev
  have hm : ∀ r, mv.ownBlock = some r → ∀ y ∈ vs ++ [(mb, (t, ev))], VerOff r y := by
    intro r e y hy
    rcases List.mem_append.1 hy with hy | hy
    · exact (h.moff r e).1 y hy
    · rw [List.mem_singleton.1 hy]; exact hoff r (h.maps.lt r e).2 (h.moff r e).2
  have hh : ∀ r, hv.ownBlock = some r → ∀ y ∈ vs ++ [(mb, (t, ev))], VerOff r y := by
    intro r e y hy
    rcases List.mem_append.1 hy with hy | hy
    · exact (h.hoff r e).1 y hy
    · rw [List.mem_singleton.1 hy]; exact hoff r (h.held.lt r e).2 (h.hoff r e).2
  refine ⟨fun y hy => (hall y hy).grown hg (fun r e => hh r e y hy), ?_, ?_, hm, offs_grown hall hh hn, ?_, hA.below.grown hg (Nat.le_trans hB hA.below.size) (fun k e => (h.held.lt k e).1)⟩
  · rw [mapsC_app, List.length_append]
    refine hA.maps.kept hg ?_
    cases e : mv.ownBlock with
    | none => exact .inl rfl
    | some r => exact .inr fun e2 => h.apart r e e2.symm
  · rw [heldC_app, List.length_append]
    exact hown
  · intro r e e2
    rcases hn with e1 | e1
    · exact h.apart r e (e1 ▸ e2)
    · obtain rfl : A.heap.size = r := Option.some.inj (e1.symm.trans e2)
      have := (hA.maps.lt _ e).2
      omega

/-- Behind the call of one: the map that it gave, made of one of the versions. -/
def Made (B : Nat) (w W : World) (mv hv : Value) (vs : List Ver) (mb : Nat) (t : Tr) : Prop := ∃ X X1 x, Vers B w X mv hv vs ∧ x ∈ vs ∧ Below X.heap.size X X1 ∧ MapT X1 mb t ∧ Fresh X x.1 x.2.1 mb t ∧ Below X1.heap.size X1 W
theorem Made.later {B : Nat} {w W W' : World} {mv hv : Value} {vs : List Ver} {mb : Nat} {t : Tr} (h : Made B w W mv hv vs mb t) (hb : Below W.heap.size W W') : Made B w W' mv hv vs mb t := by
  obtain ⟨X, X1, x, h1, h2, h3, h4, h5, h6⟩ := h
  exact ⟨X, X1, x, h1, h2, h3, h4, h5, below_step h6 hb⟩
theorem Made.vers {B : Nat} {w W : World} {mv hv : Value} {vs : List Ver} {mb : Nat} {t : Tr} (h : Made B w W mv hv vs mb t) (hB : B ≤ w.heap.size) : Vers B w W mv hv vs := by
  obtain ⟨X, X1, x, h1, h2, h3, h4, h5, h6⟩ := h
  exact (h1.later hB h3).later hB h6
theorem mid_made {B : Nat} {w A Y : World} {mv hv mv' : Value} {vs : List Ver} {mb' : Nat} {t' : Tr} (h : Made B w A mv hv vs mb' t') (hB : B ≤ w.heap.size)
    (hown : Y.ownsRow B 46 1 mv' (vs.length + 1) (mapsC vs ++ [.pointer (some ⟨mb', 0, none⟩)])) (hg : A.grownBy Y mv.ownBlock) (hn : mv'.ownBlock = mv.ownBlock ∨ mv'.ownBlock = some A.heap.size) : Mid B w Y mv' hv vs mb' t' := by
  obtain ⟨X, X1, x, h1, h2, h3, h4, h5, h6⟩ := h
  exact mid_of h1 hB h2 h3 h4 h5 h6 hg hown hn

theorem round_later {B mg k ga o : Nat} {w X X' : World} {mv hv : Value} {vs : List Ver} {u u0 u1 u2 u3 : Value} (hB : B ≤ w.heap.size) (h : X.cell? ⟨mg, k, none⟩ = some u ∧ X.cell? ⟨ga, o, none⟩ = some u0 ∧ X.cell? ⟨ga, o + 1, none⟩ = some u1 ∧ X.cell? ⟨ga, o + 2, none⟩ = some u2 ∧ X.cell? ⟨ga, o + 3, none⟩ = some u3 ∧ Vers B w X mv hv vs) (hb : Below X.heap.size X X') : X'.cell? ⟨mg, k, none⟩ = some u ∧ X'.cell? ⟨ga, o, none⟩ = some u0 ∧ X'.cell? ⟨ga, o + 1, none⟩ = some u1 ∧ X'.cell? ⟨ga, o + 2, none⟩ = some u2 ∧ X'.cell? ⟨ga, o + 3, none⟩ = some u3 ∧ Vers B w X' mv hv vs := by
  obtain ⟨h, h0, h1, h2, h3, h4⟩ := h
  exact ⟨(hb.cell (World.block_lt_of_cell? _ _ h)).trans h, (hb.cell (World.block_lt_of_cell? _ _ h0)).trans h0, (hb.cell (World.block_lt_of_cell? _ _ h1)).trans h1, (hb.cell (World.block_lt_of_cell? _ _ h2)).trans h2, (hb.cell (World.block_lt_of_cell? _ _ h3)).trans h3, h4.later hB hb⟩

theorem vers_start {w w1 w2 : World} (hM : MapT w1 w.heap.size .nil) (h1 : Below w.heap.size w w1) (h2 : Below w1.heap.size w1 w2) : Vers w.heap.size w ((w2.alloc (.cells #[.pointer (some ⟨w.heap.size, 0, none⟩)] 46)).alloc (.cells #[.slice none 0 0] 22)) (.slice (some ⟨w2.heap.size, 0, none⟩) 1 1) (.slice (some ⟨w2.heap.size + 1, 0, none⟩) 1 1) [(w.heap.size, (.nil, .slice none 0 0))] := by
  have hB := below_step h1 h2
  have hV2 := ver_empty (hM.later h2)
  have hb := ((Below.refl w2.heap.size w2).alloc (Nat.le_refl _) (.cells #[.pointer (some ⟨w.heap.size, 0, none⟩)] 46)).alloc (by simp) (.cells #[.slice none 0 0] 22)
  have hs := hB.size
  refine ⟨?_, ?_, ?_, ?_, ?_, ?_, below_step hB hb⟩
  · intro x hx
    rw [List.mem_singleton.1 hx]
    exact hV2.later hb
  · refine World.ownsRow.alloc ?_ _
    exact ⟨rfl, .inr ⟨_, _, _, rfl, hs, heap_alloc_last w2 _, Nat.le_refl _, by unfold maxLen; omega, rfl, rfl⟩⟩
  · refine ⟨rfl, .inr ⟨w2.heap.size + 1, 1, #[.slice none 0 0], rfl, by omega, ?_, Nat.le_refl _, by unfold maxLen; omega, rfl, rfl⟩⟩
    have := heap_alloc_last (w2.alloc (.cells #[.pointer (some ⟨w.heap.size, 0, none⟩)] 46)) (.cells #[.slice none 0 0] 22)
    simpa using this
  · intro r e x hx
    obtain rfl := Option.some.inj e
    rw [List.mem_singleton.1 hx]
    exact hV2.off_new (Nat.le_refl _)
  · intro r e x hx
    obtain rfl := Option.some.inj e
    rw [List.mem_singleton.1 hx]
    exact hV2.off_new (Nat.le_succ _)
  · intro r e e2
    have a := Option.some.inj e
    have b := Option.some.inj e2
    simp at a b
    omega

end Go.Proofs.Ytkojgbfocdefnaa


namespace Go.Proofs.Ytkojgbfocdefnaa
open Go.RowKit

/-- A change as it lies in memory. -/
def chL (c : Ch) : List Value := [.int .u32 (c.1 : Int), .bool c.2.1.isSome, .bool c.2.2.isSome, .int .i64 (c.2.1.getD (0, 0)).1, .int .i64 (c.2.1.getD (0, 0)).2, .int .i64 (c.2.2.getD (0, 0)).1, .int .i64 (c.2.2.getD (0, 0)).2]
def flat7 (L : List Ch) : List Value := L.flatMap chL
theorem flat7_snoc (L : List Ch) (c : Ch) : flat7 (L ++ [c]) = flat7 L ++ chL c := by simp [flat7]
theorem infoC : (Try.prog.info? 60).map (fun i => (i.zero, i.size, i.bytes)) = some (some (.agg #[.int .u32 0, .bool false, .bool false, .int .i64 0, .int .i64 0, .int .i64 0, .int .i64 0]), 7, 40) := by kernel_rfl

def takerRowC (cv : Value) (stop most n : Int) (over deaf : Bool) : Array Value := #[.slice none 0 0, cv, .int .i64 stop, .int .i64 most, .int .i64 n, .bool over, .bool deaf]
/-- The block k is none of a taker's. -/
def offT (T k : Nat) (X : World) : Prop := k ≠ T ∧ ∀ cv : Value, X.cell? ⟨T, 1, none⟩ = some cv → cv.ownBlock ≠ some k

theorem cells7_at (W : World) (n : Nat) (hn : n = W.heap.size) (a b c d e f g : Value) (t : TypeId) : ∀ j u, ([a, b, c, d, e, f, g] : List Value)[j]? = some u → (W.alloc (.cells #[a, b, c, d, e, f, g] t)).cell? ((⟨n, 0, none⟩ : Addr).add j) = some u := by
  subst hn
  intro j u h
  match j, h with
  | 0, h => simpa [Addr.add] using h
  | 1, h => simpa [Addr.add] using h
  | 2, h => simpa [Addr.add] using h
  | 3, h => simpa [Addr.add] using h
  | 4, h => simpa [Addr.add] using h
  | 5, h => simpa [Addr.add] using h
  | 6, h => simpa [Addr.add] using h
  | j + 7, h => simp at h
theorem own_cells {w : World} {base n size : Nat} {e : TypeId} {v : Value} {xs : List Value} (h : w.ownsRow base e size v n xs) (j : Nat) (o : Obj) (hj : v.ownBlock = some j) (ho : w.heap[j]? = some o) : o.isCells = true := by
  obtain ⟨-, h | ⟨g, cap, cur, rfl, -, hb, -⟩⟩ := h
  · rw [h.1] at hj; cases hj
  · obtain rfl := Option.some.inj hj
    rw [hb] at ho
    rw [← Option.some.inj ho]
    rfl
theorem row_cells {w : World} {T : Nat} {cs : Array Value} {t : TypeId} {z : Nat × Nat} {o : Obj} (h : w.heap[T]? = some (.cells cs t z)) (ho : w.heap[T]? = some o) : o.isCells = true := by
  rw [h] at ho
  rw [← Option.some.inj ho]
  rfl

end Go.Proofs.Ytkojgbfocdefnaa


namespace Go.Proofs.Ytkojgbfocdefnaa
open Go.RowKit Go.Shelf
attribute [local go_sem] Oper.semAt_some

abbrev encE (k : Nat) (x y : Int) : Array Value := #[.int .u32 (k : Int), .agg #[.int .i64 x, .int .i64 y]]

/-- What is asked of the body of a range over an iterator of entries: the loop's record is block l. -/
structure TakesY (l : Nat) (t : Tr) (J Jx : List (Nat × (Int × Int)) → World → Prop) : Prop where
  lies : ∀ done X, J done X → Lies X t
  liesx : ∀ done X, Jx done X → Lies X t
  draw : ∀ done X n, J done X → J done (X.drewN n)
  call : ∀ done X (k : Nat) (x y : Int) (m : Nat), k < 4294967296 → J done X → YieldAt Fence.wide m Try.prog l (encE k x y) X fun e X' => ∃ o : Bool, e = .returned (.bool o) ∧ (o = true → J (done ++ [(k, (x, y))]) X') ∧ (o = false → Jx (done ++ [(k, (x, y))]) X')

theorem takesY_lies {l : Nat} {t : Tr} {J Jx : List (Nat × (Int × Int)) → World → Prop} (hT : TakesY l t J Jx) {d : List (Nat × (Int × Int))} {X : World} (o : Bool) (h1 : o = true → J d X) (h2 : o = false → Jx d X) : Lies X t := by
  cases o with
  | true => exact hT.lies _ _ (h1 rfl)
  | false => exact hT.liesx _ _ (h2 rfl)

/-- An operation that yields in whatever world is taken first; its slot is given. -/
theorem take_at {F : Fence} {n : Nat} {P : Program} {md : Region.Mode} {ops : Array Oper} {Q : Exit → Act → World → Prop} {i : Nat} {oi : Oper} {d : Option Tmp} {v : Value} {fuel : Nat} {listed : Array Bool} {a : Act} {w : World} (hro : F.round = none) (hi : ops[i]? = some oi) (hd : oi.dst = d)
    (hs : Region.noSelect ops = true) (hf : Region.free md ops listed i = true) (hr : (Region.ready md ops listed).contains i = true)
    (hQ : ∀ c a w, Q (.panic c) (a.put d v) w → Q (.panic c) a w) (hy : YieldsFenced P ops oi v a)
    (h : wpAnyIn F n P md ops Q fuel (listed.setIfInBounds i true) (a.put d v) w) : wpAnyIn F n P md ops Q (fuel + 1) listed a w := by
  subst hd
  exact wpAnyIn_take hro hi hs hf hr hQ hy h

set_option maxRecDepth 8000 in
set_option maxHeartbeats 1000000 in
theorem shelf_searchY (l b s : Nat) (th : Nat → Bool) (vk vn : Nat → Int) (J Jx : List (Nat × (Int × Int)) → World → Prop) (hT : TakesY l (.leaf b s th vk vn) J Jx) (p first : Nat) (hf : first ≤ 16) (hp : p + 16 ≤ 4294967296) (hm : p % 16 = 0) (done : List (Nat × (Int × Int))) (w : World) (h : J done w) :
    Calls Try.prog 75 #[.pointer (some ⟨s, 0, none⟩), .int .u32 (p : Int), .int .i64 (first : Int), .func (.yield l) #[] #[]] w (Ends J Jx done (seg th vk vn p first 16)) := by
  refine (callsIn_wide (n := 3)).1 ?_
  refine callsIn_of_wp Try.func75 rfl trivial ?_ rfl
  simp only [Try.ntmps75, List.size_toArray, List.length_cons, List.length_nil, Nat.reduceAdd, Nat.reduceSub, Array.replicate_succ, Array.replicate_zero, List.push_toArray, List.append_toArray, List.nil_append, List.cons_append]
  gi_wp2
  gi_loopw [9] (fun x wr => ∃ j : Nat, first ≤ j ∧ j ≤ 16 ∧ x = .int .i64 j ∧ J (done ++ seg th vk vn p first j) wr) (fun x _ => 16 - (intOf x).toNat)
  case atStart => exact ⟨first, Nat.le_refl _, hf, rfl, by rw [seg_first, List.append_nil]; exact h⟩
  case round =>
    obtain ⟨j, hj1, hj2, rfl, hJ⟩ := hrel
    clear h
    by_cases hlt : j < 16
    · have hlt' : (j : Int) < 16 := by omega
      have hj0 : (0 : Int) ≤ (j : Int) := by omega
      have hS := (hT.lies _ _ hJ).2
      have c0 := hS.th hlt
      have c1 := (hS.val hlt).1
      have c2 := (hS.val hlt).2
      cases ht : th j with
      | false =>
        rw [ht] at c0
        gi_wp2
        refine wpIn_wide.2 ?_
        go_quiet (fail)
        gi_wp2
        exact ⟨⟨j + 1, by omega, by omega, by go_num, by rw [seg_no hj1 ht]; exact hT.draw _ _ _ hJ⟩, by simp [intOf]; omega⟩
      | true =>
        rw [ht] at c0
        have hJ1 : J (done ++ seg th vk vn p first j) wr.drew := hT.draw _ _ 1 hJ
        obtain ⟨k, hk⟩ : ∃ k, p + j = k := ⟨_, rfl⟩
        have hyes := seg_yes (vk := vk) (vn := vn) (p := p) hj1 ht
        rw [hk] at hyes
        have hk32 : k < 4294967296 := by omega
        obtain ⟨fn, tmps, assign, body, hy, hR⟩ := hT.call _ _ k (vk j) (vn j) 2 hk32 hJ1
        have hhd := fun X => (callsIn_wide (n := 2)).2 (head_bottom p j k hk (by omega) hm hlt X)
        have hYes : Hid (seg th vk vn p first (j + 1) = seg th vk vn p first j ++ [(k, (vk j, vn j))]) := hyes
        clear hyes hk
        dsimp only [encE] at hy
        gi_wp2
        refine wpIn_region_any (by kernel_rfl) ?_
        try (change wpAnyIn _ _ _ _ _ _ _ _ _ (World.drew _))
        refine take_at (i := 0) (d := some 15) (v := ?_) rfl rfl rfl (by kernel_rfl) (by kernel_rfl) (by kernel_rfl) (fun _ _ _ h => h) ⟨Or.inl ⟨by rfl, ?_⟩, fun _ => rfl⟩ ?_
        rotate_left
        · (intro w; go_simp; (try with_reducible rfl))
        simp only [Act.put, List.setIfInBounds_toArray, List.set_cons_zero, List.set_cons_succ]
        refine take_at (i := 1) (d := some 16) (v := ?_) rfl rfl rfl (by kernel_rfl) (by kernel_rfl) (by kernel_rfl) (fun _ _ _ h => h) ⟨Or.inl ⟨by rfl, ?_⟩, fun _ => rfl⟩ ?_
        rotate_left
        · (intro w; go_simp; (try with_reducible rfl))
        simp only [Act.put, List.setIfInBounds_toArray, List.set_cons_zero, List.set_cons_succ]
        refine take_at (i := 2) (d := some 17) (v := ?_) rfl rfl rfl (by kernel_rfl) (by kernel_rfl) (by kernel_rfl) (fun _ _ _ h => h) ⟨Or.inl ⟨by rfl, ?_⟩, fun _ => rfl⟩ ?_
        rotate_left
        · (intro w; go_simp; (try with_reducible rfl))
        simp only [Act.put, List.setIfInBounds_toArray, List.set_cons_zero, List.set_cons_succ]
        refine take_at (i := 3) (d := some 18) (v := ?_) rfl rfl rfl (by kernel_rfl) (by kernel_rfl) (by kernel_rfl) (fun _ _ _ h => h) ⟨Or.inl ⟨by rfl, ?_⟩, fun _ => rfl⟩ ?_
        rotate_left
        · (intro w; go_simp; (try with_reducible rfl))
        simp only [Act.put, List.setIfInBounds_toArray, List.set_cons_zero, List.set_cons_succ]
        refine take_at (i := 4) (d := some 19) (v := ?_) rfl rfl rfl (by kernel_rfl) (by kernel_rfl) (by kernel_rfl) (fun _ _ _ h => h) ⟨Or.inl ⟨by rfl, ?_⟩, fun _ => rfl⟩ ?_
        rotate_left
        · (intro w; go_simp; (try with_reducible rfl))
        simp only [Act.put, List.setIfInBounds_toArray, List.set_cons_zero, List.set_cons_succ]
        refine wpAnyIn_ready (rs := [5]) (by kernel_rfl) (by simp) ?_
        refine AllReadyIn.cons rfl (fun K hK => ?_) AllReadyIn.nil
        go_simp
        refine hK _ _ ?_
        clear hK K
        refine take_at (i := 6) (d := some 21) (v := ?_) rfl rfl rfl (by kernel_rfl) (by kernel_rfl) (by kernel_rfl) (fun _ _ _ h => h) ⟨Or.inl ⟨by rfl, ?_⟩, fun _ => rfl⟩ ?_
        rotate_left
        · (intro w; go_simp; (try with_reducible rfl))
        simp only [Act.put, List.setIfInBounds_toArray, List.set_cons_zero, List.set_cons_succ]
        refine take_at (i := 7) (d := some 22) (v := ?_) rfl rfl rfl (by kernel_rfl) (by kernel_rfl) (by kernel_rfl) (fun _ _ _ h => h) ⟨Or.inl ⟨by rfl, ?_⟩, fun _ => rfl⟩ ?_
        rotate_left
        · (intro w; go_simp; (try with_reducible rfl))
        simp only [Act.put, List.setIfInBounds_toArray, List.set_cons_zero, List.set_cons_succ]
        refine take_at (i := 8) (d := some 23) (v := ?_) rfl rfl rfl (by kernel_rfl) (by kernel_rfl) (by kernel_rfl) (fun _ _ _ h => h) ⟨Or.inl ⟨by rfl, ?_⟩, fun _ => rfl⟩ ?_
        rotate_left
        · (intro w; go_simp; (try with_reducible rfl))
        simp only [Act.put, List.setIfInBounds_toArray, List.set_cons_zero, List.set_cons_succ]
        refine take_at (i := 9) (d := some 24) (v := ?_) rfl rfl rfl (by kernel_rfl) (by kernel_rfl) (by kernel_rfl) (fun _ _ _ h => h) ⟨Or.inl ⟨by rfl, ?_⟩, fun _ => rfl⟩ ?_
        rotate_left
        · (intro w; go_simp; (try with_reducible rfl))
        simp only [Act.put, List.setIfInBounds_toArray, List.set_cons_zero, List.set_cons_succ]
        refine take_at (i := 11) (d := some 26) (v := ?_) rfl rfl rfl (by kernel_rfl) (by kernel_rfl) (by kernel_rfl) (fun _ _ _ h => h) ⟨Or.inl ⟨by rfl, ?_⟩, fun _ => rfl⟩ ?_
        rotate_left
        · (intro w; go_simp; (try with_reducible rfl))
        simp only [Act.put, List.setIfInBounds_toArray, List.set_cons_zero, List.set_cons_succ]
        refine take_at (i := 12) (d := some 27) (v := ?_) rfl rfl rfl (by kernel_rfl) (by kernel_rfl) (by kernel_rfl) (fun _ _ _ h => h) ⟨Or.inl ⟨by rfl, ?_⟩, fun _ => rfl⟩ ?_
        rotate_left
        · (intro w; go_simp; (try with_reducible rfl))
        simp only [Act.put, List.setIfInBounds_toArray, List.set_cons_zero, List.set_cons_succ]
        refine take_at (i := 13) (d := some 28) (v := ?_) rfl rfl rfl (by kernel_rfl) (by kernel_rfl) (by kernel_rfl) (fun _ _ _ h => h) ⟨Or.inl ⟨by rfl, ?_⟩, fun _ => rfl⟩ ?_
        rotate_left
        · (intro w; go_simp; (try with_reducible rfl))
        simp only [Act.put, List.setIfInBounds_toArray, List.set_cons_zero, List.set_cons_succ]
        refine take_at (i := 14) (d := some 29) (v := ?_) rfl rfl rfl (by kernel_rfl) (by kernel_rfl) (by kernel_rfl) (fun _ _ _ h => h) ⟨Or.inl ⟨by rfl, ?_⟩, fun _ => rfl⟩ ?_
        rotate_left
        · (intro w; go_simp; (try with_reducible rfl))
        simp only [Act.put, List.setIfInBounds_toArray, List.set_cons_zero, List.set_cons_succ]
        refine take_at (i := 15) (d := some 30) (v := ?_) rfl rfl rfl (by kernel_rfl) (by kernel_rfl) (by kernel_rfl) (fun _ _ _ h => h) ⟨Or.inl ⟨by rfl, ?_⟩, fun _ => rfl⟩ ?_
        rotate_left
        · (intro w; go_simp; (try with_reducible rfl))
        simp only [Act.put, List.setIfInBounds_toArray, List.set_cons_zero, List.set_cons_succ]
        refine wpAnyIn_ready (rs := [10, 16]) (by kernel_rfl) (by simp) ?_
        refine AllReadyIn.cons rfl (fun K hK => ?_) (AllReadyIn.cons rfl (fun K hK => ?_) AllReadyIn.nil)
        · go_simp
          refine ⟨trivial, (hhd _).mono ?_⟩
          rintro e w4 ⟨rfl, rfl⟩
          dsimp only
          refine hK _ _ ?_
          clear hK K
          refine wpAnyIn_ready (rs := [16]) (by kernel_rfl) (by simp) ?_
          refine AllReadyIn.cons rfl (fun K hK => ?_) AllReadyIn.nil
          go_simp
          refine hK _ _ ?_
          clear hK K
          refine wpAnyIn_ready (rs := [17]) (by kernel_rfl) (by simp) ?_
          refine AllReadyIn.cons rfl (fun K hK => ?_) AllReadyIn.nil
          go_simp
          refine hR.mono ?_
          rintro e w5 ⟨o, rfl, hJ5, hX5⟩
          dsimp only
          refine hK _ _ ?_
          clear hK K
          refine take_at (i := 18) (d := some 33) (v := ?_) rfl rfl rfl (by kernel_rfl) (by kernel_rfl) (by kernel_rfl) (fun _ _ _ h => h) ⟨Or.inl ⟨by rfl, ?_⟩, fun _ => rfl⟩ ?_
          rotate_left
          · (intro w; go_simp; (try with_reducible rfl))
          simp only [Act.put, List.setIfInBounds_toArray, List.set_cons_zero, List.set_cons_succ]
          refine take_at (i := 19) (d := some 34) (v := ?_) rfl rfl rfl (by kernel_rfl) (by kernel_rfl) (by kernel_rfl) (fun _ _ _ h => h) ⟨Or.inl ⟨by rfl, ?_⟩, fun _ => rfl⟩ ?_
          rotate_left
          · (intro w; go_simp; (try with_reducible rfl))
          simp only [Act.put, List.setIfInBounds_toArray, List.set_cons_zero, List.set_cons_succ]
          refine wpAnyIn_done (by kernel_rfl) ?_ _
          rw [List.append_assoc, ← hYes.out] at hJ5 hX5
          cases o with
          | true =>
            have hJ6 := hJ5 rfl
            clear hJ5 hX5 hR hy
            gi_wp2
            exact ⟨⟨j + 1, by omega, by omega, by go_num, hJ6⟩, by simp [intOf]; omega⟩
          | false =>
            have hX6 := hX5 rfl
            clear hJ5 hX5 hR hy
            gi_wp2
            go_ret
            exact ⟨false, rfl, fun e => (by cases e), fun _ => ⟨_, seg_prefix (by omega) (by omega), hX6⟩⟩
        · go_simp
          refine hK _ _ ?_
          clear hK K
          refine wpAnyIn_ready (rs := [10]) (by kernel_rfl) (by simp) ?_
          refine AllReadyIn.cons rfl (fun K hK => ?_) AllReadyIn.nil
          go_simp
          refine ⟨trivial, (hhd _).mono ?_⟩
          rintro e w4 ⟨rfl, rfl⟩
          dsimp only
          refine hK _ _ ?_
          clear hK K
          refine wpAnyIn_ready (rs := [17]) (by kernel_rfl) (by simp) ?_
          refine AllReadyIn.cons rfl (fun K hK => ?_) AllReadyIn.nil
          go_simp
          refine hR.mono ?_
          rintro e w5 ⟨o, rfl, hJ5, hX5⟩
          dsimp only
          refine hK _ _ ?_
          clear hK K
          refine take_at (i := 18) (d := some 33) (v := ?_) rfl rfl rfl (by kernel_rfl) (by kernel_rfl) (by kernel_rfl) (fun _ _ _ h => h) ⟨Or.inl ⟨by rfl, ?_⟩, fun _ => rfl⟩ ?_
          rotate_left
          · (intro w; go_simp; (try with_reducible rfl))
          simp only [Act.put, List.setIfInBounds_toArray, List.set_cons_zero, List.set_cons_succ]
          refine take_at (i := 19) (d := some 34) (v := ?_) rfl rfl rfl (by kernel_rfl) (by kernel_rfl) (by kernel_rfl) (fun _ _ _ h => h) ⟨Or.inl ⟨by rfl, ?_⟩, fun _ => rfl⟩ ?_
          rotate_left
          · (intro w; go_simp; (try with_reducible rfl))
          simp only [Act.put, List.setIfInBounds_toArray, List.set_cons_zero, List.set_cons_succ]
          refine wpAnyIn_done (by kernel_rfl) ?_ _
          rw [List.append_assoc, ← hYes.out] at hJ5 hX5
          cases o with
          | true =>
            have hJ6 := hJ5 rfl
            clear hJ5 hX5 hR hy
            gi_wp2
            exact ⟨⟨j + 1, by omega, by omega, by go_num, hJ6⟩, by simp [intOf]; omega⟩
          | false =>
            have hX6 := hX5 rfl
            clear hJ5 hX5 hR hy
            gi_wp2
            go_ret
            exact ⟨false, rfl, fun e => (by cases e), fun _ => ⟨_, seg_prefix (by omega) (by omega), hX6⟩⟩
    · obtain rfl : j = 16 := by omega
      gi_wp2
      go_ret
      exact ⟨true, rfl, fun _ => hJ, fun e => (by cases e)⟩

end Go.Proofs.Ytkojgbfocdefnaa


namespace Go.Proofs.Ytkojgbfocdefnaa
open Go.RowKit

theorem TakesY.kid {yl : Nat} {t : Tr} {J Jx : List (Nat × (Int × Int)) → World → Prop} (hT : TakesY yl t J Jx) {i : Nat} (hi : i < 16) : TakesY yl (t.kid i) J Jx :=
  ⟨fun d X h => (hT.lies d X h).kid hi, fun d X h => (hT.liesx d X h).kid hi, hT.draw, hT.call⟩
theorem takesY_ends {yl : Nat} {t : Tr} {J Jx : List (Nat × (Int × Int)) → World → Prop} (hT : TakesY yl t J Jx) {d d' L : List (Nat × (Int × Int))} {X : World} (o : Bool) (h1 : o = true → J d X) (h2 : o = false → ∃ pre, pre <+: L ∧ Jx (d' ++ pre) X) : Lies X t := by
  cases o with
  | true => exact hT.lies _ _ (h1 rfl)
  | false =>
    obtain ⟨pre, -, h⟩ := h2 rfl
    exact hT.liesx _ _ h

theorem search_downY (yl : Nat) (t : Tr) (hw : t.wf 0) (J Jx : List (Nat × (Int × Int)) → World → Prop) (hT : TakesY yl t J Jx) (p low : Nat) (hp : p + 16 ≤ 4294967296) (hm : p % 16 = 0) (done : List (Nat × (Int × Int))) (w : World) (h : J done w) :
    Calls Try.prog 71 #[t.ptr, .int .i64 7, .int .u32 (p : Int), .int .u32 (low : Int), .func (.yield yl) #[] #[]] w (Ends J Jx done (t.fromL 0 p low)) := by
  cases t with
  | nil =>
    have hq : Tr.nil.ptr = .pointer none := rfl
    go_enter Try.func71, Try.ntmps71
    go_wp2
    go_ret
    exact ⟨true, rfl, fun _ => by rw [show Tr.nil.fromL 0 p low = [] from rfl, List.append_nil]; exact h, fun e => (by cases e)⟩
  | node b kids => exact absurd hw.1 (by omega)
  | leaf b s th vk vn =>
    have hq : (Tr.leaf b s th vk vn).ptr = .pointer (some ⟨b, 0, none⟩) := rfl
    have c0 := (hT.lies _ _ h).1.shelf
    have hd := dg_lt low 0
    have hss := shelf_searchY yl b s th vk vn J Jx hT p (dg low 0) (by omega) hp hm done w.drew (hT.draw _ _ 1 h)
    go_enter Try.func71, Try.ntmps71
    go_wp2
    go_region_with (first | (go_at_call 65; refine (digit_low low _).mono ?_; rintro e w4 ⟨rfl, rfl⟩) | (go_at_call 75; refine hss.mono ?_; rintro e w5 ⟨o, rfl, hJ5, hX5⟩))
    all_goals
      have hE : Ends J Jx done ((Tr.leaf b s th vk vn).fromL 0 p low) (.returned (.bool o)) w5 := ⟨o, rfl, hJ5, hX5⟩
      clear hJ5 hX5
      go_wp2
      exact bodyPost_ret (v := .bool o) (by simp [results, Try.results71, go_sem]) rfl hE


theorem search_upY (yl : Nat) (n l : Nat) (hn : l + (n + 1) = 7) (J Jx : List (Nat × (Int × Int)) → World → Prop)
    (ih : ∀ (t : Tr), t.wf n → TakesY yl t J Jx → ∀ (p low : Nat), p + 16 ^ (n + 1) ≤ 4294967296 → p % 16 ^ (n + 1) = 0 → ∀ (done : List (Nat × (Int × Int))) (w : World), J done w →
      Calls Try.prog 71 #[t.ptr, .int .i64 ((l + 1 : Nat) : Int), .int .u32 (p : Int), .int .u32 (low : Int), .func (.yield yl) #[] #[]] w (Ends J Jx done (t.fromL n p low)))
    (b : Nat) (kids : Nat → Tr) (hw : (Tr.node b kids).wf (n + 1)) (hT : TakesY yl (.node b kids) J Jx) (p low : Nat) (hp : p + 16 ^ (n + 1 + 1) ≤ 4294967296) (hm : p % 16 ^ (n + 1 + 1) = 0) (done : List (Nat × (Int × Int))) (w : World) (h : J done w) :
    Calls Try.prog 71 #[.pointer (some ⟨b, 0, none⟩), .int .i64 (l : Int), .int .u32 (p : Int), .int .u32 (low : Int), .func (.yield yl) #[] #[]] w (Ends J Jx done ((Tr.node b kids).fromL (n + 1) p low)) := by
  have hl7 : ((l : Int) == 7) = false := by simp; omega
  have hd := dg_lt low (n + 1)
  go_enter Try.func71, Try.ntmps71
  go_wp2_with (go_at_call 65; refine (digit_any (n + 1) l hn low _).mono ?_; rintro e w4 ⟨rfl, rfl⟩)
  go_loopw [3, 12] (fun lo x wr => ∃ j z : Nat, dg low (n + 1) ≤ j ∧ j ≤ 16 ∧ x = .int .i64 j ∧ lo = .int .u32 z ∧ (j = dg low (n + 1) → z = low) ∧ J (done ++ segs kids n p low j) wr) (fun _ x _ => 16 - (intOf x).toNat)
  case atStart => exact ⟨dg low (n + 1), low, Nat.le_refl _, by omega, rfl, rfl, fun _ => rfl, by rw [segs_first, List.append_nil]; exact h⟩
  case round =>
    obtain ⟨j, z, hj1, hj2, rfl, rfl, hz, hJ⟩ := hrel
    clear h
    by_cases hlt : j < 16
    · have hlt' : (j : Int) < 16 := by omega
      have hj0 : (0 : Int) ≤ (j : Int) := by omega
      have hJ1 : J (done ++ segs kids n p low j) wr.drew := hT.draw _ _ 1 hJ
      have c0 := (hT.lies _ _ hJ1).1.kid hlt
      obtain ⟨u, hu⟩ := ptr_pointer (kids j)
      rw [hu] at c0
      obtain ⟨k, hk⟩ : ∃ k, p + j * 16 ^ (n + 1) = k := ⟨_, rfl⟩
      have h16 : 16 ^ (n + 1 + 1) = 16 ^ (n + 1) * 16 := Nat.pow_succ 16 (n + 1)
      have hjm : j * 16 ^ (n + 1) ≤ 15 * 16 ^ (n + 1) := Nat.mul_le_mul_right _ (by omega)
      have hkb : k + 16 ^ (n + 1) ≤ 4294967296 := by omega
      have hkm : k % 16 ^ (n + 1) = 0 := by
        rw [← hk, Nat.add_mul_mod_self_right, ← Nat.mod_mod_of_dvd p ⟨16, h16⟩, hm, Nat.zero_mod]
      have hhd := head_at n l hn p j k hk (by omega) hm hlt
      have hstep := segs_step (kids := kids) (p := p) hj1
      rw [hk] at hstep
      have hwr : IntKind.i64.wrap ((l : Int) + 1) = (l : Int) + 1 := by rw [IntKind.wrap_i64]; omega
      by_cases hjf : j = dg low (n + 1)
      · obtain rfl := hz hjf
        rw [if_pos hjf] at hstep
        have hg : ¬ (dg z (n + 1) : Int) < (j : Int) := by omega
        have hcl := ih (kids j) (hw.2.1 j hlt) (hT.kid (i := j) hlt) k z hkb hkm _ _ hJ1
        rw [hu, show (((l + 1 : Nat)) : Int) = (l : Int) + 1 from by omega] at hcl
        have hStep : Hid (segs kids n p z (j + 1) = segs kids n p z j ++ (kids j).fromL n k z) := hstep
        clear hstep hz hk hkm hkb hjm h16 hjf
        go_wp2
        go_region_held3 (fun X => X.cell? ⟨b, j, none⟩ = some (.pointer u)) (with_reducible assumption)
          (first | (go_at_call 62; refine (hhd _).mono ?_; rintro e w4 ⟨rfl, rfl⟩) | (go_at_call 71; refine hcl.mono ?_; rintro e w5 ⟨o, rfl, hJ5, hX5⟩; have hS5 : w5.cell? ⟨b, j, none⟩ = some (.pointer u) := by { rw [← hu]; exact (takesY_ends hT o hJ5 hX5).1.kid hlt }))
        rw [List.append_assoc, ← hStep.out] at hJ5
        cases o with
        | true =>
          have hJ6 := hJ5 rfl
          clear hJ5 hX5
          go_wp2
          go_roundw
          case rel => exact ⟨j + 1, z, by omega, by omega, by go_num, rfl, fun e => by omega, hJ6⟩
          case measure => simp [intOf]; omega
        | false =>
          obtain ⟨pre, hp5, hX6⟩ := hX5 rfl
          clear hJ5 hX5
          rw [List.append_assoc] at hX6
          have hq1 : segs kids n p z j ++ pre <+: segs kids n p z (j + 1) := by rw [hStep.out]; exact (List.prefix_append_right_inj _).2 hp5
          have hE : Ends J Jx done ((Tr.node b kids).fromL (n + 1) p z) (.returned (.bool false)) w5 := ⟨false, rfl, fun e => (by cases e), fun _ => ⟨_, List.IsPrefix.trans hq1 (segs_prefix (by omega) (by omega)), hX6⟩⟩
          clear hp5 hX6 hq1
          go_wp2
          go_ret
          exact hE
      · have hg : (dg low (n + 1) : Int) < (j : Int) := by omega
        rw [if_neg hjf] at hstep
        have hcl := ih (kids j) (hw.2.1 j hlt) (hT.kid (i := j) hlt) k 0 hkb hkm _ _ hJ1
        rw [hu, show (((l + 1 : Nat)) : Int) = (l : Int) + 1 from by omega, show (((0 : Nat)) : Int) = 0 from rfl] at hcl
        have hStep : Hid (segs kids n p low (j + 1) = segs kids n p low j ++ (kids j).fromL n k 0) := hstep
        clear hstep hz hk hkm hkb hjm h16
        go_wp2
        go_region_held3 (fun X => X.cell? ⟨b, j, none⟩ = some (.pointer u)) (with_reducible assumption)
          (first | (go_at_call 62; refine (hhd _).mono ?_; rintro e w4 ⟨rfl, rfl⟩) | (go_at_call 71; refine hcl.mono ?_; rintro e w5 ⟨o, rfl, hJ5, hX5⟩; have hS5 : w5.cell? ⟨b, j, none⟩ = some (.pointer u) := by { rw [← hu]; exact (takesY_ends hT o hJ5 hX5).1.kid hlt }))
        rw [List.append_assoc, ← hStep.out] at hJ5
        cases o with
        | true =>
          have hJ6 := hJ5 rfl
          clear hJ5 hX5
          go_wp2
          go_roundw
          case rel => exact ⟨j + 1, 0, by omega, by omega, by go_num, rfl, fun e => by omega, hJ6⟩
          case measure => simp [intOf]; omega
        | false =>
          obtain ⟨pre, hp5, hX6⟩ := hX5 rfl
          clear hJ5 hX5
          rw [List.append_assoc] at hX6
          have hq1 : segs kids n p low j ++ pre <+: segs kids n p low (j + 1) := by rw [hStep.out]; exact (List.prefix_append_right_inj _).2 hp5
          have hE : Ends J Jx done ((Tr.node b kids).fromL (n + 1) p low) (.returned (.bool false)) w5 := ⟨false, rfl, fun e => (by cases e), fun _ => ⟨_, List.IsPrefix.trans hq1 (segs_prefix (by omega) (by omega)), hX6⟩⟩
          clear hp5 hX6 hq1
          go_wp2
          go_ret
          exact hE
    · obtain rfl : j = 16 := by omega
      go_wp2
      go_ret
      exact ⟨true, rfl, fun _ => hJ, fun e => (by cases e)⟩


theorem search_anyY (yl : Nat) (J Jx : List (Nat × (Int × Int)) → World → Prop) : ∀ (n l : Nat), l + n = 7 → ∀ (t : Tr), t.wf n → TakesY yl t J Jx → ∀ (p low : Nat), p + 16 ^ (n + 1) ≤ 4294967296 → p % 16 ^ (n + 1) = 0 → ∀ (done : List (Nat × (Int × Int))) (w : World), J done w →
      Calls Try.prog 71 #[t.ptr, .int .i64 (l : Int), .int .u32 (p : Int), .int .u32 (low : Int), .func (.yield yl) #[] #[]] w (Ends J Jx done (t.fromL n p low))
  | 0, l, hl, t, hw, hT, p, low, hp, hm, done, w, h => by
    obtain rfl : l = 7 := by omega
    exact search_downY yl t hw J Jx hT p low hp hm done w h
  | n + 1, l, hl, t, hw, hT, p, low, hp, hm, done, w, h => by
    cases t with
    | nil => exact search_nil l J Jx p low (n + 1) done w h _
    | node b kids => exact search_upY yl n l hl J Jx (fun t hw hT p low => search_anyY yl J Jx n (l + 1) (by omega) t hw hT p low) b kids hw hT p low hp hm done w h
    | leaf => exact absurd hw.1 (by omega)


/-- An iterator over the keys below a node of some level. -/
def IterG (W : World) (b : Nat) (t : Tr) (l p low : Nat) : Prop := b + 1 + 1 + 1 < W.heap.size ∧ W.cell? ⟨b, 0, none⟩ = some t.ptr ∧ W.cell? ⟨b + 1, 0, none⟩ = some (.int .i64 (l : Int)) ∧ W.cell? ⟨b + 1 + 1, 0, none⟩ = some (.int .u32 (p : Int)) ∧ W.cell? ⟨b + 1 + 1 + 1, 0, none⟩ = some (.int .u32 (low : Int))
theorem IterG.later {W W' : World} {b : Nat} {t : Tr} {l p low : Nat} (h : IterG W b t l p low) (hb : Below W.heap.size W W') : IterG W' b t l p low := by
  obtain ⟨h0, h1, h2, h3, h4⟩ := h
  exact ⟨Nat.lt_of_lt_of_le h0 hb.size, (hb.cell (p := ⟨b, 0, none⟩) (by simp; omega)).trans h1, (hb.cell (p := ⟨b + 1, 0, none⟩) (by simp; omega)).trans h2, (hb.cell (p := ⟨b + 1 + 1, 0, none⟩) (by simp; omega)).trans h3, (hb.cell (p := ⟨b + 1 + 1 + 1, 0, none⟩) (by simp; omega)).trans h4⟩
theorem iterG_new (w : World) (t : Tr) (u : Option Addr) (hu : t.ptr = .pointer u) (l p low : Nat) (t1 t2 t3 t4 : TypeId) : IterG ((((w.alloc (.cells #[.pointer u] t1)).alloc (.cells #[.int .i64 (l : Int)] t2)).alloc (.cells #[.int .u32 (p : Int)] t3)).alloc (.cells #[.int .u32 (low : Int)] t4)) w.heap.size t l p low ∧ Below w.heap.size w ((((w.alloc (.cells #[.pointer u] t1)).alloc (.cells #[.int .i64 (l : Int)] t2)).alloc (.cells #[.int .u32 (p : Int)] t3)).alloc (.cells #[.int .u32 (low : Int)] t4)) := by
  refine ⟨⟨by simp only [szA]; omega, ?_, ?_, ?_, ?_⟩, ((((Below.refl w.heap.size w).alloc (Nat.le_refl _) _).alloc (by simp only [szA]; omega) _).alloc (by simp only [szA]; omega) _).alloc (by simp only [szA]; omega) _⟩
  · rw [cell_old _ _ _ (by simp only [szA]; omega), cell_old _ _ _ (by simp only [szA]; omega), cell_old _ _ _ (by simp only [szA]; omega), cell_new1 _ _ _ _ rfl, hu]
  · rw [cell_old _ _ _ (by simp only [szA]; omega), cell_old _ _ _ (by simp only [szA]; omega), cell_new1 _ _ _ _ (by simp only [szA])]
  · rw [cell_old _ _ _ (by simp only [szA]; omega), cell_new1 _ _ _ _ (by simp only [szA])]
  · rw [cell_new1 _ _ _ _ (by simp only [szA])]

/-- from, of a node at some level. -/
theorem from_node (t : Tr) (u : Option Addr) (hu : t.ptr = .pointer u) (l p low : Nat) (w : World) : Calls Try.prog 59 #[.pointer u, .int .i64 (l : Int), .int .u32 (p : Int), .int .u32 (low : Int)] w fun e w' => e = .returned (iterV w.heap.size) ∧ IterG w' w.heap.size t l p low ∧ Below w.heap.size w w' := by
  go_enter Try.func59, Try.ntmps59
  go_wp2
  go_ret
  have := iterG_new w t u hu l p low 103 3 56 56
  exact ⟨rfl, this.1, this.2⟩

set_option maxRecDepth 4000 in
set_option maxHeartbeats 1000000 in
/-- The iterator, over the body of a range. -/
theorem from1Y (yl b n l : Nat) (hl : l + n = 7) (t : Tr) (hw : t.wf n) (p low : Nat) (hp : p + 16 ^ (n + 1) ≤ 4294967296) (hm : p % 16 ^ (n + 1) = 0) (J Jx : List (Nat × (Int × Int)) → World → Prop) (hT : TakesY yl t J Jx) (w : World) (hI : IterG w b t l p low) (h : J [] w) :
    Calls Try.prog 70 #[.func (.yield yl) #[] #[], .pointer (some ⟨b, 0, none⟩), .pointer (some ⟨b + 1, 0, none⟩), .pointer (some ⟨b + 1 + 1, 0, none⟩), .pointer (some ⟨b + 1 + 1 + 1, 0, none⟩)] w fun e w' => e = .returned (.tuple #[]) ∧ (J (t.fromL n p low) w' ∨ ∃ pre, pre <+: t.fromL n p low ∧ Jx pre w') := by
  obtain ⟨-, c0, c1, c2, c3⟩ := hI
  obtain ⟨u, hu⟩ := ptr_pointer t
  rw [hu] at c0
  have hs := search_anyY yl J Jx n l hl t hw hT p low hp hm [] w h
  rw [hu] at hs
  go_enter Try.func70, Try.ntmps70
  go_wp2_with (go_at_call 71; refine hs.mono ?_; rintro e w5 ⟨o, rfl, hJ5, hX5⟩)
  go_end0
  refine ⟨rfl, ?_⟩
  cases o with
  | true => exact .inl (by simpa using hJ5)
  | false =>
    obtain ⟨pre, hp, hx⟩ := hX5 (by first | rfl | trivial)
    exact .inr ⟨pre, hp, by simpa using hx⟩

end Go.Proofs.Ytkojgbfocdefnaa
