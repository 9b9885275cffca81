import Derived.Test.YthnmjafoplfikaaGreatDoorProg
import Derived.WalkKit
import Derived.WalkSpells
import Derived.OwnWalk
import Derived.Laws.OwnMore
import Derived.Lib.SmallJoins
import Derived.Maps.AppendAt
import Derived.Maps.Range
import Derived.Deep.QuietTactic
import Derived.BigQuiet
import Derived.Deep.OwnRows
import Derived.Deep.RegionHeld3
/- PACKS AND EXPRESSIONS IN MEMORY. No program. -/
namespace Go.Proofs.YthnmjafoplfikaaGreatDoor
open Go.RowKit
/-- Expressions in a row. -/
inductive Fo where
  | nil
  | cons (op num den mode : Int) (args rest : Fo)
def Fo.len : Fo → Nat
  | .nil => 0
  | .cons _ _ _ _ _ r => r.len + 1
/-- One expression. -/
structure Ex where
  op : Int
  num : Int
  den : Int
  mode : Int
  args : Fo
def Fo.snoc : Fo → Ex → Fo
  | .nil, e => .cons e.op e.num e.den e.mode e.args .nil
  | .cons a b c d x r, e => .cons a b c d x (r.snoc e)
def Fo.drop : Fo → Nat → Fo
  | f, 0 => f
  | .nil, _ + 1 => .nil
  | .cons _ _ _ _ _ r, i + 1 => r.drop i
/-- How deep they are. -/
def deepF : Fo → Nat
  | .nil => 0
  | .cons _ _ _ _ args rest => max (1 + deepF args) (deepF rest)
def deepE (e : Ex) : Nat := 1 + deepF e.args
structure Cl where
  pri : Int
  guarded : Bool
  guard : Ex
  body : Ex
structure Ln where
  name : List UInt8
  input : Bool
  must : Bool
  type : Int
  opts : Int
  group : Int
  cls : List Cl
structure Ck where
  name : List UInt8
  hard : Bool
  group : Int
  when_ : Ex
  text : List UInt8
structure Pk where
  name : List UInt8
  year : Int
  opts : List (List UInt8 × List (List UInt8))
  tabs : List (List UInt8 × List (Int × Int))
  grps : List (List UInt8 × Int)
  lns : List Ln
  cks : List Ck
def ofL : List Ex → Fo
  | [] => .nil
  | e :: l => .cons e.op e.num e.den e.mode e.args (ofL l)
structure Hid (p : Prop) : Prop where
  out : p
theorem gr_cell {W W' : World} {r : Option Nat} (h : W.grownBy W' r) {b : Nat} (hb : b < W.heap.size) (hr : some b ≠ r) (i : Nat) : W'.cell? ⟨b, i, none⟩ = W.cell? ⟨b, i, none⟩ := World.cell?_of_block (h.block b hb hr)
theorem gr_frozen {W W' : World} {r : Option Nat} (h : W.grownBy W' r) {b : Nat} (hb : b < W.heap.size) (hr : some b ≠ r) (i : Nat) : W'.frozen? ⟨b, i, none⟩ = W.frozen? ⟨b, i, none⟩ := World.frozen?_of_block (h.block b hb hr)
theorem gr_refl (W : World) (r : Option Nat) : W.grownBy W r := ⟨rfl, rfl, rfl, Nat.le_refl _, fun _ _ _ => rfl⟩
theorem gr_set (W : World) (r i : Nat) (v : Value) : W.grownBy (W.setCell ⟨r, i, none⟩ v) (some r) :=
  let h := (Below.refl (0 : Nat) W).setCell (p := ⟨r, i, none⟩) (Nat.zero_le _) v
  ⟨h.os, h.tape, h.output, h.size, fun k _ hne => Below.heap_setCell _ _ _ _ (fun e => hne (by rw [e]))⟩
/-- How a thing lies in its cells: E says it, of blocks of which S is true; k cells. -/
structure Elt (α : Type) where
  k : Nat
  E : World → (Nat → Prop) → α → List Value → Prop
  len : ∀ {W S x cs}, E W S x cs → cs.length = k
  fr : ∀ {W W' : World} {S x cs}, E W S x cs → W.heap.size ≤ W'.heap.size → (∀ b, S b → b < W.heap.size → W'.heap[b]? = W.heap[b]?) → E W' S x cs
  mo : ∀ {W : World} {S S' : Nat → Prop} {x cs}, E W S x cs → (∀ b, b < W.heap.size → S b → S' b) → E W S' x cs
def Elems {α : Type} (D : Elt α) (W : World) (S : Nat → Prop) (xs : List α) (cs : List Value) : Prop := cs.length = xs.length * D.k ∧ ∀ i (h : i < xs.length), D.E W S xs[i] ((cs.drop (i * D.k)).take D.k)
theorem Elems.fr {α : Type} {D : Elt α} {W W' : World} {S : Nat → Prop} {xs : List α} {cs : List Value} (h : Elems D W S xs cs) (hs : W.heap.size ≤ W'.heap.size) (hb : ∀ b, S b → b < W.heap.size → W'.heap[b]? = W.heap[b]?) : Elems D W' S xs cs := ⟨h.1, fun i hi => D.fr (h.2 i hi) hs hb⟩
theorem Elems.mo {α : Type} {D : Elt α} {W : World} {S S' : Nat → Prop} {xs : List α} {cs : List Value} (h : Elems D W S xs cs) (hb : ∀ b, b < W.heap.size → S b → S' b) : Elems D W S' xs cs := ⟨h.1, fun i hi => D.mo (h.2 i hi) hb⟩
theorem Elems.nil {α : Type} (D : Elt α) (W : World) (S : Nat → Prop) : Elems D W S [] [] := ⟨by simp, fun i hi => absurd hi (Nat.not_lt_zero _)⟩
theorem Elems.snoc {α : Type} {D : Elt α} {W : World} {S : Nat → Prop} {xs : List α} {cs cx : List Value} {x : α} (h : Elems D W S xs cs) (hx : D.E W S x cx) : Elems D W S (xs ++ [x]) (cs ++ cx) := by
  have hl := D.len hx
  refine ⟨by rw [List.length_append, List.length_append, h.1, hl, List.length_singleton, Nat.add_mul, Nat.one_mul], fun i hi => ?_⟩
  rw [List.length_append, List.length_singleton] at hi
  by_cases hlt : i < xs.length
  · rw [List.getElem_append_left hlt]
    have hm : i * D.k + D.k ≤ cs.length := by
      rw [h.1]
      have := Nat.mul_le_mul_right D.k (show i + 1 ≤ xs.length from hlt)
      rw [Nat.add_mul, Nat.one_mul] at this
      exact this
    rw [List.drop_append_of_le_length (by omega), List.take_append_of_le_length (by rw [List.length_drop]; omega)]
    exact h.2 i hlt
  · have he : i = xs.length := by omega
    subst he
    rw [List.getElem_append_right (Nat.le_refl _), ← h.1, List.drop_left, ← hl, List.take_length]
    simpa using hx
/-- A row of such things. -/
def RowR {α : Type} (D : Elt α) (W : World) (S : Nat → Prop) (xs : List α) (a : Option Addr) : Prop := xs = [] ∨ ∃ (g o : Nat) (cs : List Value), a = some ⟨g, o, none⟩ ∧ S g ∧ g < W.heap.size ∧ (∀ j, j < cs.length → W.cell? ⟨g, o + j, none⟩ = cs[j]?) ∧ Elems D W S xs cs
theorem RowR.fr {α : Type} {D : Elt α} {W W' : World} {S : Nat → Prop} {xs : List α} {a : Option Addr} (h : RowR D W S xs a) (hs : W.heap.size ≤ W'.heap.size) (hb : ∀ b, S b → b < W.heap.size → W'.heap[b]? = W.heap[b]?) : RowR D W' S xs a := by
  rcases h with h | ⟨g, o, cs, rfl, hS, hg, hc, hE⟩
  · exact .inl h
  · exact .inr ⟨g, o, cs, rfl, hS, Nat.lt_of_lt_of_le hg hs, fun j hj => (World.cell?_of_block (a := ⟨g, o + j, none⟩) (hb g hS hg)).trans (hc j hj), hE.fr hs hb⟩
theorem RowR.mo {α : Type} {D : Elt α} {W : World} {S S' : Nat → Prop} {xs : List α} {a : Option Addr} (h : RowR D W S xs a) (hb : ∀ b, b < W.heap.size → S b → S' b) : RowR D W S' xs a := by
  rcases h with h | ⟨g, o, cs, rfl, hS, hg, hc, hE⟩
  · exact .inl h
  · exact .inr ⟨g, o, cs, rfl, hb g hg hS, hg, hc, hE.mo hb⟩
theorem lit_at (W : World) (a : Array Value) (t : TypeId) : ∀ j u, a.toList[j]? = some u → (W.alloc (.cells a t)).cell? ((⟨W.heap.size, 0, none⟩ : Addr).add j) = some u := fun j u h => by
  rw [Go.WideShapes.add_plain, Nat.zero_add]
  simpa using h
def eS : Elt (List UInt8) where
  k := 1
  E := fun _ _ s cs => cs = [.string ⟨s.toArray⟩]
  len := fun h => by rw [h]; rfl
  fr := fun h _ _ => h
  mo := fun h _ => h
theorem set_id {X : World} {b i : Nat} {v : Value} (h : X.cell? ⟨b, i, none⟩ = some v) : X.setCell ⟨b, i, none⟩ v = X := by
  have hb := World.block_lt_of_cell? _ _ h
  have hm : X.heap.modify b (fun | .cells c elem frozen => .cells (if (⟨b, i, none⟩ : Addr).spot.isSome then c else c.setIfInBounds i v) elem frozen | o => o) = X.heap := by
    apply Array.ext
    · simp
    · intro k h1 h2
      rw [Array.getElem_modify]
      split
      · rename_i e
        subst e
        unfold World.cell? at h
        simp only [Array.getElem?_eq_getElem h2] at h
        generalize X.heap[b] = o at h ⊢
        cases o with
        | cells c e f =>
          simp only at h ⊢
          congr 1
          simp at h
          apply Array.ext
          · simp
          · intro j hj1 hj2
            simp only [Option.isSome_none, Bool.false_eq_true, if_false] at hj1 ⊢
            rw [Array.getElem_setIfInBounds (by simpa using hj2)]
            split
            · rename_i e
              subst e
              rw [Array.getElem?_eq_getElem hj2] at h
              exact (Option.some.inj h).symm
            · rfl
        | _ => rfl
      · rfl
  exact congrArg (fun hh => { X with heap := hh }) hm
/-- A struct in a block of its own. -/
def Bx (W : World) (b : Nat) (vs : List Value) : Prop := b < W.heap.size ∧ (∀ j, j < vs.length → W.cell? ⟨b, j, none⟩ = vs[j]?) ∧ ∀ j, W.frozen? ⟨b, j, none⟩ = false
theorem bx_new (W : World) (a : Array Value) (t : TypeId) : Bx (W.alloc (.cells a t)) W.heap.size a.toList := ⟨by simp, fun j _ => by simp, fun j => World.frozen?_alloc_new _ _ _ _⟩
theorem Bx.kept {W W' : World} {b : Nat} {vs : List Value} {r : Option Nat} (h : Bx W b vs) (hg : W.grownBy W' r) (hr : some b ≠ r) : Bx W' b vs := ⟨Nat.lt_of_lt_of_le h.1 hg.size, fun j hj => (gr_cell hg h.1 hr j).trans (h.2.1 j hj), fun j => (gr_frozen hg h.1 hr j).trans (h.2.2 j)⟩
theorem Bx.set {W : World} {b : Nat} {vs : List Value} (h : Bx W b vs) (i : Nat) (v : Value) : Bx (W.setCell ⟨b, i, none⟩ v) b (vs.set i v) := by
  refine ⟨Nat.lt_of_lt_of_le h.1 (gr_set W b i v).size, fun j hj => ?_, fun j => by rw [World.frozen?_setCell]; exact h.2.2 j⟩
  rw [List.length_set] at hj
  by_cases e : i = j
  · subst e
    rw [World.cell?_setCell_same _ _ _ (u := vs[i]) ((h.2.1 i hj).trans (List.getElem?_eq_getElem hj)), List.getElem?_set_self hj]
  · rw [World.cell?_setCell_other _ _ _ _ (fun e2 => e (by cases e2; rfl)), h.2.1 j hj, List.getElem?_set_ne e]
def Rg (z : Int) : Prop := -9223372036854775808 ≤ z ∧ z ≤ 9223372036854775807
def eBd : Elt (Int × Int) where
  k := 2
  E := fun _ _ b cs => cs = [.int .i64 b.1, .int .i64 b.2] ∧ Rg b.1 ∧ Rg b.2
  len := fun h => by rw [h.1]; rfl
  fr := fun h _ _ => h
  mo := fun h _ => h
def eG : Elt (List UInt8 × Int) where
  k := 2
  E := fun _ _ g cs => cs = [.string ⟨g.1.toArray⟩, .int .i64 g.2] ∧ Rg g.2
  len := fun h => by rw [h.1]; rfl
  fr := fun h _ _ => h
  mo := fun h _ => h
def eO : Elt (List UInt8 × List (List UInt8)) where
  k := 2
  E := fun W S o cs => ∃ a cap, cs = [.string ⟨o.1.toArray⟩, .slice a o.2.length cap] ∧ RowR eS W S o.2 a
  len := fun ⟨_, _, h, _⟩ => by rw [h]; rfl
  fr := fun ⟨a, cap, h, hR⟩ hs hb => ⟨a, cap, h, hR.fr hs hb⟩
  mo := fun ⟨a, cap, h, hR⟩ hb => ⟨a, cap, h, hR.mo hb⟩
def eT : Elt (List UInt8 × List (Int × Int)) where
  k := 2
  E := fun W S t cs => ∃ a cap, cs = [.string ⟨t.1.toArray⟩, .slice a t.2.length cap] ∧ RowR eBd W S t.2 a
  len := fun ⟨_, _, h, _⟩ => by rw [h]; rfl
  fr := fun ⟨a, cap, h, hR⟩ hs hb => ⟨a, cap, h, hR.fr hs hb⟩
  mo := fun ⟨a, cap, h, hR⟩ hb => ⟨a, cap, h, hR.mo hb⟩
/-- Expressions in a row of memory. -/
def FoAt (W : World) (S : Nat → Prop) : Fo → Option Addr → Prop
  | .nil, _ => True
  | .cons op num den mode args rest, a => ∃ (g o : Nat) (a2 : Option Addr) (cap2 : Nat), a = some ⟨g, o, none⟩ ∧ S g ∧ g < W.heap.size ∧ (W.cell? ⟨g, o, none⟩ = some (.int .i64 op) ∧ W.cell? ⟨g, o + 1, none⟩ = some (.int .i64 num) ∧ W.cell? ⟨g, o + 2, none⟩ = some (.int .i64 den) ∧ W.cell? ⟨g, o + 3, none⟩ = some (.int .i64 mode) ∧ W.cell? ⟨g, o + 4, none⟩ = some (.slice a2 args.len cap2)) ∧ (Rg op ∧ Rg num ∧ Rg den ∧ Rg mode) ∧ FoAt W S args a2 ∧ FoAt W S rest (some ⟨g, o + 5, none⟩)
theorem FoAt.fr {W W' : World} {S : Nat → Prop} (hs : W.heap.size ≤ W'.heap.size) (hb : ∀ b, S b → b < W.heap.size → W'.heap[b]? = W.heap[b]?) : ∀ (f : Fo) (a : Option Addr), FoAt W S f a → FoAt W' S f a
  | .nil, _, _ => trivial
  | .cons op num den mode args rest, a, ⟨g, o, a2, cap2, ha, hS, hg, ⟨h0, h1, h2, h3, h4⟩, hr, hA, hR⟩ => by
    have k : ∀ i, W'.cell? ⟨g, i, none⟩ = W.cell? ⟨g, i, none⟩ := fun i => World.cell?_of_block (a := ⟨g, i, none⟩) (hb g hS hg)
    exact ⟨g, o, a2, cap2, ha, hS, Nat.lt_of_lt_of_le hg hs, ⟨(k _).trans h0, (k _).trans h1, (k _).trans h2, (k _).trans h3, (k _).trans h4⟩, hr, FoAt.fr hs hb args a2 hA, FoAt.fr hs hb rest _ hR⟩
theorem FoAt.mo {W : World} {S S' : Nat → Prop} (hb : ∀ b, b < W.heap.size → S b → S' b) : ∀ (f : Fo) (a : Option Addr), FoAt W S f a → FoAt W S' f a
  | .nil, _, _ => trivial
  | .cons _ _ _ _ args rest, _, ⟨g, o, a2, cap2, ha, hS, hg, hc, hr, hA, hR⟩ => ⟨g, o, a2, cap2, ha, hb g hg hS, hg, hc, hr, FoAt.mo hb args a2 hA, FoAt.mo hb rest _ hR⟩
def eE : Elt Ex where
  k := 5
  E := fun W S e cs => ∃ a cap, cs = [.int .i64 e.op, .int .i64 e.num, .int .i64 e.den, .int .i64 e.mode, .slice a e.args.len cap] ∧ (Rg e.op ∧ Rg e.num ∧ Rg e.den ∧ Rg e.mode) ∧ FoAt W S e.args a
  len := fun ⟨_, _, h, _⟩ => by rw [h]; rfl
  fr := fun ⟨a, cap, h, hr, hF⟩ hs hb => ⟨a, cap, h, hr, FoAt.fr hs hb _ _ hF⟩
  mo := fun ⟨a, cap, h, hr, hF⟩ hb => ⟨a, cap, h, hr, FoAt.mo hb _ _ hF⟩
theorem ofL_len : ∀ l, (ofL l).len = l.length
  | [] => rfl
  | e :: l => by show (ofL l).len + 1 = _; rw [ofL_len l]; rfl
theorem Elems.cons {α : Type} {D : Elt α} {W : World} {S : Nat → Prop} {x : α} {xs : List α} {cs : List Value} (h : Elems D W S (x :: xs) cs) : D.E W S x (cs.take D.k) ∧ Elems D W S xs (cs.drop D.k) := by
  refine ⟨?_, ?_, fun i hi => ?_⟩
  · have := h.2 0 (by simp)
    simpa using this
  · rw [List.length_drop, h.1, List.length_cons, Nat.add_mul, Nat.one_mul]
    omega
  · have := h.2 (i + 1) (by simpa using hi)
    rw [Nat.add_mul, Nat.one_mul] at this
    rw [List.drop_drop, Nat.add_comm D.k]
    simpa using this
theorem fo_of_elems {W : World} {S : Nat → Prop} {g : Nat} (hS : S g) (hg : g < W.heap.size) : ∀ (l : List Ex) (o : Nat) (cs : List Value), (∀ j, j < cs.length → W.cell? ⟨g, o + j, none⟩ = cs[j]?) → Elems eE W S l cs → FoAt W S (ofL l) (some ⟨g, o, none⟩)
  | [], _, _, _, _ => trivial
  | e :: l, o, cs, hc, hE => by
    obtain ⟨h1, h2⟩ := hE.cons
    have hl := hE.1
    have hl5 : 5 ≤ cs.length := by
      rw [hl, List.length_cons]
      show 5 ≤ (l.length + 1) * 5
      omega
    obtain ⟨a, cap, hcs, hr, hF⟩ := h1
    have k : ∀ j (h : j < 5), W.cell? ⟨g, o + j, none⟩ = (cs.take 5)[j]? := fun j h => by
      rw [hc j (by omega), List.getElem?_take, if_pos h]
    rw [show cs.take eE.k = cs.take 5 from rfl] at hcs
    rw [hcs] at k
    refine ⟨g, o, a, cap, rfl, hS, hg, ⟨k 0 (by omega), k 1 (by omega), k 2 (by omega), k 3 (by omega), k 4 (by omega)⟩, hr, hF, ?_⟩
    refine fo_of_elems hS hg l (o + 5) (cs.drop 5) (fun j hj => ?_) h2
    rw [List.length_drop] at hj
    rw [List.getElem?_drop, Nat.add_assoc]
    exact hc (5 + j) (by omega)
theorem fo_of_row {W : World} {S : Nat → Prop} {l : List Ex} {a : Option Addr} (h : RowR eE W S l a) : FoAt W S (ofL l) a := by
  rcases h with rfl | ⟨g, o, cs, rfl, hS, hg, hc, hE⟩
  · trivial
  · exact fo_of_elems hS hg l o cs hc hE
def Rg4 (e : Ex) : Prop := Rg e.op ∧ Rg e.num ∧ Rg e.den ∧ Rg e.mode
def eC : Elt Cl where
  k := 12
  E := fun W S x cs => ∃ a1 c1 a2 c2, cs = [.int .i64 x.pri, .bool x.guarded, .int .i64 x.guard.op, .int .i64 x.guard.num, .int .i64 x.guard.den, .int .i64 x.guard.mode, .slice a1 x.guard.args.len c1, .int .i64 x.body.op, .int .i64 x.body.num, .int .i64 x.body.den, .int .i64 x.body.mode, .slice a2 x.body.args.len c2] ∧ Rg x.pri ∧ (Rg4 x.guard ∧ Rg4 x.body) ∧ FoAt W S x.guard.args a1 ∧ FoAt W S x.body.args a2
  len := fun ⟨_, _, _, _, h, _⟩ => by rw [h]; rfl
  fr := fun ⟨a1, c1, a2, c2, h, hr, hq, hF, hG⟩ hs hb => ⟨a1, c1, a2, c2, h, hr, hq, FoAt.fr hs hb _ _ hF, FoAt.fr hs hb _ _ hG⟩
  mo := fun ⟨a1, c1, a2, c2, h, hr, hq, hF, hG⟩ hb => ⟨a1, c1, a2, c2, h, hr, hq, FoAt.mo hb _ _ hF, FoAt.mo hb _ _ hG⟩
def eK : Elt Ck where
  k := 9
  E := fun W S x cs => ∃ a c, cs = [.string ⟨x.name.toArray⟩, .bool x.hard, .int .i64 x.group, .int .i64 x.when_.op, .int .i64 x.when_.num, .int .i64 x.when_.den, .int .i64 x.when_.mode, .slice a x.when_.args.len c, .string ⟨x.text.toArray⟩] ∧ Rg x.group ∧ Rg4 x.when_ ∧ FoAt W S x.when_.args a
  len := fun ⟨_, _, h, _⟩ => by rw [h]; rfl
  fr := fun ⟨a, c, h, hr, hq, hF⟩ hs hb => ⟨a, c, h, hr, hq, FoAt.fr hs hb _ _ hF⟩
  mo := fun ⟨a, c, h, hr, hq, hF⟩ hb => ⟨a, c, h, hr, hq, FoAt.mo hb _ _ hF⟩
def eL : Elt Ln where
  k := 7
  E := fun W S x cs => ∃ a c, cs = [.string ⟨x.name.toArray⟩, .bool x.input, .bool x.must, .int .i64 x.type, .int .i64 x.opts, .int .i64 x.group, .slice a x.cls.length c] ∧ (Rg x.type ∧ Rg x.opts ∧ Rg x.group) ∧ RowR eC W S x.cls a
  len := fun ⟨_, _, h, _⟩ => by rw [h]; rfl
  fr := fun ⟨a, c, h, hr, hF⟩ hs hb => ⟨a, c, h, hr, hF.fr hs hb⟩
  mo := fun ⟨a, c, h, hr, hF⟩ hb => ⟨a, c, h, hr, hF.mo hb⟩
theorem RowR.item {α : Type} {D : Elt α} {W : World} {S : Nat → Prop} {xs : List α} {g o : Nat} (h : RowR D W S xs (some ⟨g, o, none⟩)) {i : Nat} (hi : i < xs.length) : ∃ cs : List Value, cs.length = D.k ∧ S g ∧ D.E W S xs[i] cs ∧ ∀ j, j < D.k → W.cell? ⟨g, o + i * D.k + j, none⟩ = cs[j]? := by
  rcases h with h | ⟨g', o', cs, he, hS, _, hc, hE⟩
  · rw [h] at hi; simp at hi
  · injection he with he
    injection he with h1 h2
    subst h1 h2
    have hl := hE.1
    have hE := hE.2 i hi
    have hlen := D.len hE
    refine ⟨_, hlen, hS, hE, fun j hj => ?_⟩
    have hm : i * D.k + D.k ≤ xs.length * D.k := by rw [← Nat.succ_mul]; exact Nat.mul_le_mul_right _ hi
    rw [Nat.add_assoc, hc (i * D.k + j) (by rw [hl]; omega), List.getElem?_take, if_pos hj, List.getElem?_drop]
def toL : Fo → List Ex
  | .nil => []
  | .cons a b c d x r => ⟨a, b, c, d, x⟩ :: toL r
theorem toL_len : ∀ f, (toL f).length = f.len
  | .nil => rfl
  | .cons a b c d x r => by show (toL r).length + 1 = r.len + 1; rw [toL_len r]
theorem deepF_toL : ∀ (f : Fo) (x : Ex), x ∈ toL f → deepE x ≤ deepF f
  | .cons a b c d y r, x, h => by
    show deepE x ≤ max (1 + deepF y) (deepF r)
    rcases List.mem_cons.1 h with rfl | h
    · show 1 + deepF y ≤ _; omega
    · have := deepF_toL r x h; omega
theorem ofL_toL : ∀ f : Fo, ofL (toL f) = f
  | .nil => rfl
  | .cons a b c d x r => by show Fo.cons a b c d x (ofL (toL r)) = _; rw [ofL_toL r]
theorem Elems.cons' {α : Type} {D : Elt α} {W : World} {S : Nat → Prop} {x : α} {xs : List α} {cx cs : List Value} (hx : D.E W S x cx) (h : Elems D W S xs cs) : Elems D W S (x :: xs) (cx ++ cs) := by
  have hl := D.len hx
  refine ⟨by rw [List.length_append, h.1, hl, List.length_cons, Nat.add_mul, Nat.one_mul, Nat.add_comm], fun i hi => ?_⟩
  cases i with
  | zero =>
    rw [Nat.zero_mul, List.drop_zero, ← hl, List.take_left]
    exact hx
  | succ i =>
    have h2 := h.2 i (by simpa using hi)
    have e : List.drop ((i + 1) * D.k) (cx ++ cs) = List.drop (i * D.k) cs := by
      rw [Nat.succ_mul, Nat.add_comm, ← hl, ← List.drop_drop, List.drop_left]
    rw [e]
    exact h2
theorem elems_of_fo {W : World} {S : Nat → Prop} {g : Nat} : ∀ (f : Fo) (o : Nat), FoAt W S f (some ⟨g, o, none⟩) → ∃ cs, (∀ j, j < cs.length → W.cell? ⟨g, o + j, none⟩ = cs[j]?) ∧ Elems eE W S (toL f) cs
  | .nil, _, _ => ⟨[], fun j hj => by simp at hj, Elems.nil _ _ _⟩
  | .cons op num den mode args rest, o, ⟨g2, o2, a2, cap2, ha, hS, hg, ⟨k0, k1, k2, k3, k4⟩, hr, hA, hR⟩ => by
    injection ha with ha
    injection ha with h1 h2
    subst h1 h2
    obtain ⟨cs, hc, hE⟩ := elems_of_fo rest (o + 5) hR
    refine ⟨[.int .i64 op, .int .i64 num, .int .i64 den, .int .i64 mode, .slice a2 args.len cap2] ++ cs, fun j hj => ?_, Elems.cons' (D := eE) (x := ⟨op, num, den, mode, args⟩) ⟨a2, cap2, rfl, hr, hA⟩ hE⟩
    match j, hj with
    | 0, _ => exact k0
    | 1, _ => exact k1
    | 2, _ => exact k2
    | 3, _ => exact k3
    | 4, _ => exact k4
    | j + 5, hj =>
      have := hc j (by simp at hj; omega)
      rw [show o + (j + 5) = o + 5 + j by omega, this]
      rfl
theorem row_of_fo {W : World} {S : Nat → Prop} {f : Fo} {a : Option Addr} (h : FoAt W S f a) : RowR eE W S (toL f) a := by
  cases f with
  | nil => exact .inl rfl
  | cons op num den mode args rest =>
    have h0 := h
    obtain ⟨g, o, a2, cap2, rfl, hS, hg, -⟩ := h0
    obtain ⟨cs, hc, hE⟩ := elems_of_fo _ o h
    exact .inr ⟨g, o, cs, rfl, hS, hg, hc, hE⟩
def SzF : Fo → Prop
  | .nil => True
  | .cons _ _ _ _ args rest => args.len ≤ 9223372036854775807 ∧ SzF args ∧ SzF rest
def SzE (x : Ex) : Prop := x.args.len ≤ 9223372036854775807 ∧ SzF x.args
theorem toL_sz : ∀ f : Fo, SzF f → ∀ x ∈ toL f, SzE x
  | .nil, _, x, hx => by cases hx
  | .cons a b c d y r, h, x, hx => by
    rcases List.mem_cons.1 hx with rfl | hx
    · exact ⟨h.1, h.2.1⟩
    · exact toL_sz r h.2.2 x hx
def SzC (c : Cl) : Prop := SzE c.guard ∧ SzE c.body
def SzL (x : Ln) : Prop := x.cls.length ≤ 9223372036854775807 ∧ ∀ c ∈ x.cls, SzC c
/-- What is known of the sizes of a pack. -/
structure SzP (p : Pk) : Prop where
  name : p.name.length ≤ 9223372036854775807
  opts : p.opts.length ≤ 9223372036854775807 ∧ ∀ o ∈ p.opts, o.1.length ≤ 9223372036854775807 ∧ o.2.length ≤ 9223372036854775807 ∧ ∀ s ∈ o.2, s.length ≤ 9223372036854775807
  tabs : p.tabs.length ≤ 9223372036854775807 ∧ ∀ o ∈ p.tabs, o.1.length ≤ 9223372036854775807 ∧ o.2.length ≤ 9223372036854775807
  grps : p.grps.length ≤ 9223372036854775807 ∧ ∀ o ∈ p.grps, o.1.length ≤ 9223372036854775807
  lns : p.lns.length ≤ 9223372036854775807 ∧ ∀ o ∈ p.lns, o.name.length ≤ 9223372036854775807 ∧ SzL o
  cks : p.cks.length ≤ 9223372036854775807 ∧ ∀ o ∈ p.cks, o.name.length ≤ 9223372036854775807 ∧ o.text.length ≤ 9223372036854775807 ∧ SzE o.when_
def RgF : Fo → Prop
  | .nil => True
  | .cons op num den mode args rest => (Rg op ∧ Rg num ∧ Rg den ∧ Rg mode) ∧ RgF args ∧ RgF rest
def RgE (e : Ex) : Prop := Rg4 e ∧ RgF e.args
def RgC (c : Cl) : Prop := Rg c.pri ∧ RgE c.guard ∧ RgE c.body
def RgL (l : Ln) : Prop := (Rg l.type ∧ Rg l.opts ∧ Rg l.group) ∧ ∀ c ∈ l.cls, RgC c
def RgK (c : Ck) : Prop := Rg c.group ∧ RgE c.when_
structure RgP (p : Pk) : Prop where
  year : Rg p.year
  tabs : ∀ x ∈ p.tabs, ∀ b ∈ x.2, Rg b.1 ∧ Rg b.2
  grps : ∀ x ∈ p.grps, Rg x.2
  lns : ∀ x ∈ p.lns, RgL x
  cks : ∀ x ∈ p.cks, RgK x
/-- A pack in its cells. -/
def PkE (W : World) (S : Nat → Prop) (p : Pk) (cs : List Value) : Prop := ∃ a3 c3 a4 c4 a5 c5 a6 c6 a7 c7, cs = [.string ⟨p.name.toArray⟩, .int .i64 p.year, .slice a3 p.opts.length c3, .slice a4 p.tabs.length c4, .slice a5 p.grps.length c5, .slice a6 p.lns.length c6, .slice a7 p.cks.length c7] ∧ Rg p.year ∧ RowR eO W S p.opts a3 ∧ RowR eT W S p.tabs a4 ∧ RowR eG W S p.grps a5 ∧ RowR eL W S p.lns a6 ∧ RowR eK W S p.cks a7
theorem bel_cell {n : Nat} {W W' : World} (h : Below n W W') {b : Nat} (hb : b < n) (i : Nat) : W'.cell? ⟨b, i, none⟩ = W.cell? ⟨b, i, none⟩ := World.cell?_of_block (h.block b hb)
theorem Below.tr {n m : Nat} {W X Y : World} (h : Below n W X) (k : Below m X Y) (hm : n ≤ m) : Below n W Y := h.trans ⟨k.os, k.tape, k.output, k.size, fun b hb => k.block b (Nat.lt_of_lt_of_le hb hm)⟩
abbrev AnyB : Nat → Prop := fun _ => True
theorem fo_bel {W W' : World} {n : Nat} {f : Fo} {a : Option Addr} (h : FoAt W AnyB f a) (hB : Below n W W') (hn : W.heap.size ≤ n) : FoAt W' AnyB f a := FoAt.fr hB.size (fun b _ hlt => hB.block b (Nat.lt_of_lt_of_le hlt hn)) f a h
theorem row_bel {α : Type} {D : Elt α} {W W' : World} {n : Nat} {xs : List α} {a : Option Addr} (h : RowR D W AnyB xs a) (hB : Below n W W') (hn : W.heap.size ≤ n) : RowR D W' AnyB xs a := h.fr hB.size (fun b _ hlt => hB.block b (Nat.lt_of_lt_of_le hlt hn))
theorem RowR.some {α : Type} {D : Elt α} {W : World} {S : Nat → Prop} {xs : List α} {a : Option Addr} (h : RowR D W S xs a) {i : Nat} (hi : i < xs.length) : ∃ g o, a = some ⟨g, o, none⟩ := by
  rcases h with h | ⟨g, o, _, e, _⟩
  · rw [h] at hi; simp at hi
  · exact ⟨g, o, e⟩
theorem toL_inj {f g : Fo} (h : toL f = toL g) : f = g := by rw [← ofL_toL f, h, ofL_toL]
theorem ex_ext {x y : Ex} (h0 : x.op = y.op) (h1 : x.num = y.num) (h2 : x.den = y.den) (h3 : x.mode = y.mode) (h4 : toL x.args = toL y.args) : x = y := by
  obtain ⟨_, _, _, _, _⟩ := x
  obtain ⟨_, _, _, _, _⟩ := y
  cases h0; cases h1; cases h2; cases h3
  cases toL_inj h4
  rfl
theorem list_all {α : Type} {l m : List α} (hl : l.length = m.length) (h : ∀ j (h1 : j < l.length) (h2 : j < m.length), l[j] = m[j]) : l = m := List.ext_getElem hl h

end Go.Proofs.YthnmjafoplfikaaGreatDoor
