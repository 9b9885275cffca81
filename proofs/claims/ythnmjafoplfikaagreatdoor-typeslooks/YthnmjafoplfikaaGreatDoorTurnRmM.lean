import Derived.Test.YthnmjafoplfikaaGreatDoorTurnYB
import Derived.Laws.OwnMore
import Derived.Maps.AppendAt
/- A ROOM (levyroom): its lists of lists, the marks behind them; lists that are being copied into it. No walk. -/
namespace Go.Proofs.YthnmjafoplfikaaGreatDoor
open Go.RowKit

def sOne : ByteArray := ⟨#[60, 111, 110, 101, 62]⟩
def sTwo : ByteArray := ⟨#[60, 116, 119, 111, 62]⟩
def sNil : ByteArray := ⟨#[]⟩
/-- By the place of a kind in the room: the type of its lists. -/
def rmT (j : Nat) : TypeId := if j = 4 then 64 else if j = 6 then 67 else if j = 14 then 71 else if j = 15 then 76 else if j = 16 then 25 else if j = 17 then 26 else if j = 18 then 22 else if j = 19 then 23 else if j = 20 then 24 else 0
/-- The type of their elements, its cells, how many marks, which. -/
def rmE (j : Nat) : TypeId := if j = 4 then 9 else if j = 6 then 121 else if j = 14 then 73 else if j = 15 then 80 else if j = 16 then 78 else if j = 17 then 75 else if j = 18 then 66 else if j = 19 then 69 else if j = 20 then 96 else 0
def rmS (j : Nat) : Nat := if j = 4 then 1 else if j = 14 then 5 else if j = 15 then 12 else if j = 16 then 7 else if j = 17 then 9 else 2
def rmSp (j : Nat) : Nat := if j = 14 then 8 else 40
def rmMk0 (j : Nat) (n : Int) (s : ByteArray) : List Value :=
  if j = 4 then [.string s] else if j = 6 then [.int .i64 n, .int .i64 0] else if j = 14 then [.int .i64 n, .int .i64 0, .int .i64 0, .int .i64 0, .slice none 0 0]
  else if j = 15 then [.int .i64 n, .bool false, .int .i64 0, .int .i64 0, .int .i64 0, .int .i64 0, .slice none 0 0, .int .i64 0, .int .i64 0, .int .i64 0, .int .i64 0, .slice none 0 0]
  else if j = 16 then [.string sNil, .bool false, .bool false, .int .i64 n, .int .i64 0, .int .i64 0, .slice none 0 0]
  else if j = 17 then [.string sNil, .bool false, .int .i64 n, .int .i64 0, .int .i64 0, .int .i64 0, .int .i64 0, .slice none 0 0, .string sNil]
  else if j = 18 then [.string s, .slice none 0 0] else if j = 19 then [.string s, .slice none 0 0] else if j = 20 then [.string sNil, .int .i64 n] else []
def rmMk (j k : Nat) : List Value := if k % 2 = 0 then rmMk0 j (-7701) sOne else rmMk0 j (-7702) sTwo

/-- A list with its marks. -/
def MarkV (W : World) (j : Nat) (v : Value) : Prop := ∃ g n cap cs f, v = .slice (some ⟨g, 0, none⟩) n cap ∧ W.heap[g]? = some (.cells cs (rmE j) f) ∧ rmSp j ≤ n ∧ n ≤ 2000000 ∧ ∀ k, k < rmSp j → ∀ i u, (rmMk j k)[i]? = some u → cs[(n - rmSp j + k) * rmS j + i]? = some u
theorem MarkV.lt {W : World} {j : Nat} {v : Value} (h : MarkV W j v) {g : Nat} (e : v.ownBlock = some g) : g < W.heap.size := by
  obtain ⟨g', n, cap, cs, f, rfl, h1, -⟩ := h
  have e' : g' = g := Option.some.inj e
  subst e'
  exact (Array.getElem?_eq_some_iff.1 h1).1
theorem MarkV.keep {W W' : World} {j : Nat} {v : Value} (h : MarkV W j v) (hb : ∀ g, v.ownBlock = some g → W'.heap[g]? = W.heap[g]?) : MarkV W' j v := by
  obtain ⟨g, n, cap, cs, f, rfl, h1, h2⟩ := h
  exact ⟨g, n, cap, cs, f, rfl, (hb g rfl).trans h1, h2⟩
structure RmAt (W : World) (R lo : Nat) (K : Nat → Value) (V : Nat → List Value) (N : Nat) : Prop where
  row : ∃ cs : Array Value, W.heap[R]? = some (.cells cs 55 (0, 0)) ∧ ∀ j, j < 21 → cs[j]? = some (K j)
  own : ∀ j, j < 21 → W.ownsRow lo (rmT j) 1 (K j) (V j).length (V j)
  nil : ∀ j, j < 21 → V j = [] → K j = .slice none 0 0
  low : lo ≤ R
  mks : ∀ j, j < 21 → ∀ v ∈ V j, MarkV W j v
  few : ∀ j, j < 21 → (V j).length ≤ N
  un : ∀ j, j < 21 → rmT j = 0 → V j = []
theorem RmAt.lt {W : World} {R lo : Nat} {K : Nat → Value} {V : Nat → List Value} {N : Nat} (h : RmAt W R lo K V N) : R < W.heap.size := by
  obtain ⟨cs, h1, -⟩ := h.row
  exact (Array.getElem?_eq_some_iff.1 h1).1
theorem RmAt.cell {W : World} {R lo : Nat} {K : Nat → Value} {V : Nat → List Value} {N : Nat} (h : RmAt W R lo K V N) {j : Nat} (hj : j < 21) : W.cell? ⟨R, j, none⟩ = some (K j) ∧ W.frozen? ⟨R, j, none⟩ = false := by
  obtain ⟨cs, h1, h2⟩ := h.row
  refine ⟨?_, frozen_of_row _ _ j _ _ h1⟩
  rw [cell_of_row _ _ j _ _ _ h1]
  exact h2 j hj
theorem RmAt.off {W : World} {R lo : Nat} {K : Nat → Value} {V : Nat → List Value} {N : Nat} (h : RmAt W R lo K V N) {g : Nat} {cs : Array Value} {t : TypeId} {f : Nat × Nat} (hg : W.heap[g]? = some (.cells cs t f)) (hT : t ≠ 55 ∧ ∀ j, j < 21 → t ≠ rmT j) : g ≠ R ∧ ∀ j, j < 21 → (K j).ownBlock ≠ some g := by
  refine ⟨fun e => ?_, fun j hj e => ?_⟩
  · subst e
    obtain ⟨cs', h1, -⟩ := h.row
    rw [hg] at h1
    cases h1
    exact hT.1 rfl
  · obtain ⟨_, ⟨h0, _⟩ | ⟨g', c, cur, h0, _, r1, _⟩⟩ := h.own j hj
    · rw [h0] at e
      simp [Value.ownBlock] at e
    · rw [h0] at e
      have e' : g' = g := Option.some.inj e
      subst e'
      rw [hg] at r1
      cases r1
      exact hT.2 j hj rfl
/-- Only the room's own blocks are turned. -/
structure Fm (R : Nat) (K : Nat → Value) (W W' : World) : Prop where
  os : W'.os = W.os
  tape : W'.tape = W.tape
  output : W'.output = W.output
  size : W.heap.size ≤ W'.heap.size
  block : ∀ k, k < W.heap.size → k ≠ R → (∀ j, j < 21 → (K j).ownBlock ≠ some k) → W'.heap[k]? = W.heap[k]?
/-- What becomes of a room. -/
structure RmStep (R : Nat) (K : Nat → Value) (V : Nat → List Value) (K' : Nat → Value) (V' : Nat → List Value) (W W' : World) : Prop where
  fm : Fm R K W W'
  ks : ∀ j, j < 21 → (K' j).ownBlock = (K j).ownBlock ∨ ∃ g, (K' j).ownBlock = some g ∧ W.heap.size ≤ g
  vs : ∀ j, j < 21 → ∀ v ∈ V' j, v ∈ V j ∨ ∃ g, v.ownBlock = some g ∧ W.heap.size ≤ g
theorem RmStep.refl (R : Nat) (K : Nat → Value) (V : Nat → List Value) (W : World) : RmStep R K V K V W W := ⟨⟨rfl, rfl, rfl, Nat.le_refl _, fun _ _ _ _ => rfl⟩, fun _ _ => .inl rfl, fun _ _ _ h => .inl h⟩
theorem RmStep.trans {R : Nat} {K K1 K2 : Nat → Value} {V V1 V2 : Nat → List Value} {W X Y : World} (h : RmStep R K V K1 V1 W X) (h' : RmStep R K1 V1 K2 V2 X Y) : RmStep R K V K2 V2 W Y := by
  refine ⟨⟨h'.fm.os.trans h.fm.os, h'.fm.tape.trans h.fm.tape, h'.fm.output.trans h.fm.output, Nat.le_trans h.fm.size h'.fm.size, fun k hk h1 h2 => ?_⟩, fun j hj => ?_, fun j hj v hv => ?_⟩
  · refine (h'.fm.block k (Nat.lt_of_lt_of_le hk h.fm.size) h1 (fun j hj e => ?_)).trans (h.fm.block k hk h1 h2)
    rcases h.ks j hj with e' | ⟨g, e', hg⟩
    · exact h2 j hj (e'.symm.trans e)
    · rw [e'] at e
      have := Option.some.inj e
      omega
  · rcases h'.ks j hj with e | ⟨g, e, hg⟩
    · rw [e]; exact h.ks j hj
    · exact .inr ⟨g, e, Nat.le_trans h.fm.size hg⟩
  · rcases h'.vs j hj v hv with e | ⟨g, e, hg⟩
    · exact h.vs j hj v e
    · exact .inr ⟨g, e, Nat.le_trans h.fm.size hg⟩
/-- Something that is new since is turned. -/
theorem RmStep.after {R : Nat} {K K1 : Nat → Value} {V V1 : Nat → List Value} {W X Y : World} {r : Option Nat} (h : RmStep R K V K1 V1 W X) (hg : X.grownBy Y r) (hr : ∀ g, r = some g → W.heap.size ≤ g) : RmStep R K V K1 V1 W Y :=
  ⟨⟨hg.os.trans h.fm.os, hg.tape.trans h.fm.tape, hg.output.trans h.fm.output, Nat.le_trans h.fm.size hg.size, fun k hk h1 h2 => (hg.block k (Nat.lt_of_lt_of_le hk h.fm.size) (fun e => by have := hr k e.symm; omega)).trans (h.fm.block k hk h1 h2)⟩, h.ks, h.vs⟩
theorem RmAt.other {W W' : World} {R lo : Nat} {K : Nat → Value} {V : Nat → List Value} {N : Nat} {r : Option Nat} (h : RmAt W R lo K V N) (hg : W.grownBy W' r) (h1 : r ≠ some R) (h2 : ∀ j, j < 21 → ∀ g, r = some g → (K j).ownBlock ≠ some g) (h3 : ∀ j, j < 21 → ∀ v ∈ V j, ∀ g, r = some g → v.ownBlock ≠ some g) : RmAt W' R lo K V N := by
  obtain ⟨cs, r1, r2⟩ := h.row
  refine ⟨⟨cs, (hg.block R h.lt (fun e => h1 e.symm)).trans r1, r2⟩, fun j hj => (h.own j hj).kept hg ?_, h.nil, h.low, fun j hj v hv => (h.mks j hj v hv).keep (fun g e => hg.block g ((h.mks j hj v hv).lt e) (fun e' => h3 j hj v hv g e'.symm e)), h.few, h.un⟩
  cases hk : (K j).ownBlock with
  | none => exact .inl rfl
  | some g => exact .inr (fun e => h2 j hj g e.symm hk)
theorem RmAt.new {W W' : World} {R lo : Nat} {K : Nat → Value} {V : Nat → List Value} {N : Nat} (h : RmAt W R lo K V N) (hb : Below W.heap.size W W') : RmAt W' R lo K V N := h.other (r := none) ⟨hb.os, hb.tape, hb.output, hb.size, fun k hk _ => hb.block k hk⟩ (by simp) (fun _ _ _ e => by cases e) (fun _ _ _ _ _ e => by cases e)
theorem RmAt.mono {W : World} {R lo : Nat} {K : Nat → Value} {V : Nat → List Value} {N N' : Nat} (h : RmAt W R lo K V N) (hn : N ≤ N') : RmAt W R lo K V N' := ⟨h.row, h.own, h.nil, h.low, h.mks, fun j hj => Nat.le_trans (h.few j hj) hn, h.un⟩
theorem RmStep.below {R lo N : Nat} {K K' : Nat → Value} {V V' : Nat → List Value} {W W' : World} (h : RmAt W R lo K V N) (hs : RmStep R K V K' V' W W') : Below lo W W' :=
  ⟨hs.fm.os, hs.fm.tape, hs.fm.output, hs.fm.size, fun k hk => hs.fm.block k (by have := h.lt; have := h.low; omega) (by have := h.low; omega) (fun j hj e => by have := ((h.own j hj).lt k e).1; omega)⟩
def upd {α : Type} (K : Nat → α) (j : Nat) (v : α) (i : Nat) : α := if i = j then v else K i
theorem upd_same {α : Type} (K : Nat → α) (j : Nat) (v : α) : upd K j v j = v := by simp [upd]
theorem upd_other {α : Type} (K : Nat → α) {j i : Nat} (v : α) (h : i ≠ j) : upd K j v i = K i := by simp [upd, h]
theorem rmT_inj : ∀ i, i < 21 → ∀ j, j < 21 → i ≠ j → rmT i = rmT j → rmT i = 0 := by decide
theorem own_differ {W : World} {b1 b2 k1 k2 n1 n2 : Nat} {t1 t2 : TypeId} {v1 v2 : Value} {x1 x2 : List Value} (h1 : W.ownsRow b1 t1 k1 v1 n1 x1) (h2 : W.ownsRow b2 t2 k2 v2 n2 x2) (hne : t1 ≠ t2) : v2.ownBlock = none ∨ v2.ownBlock ≠ v1.ownBlock := by
  obtain ⟨_, ⟨rfl, _⟩ | ⟨g2, c2, cur2, rfl, _, r2, _⟩⟩ := h2
  · exact .inl rfl
  · refine .inr fun e => ?_
    obtain ⟨_, ⟨rfl, _⟩ | ⟨g1, c1, cur1, rfl, _, r1, _⟩⟩ := h1
    · simp [Value.ownBlock] at e
    · have e' : g2 = g1 := Option.some.inj e
      subst e'
      rw [r1] at r2
      cases r2
      exact hne rfl
theorem own_tagged {W : World} {b k n r : Nat} {t : TypeId} {v : Value} {xs : List Value} (h : W.ownsRow b t k v n xs) (e : v.ownBlock = some r) : ∃ cs f, W.heap[r]? = some (.cells cs t f) := by
  obtain ⟨_, ⟨rfl, _⟩ | ⟨g, c, cur, rfl, _, r1, _⟩⟩ := h
  · simp [Value.ownBlock] at e
  · have e' : g = r := Option.some.inj e
    subst e'
    exact ⟨_, _, r1⟩

/-- Blocks that are new since n, and none of the room's, nor the row's own. -/
def Sm (n R : Nat) (K : Nat → Value) (W : World) (lv : Value) (b : Nat) : Prop := n ≤ b ∧ b < W.heap.size ∧ b ≠ R ∧ (∀ j, j < 21 → (K j).ownBlock ≠ some b) ∧ some b ≠ lv.ownBlock
/-- A list that is being copied: its own cells and what it leads to; cx: cells behind them. -/
structure GM {α : Type} (D : Elt α) (T : TypeId) (n R : Nat) (K : Nat → Value) (V : Nat → List Value) (W : World) (lv : Value) (xs : List α) (m : Nat) (cx : List Value) : Prop where
  ex : ∃ cs, W.ownsRow n T D.k lv (xs.length + m) (cs ++ cx) ∧ Elems D W (Sm n R K W lv) xs cs
  vs : ∀ j, j < 21 → ∀ v ∈ V j, ∀ g, lv.ownBlock = some g → v.ownBlock ≠ some g
theorem GM.lt {α : Type} {D : Elt α} {T : TypeId} {n R : Nat} {K : Nat → Value} {V : Nat → List Value} {W : World} {lv : Value} {xs : List α} {m : Nat} {cx : List Value} (h : GM D T n R K V W lv xs m cx) {g : Nat} (e : lv.ownBlock = some g) : n ≤ g ∧ g < W.heap.size := by
  obtain ⟨cs, h1, -⟩ := h.ex
  exact h1.lt g e
/-- The room takes something. -/
theorem GM.room {α : Type} {D : Elt α} {T : TypeId} {n R lo N : Nat} {K K' : Nat → Value} {V V' : Nat → List Value} {W W' : World} {lv : Value} {xs : List α} {m : Nat} {cx : List Value} (h : GM D T n R K V W lv xs m cx) (hR : RmAt W R lo K V N) (hT : T ≠ 55 ∧ ∀ j, j < 21 → T ≠ rmT j) (hs : RmStep R K V K' V' W W') : GM D T n R K' V' W' lv xs m cx := by
  obtain ⟨cs, h1, h2⟩ := h.ex
  have hoff : ∀ g, lv.ownBlock = some g → W'.heap[g]? = W.heap[g]? := fun g e => by
    obtain ⟨cs', f, hg⟩ := own_tagged h1 e
    obtain ⟨o1, o2⟩ := hR.off hg hT
    exact hs.fm.block g (h1.lt g e).2 o1 o2
  refine ⟨⟨cs, ?_, ?_⟩, fun j hj v hv g e e' => ?_⟩
  · obtain ⟨q1, q2 | ⟨g, cap, cur, e, hb, r, rest⟩⟩ := h1
    · exact ⟨q1, .inl q2⟩
    · exact ⟨q1, .inr ⟨g, cap, cur, e, hb, (hoff g (by rw [e]; rfl)).trans r, rest⟩⟩
  · refine (h2.fr hs.fm.size (fun b hb hlt => hs.fm.block b hlt hb.2.2.1 hb.2.2.2.1)).mo (fun b _ hb => ⟨hb.1, Nat.lt_of_lt_of_le hb.2.1 hs.fm.size, hb.2.2.1, fun j hj e => ?_, hb.2.2.2.2⟩)
    rcases hs.ks j hj with e' | ⟨g, e', hg⟩
    · exact hb.2.2.2.1 j hj (e'.symm.trans e)
    · rw [e'] at e
      have := Option.some.inj e
      have := hb.2.1
      omega
  · rcases hs.vs j hj v hv with e2 | ⟨g2, e2, hg2⟩
    · exact h.vs j hj v e2 g e e'
    · rw [e'] at e2
      have := Option.some.inj e2
      have := (h1.lt g e).2
      omega
theorem GM.new {α : Type} {D : Elt α} {T : TypeId} {n R : Nat} {K : Nat → Value} {V : Nat → List Value} {W W' : World} {lv : Value} {xs : List α} {m : Nat} {cx : List Value} (h : GM D T n R K V W lv xs m cx) (hb : Below W.heap.size W W') : GM D T n R K V W' lv xs m cx := by
  obtain ⟨cs, h1, h2⟩ := h.ex
  have hg : W.grownBy W' none := ⟨hb.os, hb.tape, hb.output, hb.size, fun k hk _ => hb.block k hk⟩
  refine ⟨⟨cs, h1.kept hg (by cases lv.ownBlock <;> simp), (h2.fr hb.size (fun b _ hlt => hb.block b hlt)).mo (fun b _ hb' => ⟨hb'.1, Nat.lt_of_lt_of_le hb'.2.1 hb.size, hb'.2.2⟩)⟩, h.vs⟩
/-- What is behind an append of an element. -/
theorem GM.step {α : Type} {D : Elt α} {T : TypeId} {n R lo N n1 : Nat} {K : Nat → Value} {V : Nat → List Value} {W w2 : World} {lv lv' : Value} {xs : List α} {x : α} {cs cx : List Value} (hR : RmAt W R lo K V N) (hT : T ≠ 55 ∧ ∀ j, j < 21 → T ≠ rmT j) (ho : W.ownsRow n T D.k lv xs.length cs) (hE : Elems D W (Sm n R K W lv) xs cs) (hv : ∀ j, j < 21 → ∀ v ∈ V j, ∀ g, lv.ownBlock = some g → v.ownBlock ≠ some g)
    (hx : D.E W (fun b => n1 ≤ b ∧ b < W.heap.size ∧ b ≠ R ∧ ∀ j, j < 21 → (K j).ownBlock ≠ some b) x cx) (hn : n ≤ n1) (hn1 : ∀ g, lv.ownBlock = some g → g < n1) (hgr : W.grownBy w2 lv.ownBlock) (hat : lv'.ownBlock = lv.ownBlock ∨ lv'.ownBlock = some W.heap.size) (ho2 : w2.ownsRow n T D.k lv' (xs.length + 1) (cs ++ cx)) :
    GM D T n R K V w2 lv' (xs ++ [x]) 0 [] ∧ RmAt w2 R lo K V N := by
  have hoff : ∀ g, lv.ownBlock = some g → g ≠ R ∧ ∀ j, j < 21 → (K j).ownBlock ≠ some g := fun g e => by
    obtain ⟨cs', f, hg⟩ := own_tagged ho e
    exact hR.off hg hT
  have hx1 : D.E W (Sm n R K W lv) x cx := D.mo hx (fun b _ hb => ⟨Nat.le_trans hn hb.1, hb.2.1, hb.2.2.1, hb.2.2.2, fun e => by have := hn1 b e.symm; have := hb.1; omega⟩)
  have h1 := hE.snoc hx1
  have h3 := h1.fr hgr.size (fun b hb hlt => hgr.block b hlt hb.2.2.2.2)
  refine ⟨⟨⟨cs ++ cx, by rw [List.length_append, List.length_singleton, List.append_nil, Nat.add_zero]; exact ho2, h3.mo (fun b _ hb => ⟨hb.1, Nat.lt_of_lt_of_le hb.2.1 hgr.size, hb.2.2.1, hb.2.2.2.1, ?_⟩)⟩, fun j hj v hvv g e e' => ?_⟩, hR.other hgr (fun e => (hoff R e).1 rfl) (fun j hj g e => (hoff g e).2 j hj) (fun j hj v hvv g e => hv j hj v hvv g e)⟩
  · rcases hat with h | h
    · rw [h]; exact hb.2.2.2.2
    · rw [h]; intro e; injection e with e; have := hb.2.1; omega
  · rcases hat with h | h
    · exact hv j hj v hvv g (h ▸ e) e'
    · rw [h] at e
      have := Option.some.inj e
      have := (hR.mks j hj v hvv).lt e'
      omega
/-- What is behind an append of marks. -/
theorem GM.marks {α : Type} {D : Elt α} {T : TypeId} {n R lo N : Nat} {K : Nat → Value} {V : Nat → List Value} {W w2 : World} {lv lv' : Value} {xs : List α} {m k : Nat} {cs cx cy : List Value} (hR : RmAt W R lo K V N) (hT : T ≠ 55 ∧ ∀ j, j < 21 → T ≠ rmT j) (ho : W.ownsRow n T D.k lv (xs.length + m) (cs ++ cx)) (hE : Elems D W (Sm n R K W lv) xs cs) (hv : ∀ j, j < 21 → ∀ v ∈ V j, ∀ g, lv.ownBlock = some g → v.ownBlock ≠ some g)
    (hgr : W.grownBy w2 lv.ownBlock) (hat : lv'.ownBlock = lv.ownBlock ∨ lv'.ownBlock = some W.heap.size) (ho2 : w2.ownsRow n T D.k lv' (xs.length + m + k) (cs ++ cx ++ cy)) : GM D T n R K V w2 lv' xs (m + k) (cx ++ cy) ∧ RmAt w2 R lo K V N := by
  have hoff : ∀ g, lv.ownBlock = some g → g ≠ R ∧ ∀ j, j < 21 → (K j).ownBlock ≠ some g := fun g e => by
    obtain ⟨cs', f, hg⟩ := own_tagged ho e
    exact hR.off hg hT
  have h3 := hE.fr hgr.size (fun b hb hlt => hgr.block b hlt hb.2.2.2.2)
  refine ⟨⟨⟨cs, by rw [← Nat.add_assoc, ← List.append_assoc]; exact ho2, h3.mo (fun b _ hb => ⟨hb.1, Nat.lt_of_lt_of_le hb.2.1 hgr.size, hb.2.2.1, hb.2.2.2.1, ?_⟩)⟩, fun j hj v hvv g e e' => ?_⟩, hR.other hgr (fun e => (hoff R e).1 rfl) (fun j hj g e => (hoff g e).2 j hj) (fun j hj v hvv g e => hv j hj v hvv g e)⟩
  · rcases hat with h | h
    · rw [h]; exact hb.2.2.2.2
    · rw [h]; intro e; injection e with e; have := hb.2.1; omega
  · rcases hat with h | h
    · exact hv j hj v hvv g (h ▸ e) e'
    · rw [h] at e
      have := Option.some.inj e
      have := (hR.mks j hj v hvv).lt e'
      omega
/-- The marks, one behind the other. -/
def mks (j m : Nat) : List Value := (List.range m).flatMap (rmMk j)
theorem mks_two (j k : Nat) (h : k % 2 = 0) : mks j (k + 2) = mks j k ++ (rmMk0 j (-7701) sOne ++ rmMk0 j (-7702) sTwo) := by
  unfold mks
  rw [List.range_succ, List.range_succ, List.flatMap_append, List.flatMap_append, List.append_assoc]
  have h1 : (k + 1) % 2 ≠ 0 := by omega
  simp [rmMk, h, h1]
theorem rmMk0_len (j : Nat) (n : Int) (s : ByteArray) (h : rmT j ≠ 0) : (rmMk0 j n s).length = rmS j := by
  unfold rmT at h
  unfold rmMk0 rmS
  by_cases h1 : j = 4
  · simp [h1]
  by_cases h2 : j = 6
  · simp [h2]
  by_cases h3 : j = 14
  · simp [h3]
  by_cases h4 : j = 15
  · simp [h4]
  by_cases h5 : j = 16
  · simp [h5]
  by_cases h6 : j = 17
  · simp [h6]
  by_cases h7 : j = 18
  · simp [h7]
  by_cases h8 : j = 19
  · simp [h8]
  by_cases h9 : j = 20
  · simp [h9]
  · simp [h1, h2, h3, h4, h5, h6, h7, h8, h9] at h
theorem rmMk_len (j k : Nat) (h : rmT j ≠ 0) : (rmMk j k).length = rmS j := by
  unfold rmMk
  split
  · exact rmMk0_len _ _ _ h
  · exact rmMk0_len _ _ _ h
theorem mks_len (j m : Nat) (h : rmT j ≠ 0) : (mks j m).length = m * rmS j := by
  induction m with
  | zero => simp [mks]
  | succ m ih =>
    unfold mks at ih ⊢
    rw [List.range_succ, List.flatMap_append, List.length_append, ih]
    simp [rmMk_len j m h, Nat.add_mul]
theorem mks_get (j m k i : Nat) (h : rmT j ≠ 0) (hk : k < m) (hi : i < rmS j) : (mks j m)[k * rmS j + i]? = (rmMk j k)[i]? := by
  induction m with
  | zero => omega
  | succ m ih =>
    have e : mks j (m + 1) = mks j m ++ rmMk j m := by
      unfold mks
      rw [List.range_succ, List.flatMap_append]
      simp
    have hl := mks_len j m h
    rw [e]
    by_cases hkm : k < m
    · rw [List.getElem?_append_left, ih hkm]
      rw [hl]
      have := Nat.mul_le_mul_right (rmS j) (show k + 1 ≤ m from hkm)
      rw [Nat.add_mul] at this
      omega
    · obtain rfl : k = m := by omega
      rw [List.getElem?_append_right (by omega), hl]
      congr 1
      omega
theorem rmE_ne : ∀ j, j < 21 → rmT j ≠ 0 → rmE j ≠ 55 ∧ ∀ i, i < 21 → rmE j ≠ rmT i := by decide
theorem rmT_room : ∀ j, j < 21 → rmT j ≠ 55 := by decide

/-- The list is laid into the room. -/
theorem rm_close {α : Type} {D : Elt α} {R lo N j : Nat} {K0 K : Nat → Value} {V0 V : Nat → List Value} {W0 W w2 : World} {g capN : Nat} {xs : List α} {v' : Value} {o : Obj} (hj : j < 21) (hj0 : rmT j ≠ 0) (hk : D.k = rmS j) (hx : xs.length ≤ 1000000) (hR : RmAt W R lo K V N) (hs : RmStep R K0 V0 K V W0 W)
    (hG : GM D (rmE j) W0.heap.size R K V W (.slice (some ⟨g, 0, none⟩) (xs.length + rmSp j) capN) xs (rmSp j) (mks j (rmSp j)))
    (hown : w2.ownsRow lo (rmT j) 1 v' ((V j).length + 1) (V j ++ [.slice (some ⟨g, 0, none⟩) (xs.length + rmSp j) capN])) (hgr : (W.alloc o).grownBy w2 (K j).ownBlock) (hat : v'.ownBlock = (K j).ownBlock ∨ v'.ownBlock = some (W.alloc o).heap.size) :
    w2.cell? ⟨R, j, none⟩ = some (K j) ∧ w2.frozen? ⟨R, j, none⟩ = false ∧
    RmAt (w2.setCell ⟨R, j, none⟩ v') R lo (upd K j v') (upd V j (V j ++ [.slice (some ⟨g, 0, none⟩) (xs.length + rmSp j) capN])) (N + 1) ∧
    RmStep R K0 V0 (upd K j v') (upd V j (V j ++ [.slice (some ⟨g, 0, none⟩) (xs.length + rmSp j) capN])) W0 (w2.setCell ⟨R, j, none⟩ v') ∧
    RowR D (w2.setCell ⟨R, j, none⟩ v') (fun b => W0.heap.size ≤ b ∧ b < (w2.setCell ⟨R, j, none⟩ v').heap.size ∧ b ≠ R ∧ ∀ i, i < 21 → (upd K j v' i).ownBlock ≠ some b) xs (some ⟨g, 0, none⟩) := by
  have hb1 := World.grownBy_alloc W o none
  have hR1 : RmAt (W.alloc o) R lo K V N := hR.other hb1 (by simp) (fun _ _ _ e => by cases e) (fun _ _ _ _ _ e => by cases e)
  obtain ⟨hE1, hE2⟩ := rmE_ne j hj hj0
  have hTr := rmT_room j hj
  obtain ⟨cs, ho, hEl⟩ := hG.ex
  obtain ⟨rcs, hrow, hrc⟩ := hR1.row
  have hRlt := hR1.lt
  -- the row of the kind is not the room's block
  have hKR : (K j).ownBlock ≠ some R := fun e => by
    obtain ⟨c, f, h⟩ := own_tagged (hR1.own j hj) e
    rw [hrow] at h
    simp only [Option.some.injEq, Obj.cells.injEq] at h
    exact hTr h.2.1.symm
  have hrow2 : w2.heap[R]? = some (.cells rcs 55 (0, 0)) := (hgr.block R hRlt (fun e => hKR e.symm)).trans hrow
  have hvR : v'.ownBlock ≠ some R := fun e => by
    obtain ⟨c, f, h⟩ := own_tagged hown e
    rw [hrow2] at h
    simp only [Option.some.injEq, Obj.cells.injEq] at h
    exact hTr h.2.1.symm
  -- blocks that are neither
  have hkeep : ∀ k, k < W.heap.size → k ≠ R → (K j).ownBlock ≠ some k → (w2.setCell ⟨R, j, none⟩ v').heap[k]? = W.heap[k]? := fun k hk h1 h2 => by
    rw [Below.heap_setCell _ _ _ k (fun e => h1 e), hgr.block k (Nat.lt_of_lt_of_le hk hb1.size) (fun e => h2 e.symm)]
    exact hb1.block k hk (by simp)
  have hsz : W.heap.size ≤ (w2.setCell ⟨R, j, none⟩ v').heap.size := Nat.le_trans hb1.size (Nat.le_trans hgr.size (gr_set w2 R j v').size)
  have hsz1 : W.heap.size ≤ (W.alloc o).heap.size := hb1.size
  have hoff : ∀ {k : Nat} {c : Array Value} {t : TypeId} {f : Nat × Nat}, W.heap[k]? = some (.cells c t f) → (t ≠ 55 ∧ ∀ i, i < 21 → t ≠ rmT i) → (w2.setCell ⟨R, j, none⟩ v').heap[k]? = some (.cells c t f) := fun {k c t f} h hT => by
    obtain ⟨o1, o2⟩ := hR.off h hT
    exact (hkeep k (Array.getElem?_eq_some_iff.1 h).1 o1 (o2 j hj)).trans h
  have hgtag := own_tagged ho (show (Value.slice (some ⟨g, 0, none⟩) (xs.length + rmSp j) capN).ownBlock = some g from rfl)
  obtain ⟨gc, gf, hgh⟩ := hgtag
  obtain ⟨goff1, goff2⟩ := hR.off hgh ⟨hE1, hE2⟩
  have hglt := (Array.getElem?_eq_some_iff.1 hgh).1
  have hgn : W0.heap.size ≤ g := (ho.lt g rfl).1
  have hup : ∀ i, i < 21 → ∀ b, b < W.heap.size → (K i).ownBlock ≠ some b → (upd K j v' i).ownBlock ≠ some b := fun i hi b hb hne => by
    by_cases e : i = j
    · subst e
      rw [upd_same]
      rcases hat with h | h
      · rw [h]; exact hne
      · rw [h]; intro e; have := Option.some.inj e; omega
    · rw [upd_other _ _ e]; exact hne
  refine ⟨?_, frozen_of_row _ _ j _ _ hrow2, ⟨⟨rcs.setIfInBounds j v', heap_setCell_same w2 R j _ _ v' hrow2, fun i hi => ?_⟩, fun i hi => ?_, fun i hi hn => ?_, hR.low, fun i hi v hv => ?_, fun i hi => ?_, fun i hi h0 => ?_⟩, ⟨⟨?_, ?_, ?_, Nat.le_trans hs.fm.size hsz, fun k hk h1 h2 => ?_⟩, fun i hi => ?_, fun i hi v hv => ?_⟩, ?_⟩
  · rw [cell_of_row _ _ j _ _ _ hrow2]
    exact hrc j hj
  · by_cases e : i = j
    · subst e
      rw [upd_same, Array.getElem?_setIfInBounds_self_of_lt]
      have := hrc i hi
      exact (Array.getElem?_eq_some_iff.1 this).1
    · rw [upd_other _ _ e, Array.getElem?_setIfInBounds_ne (fun h => e h.symm)]
      exact hrc i hi
  · by_cases e : i = j
    · subst e
      rw [upd_same, upd_same, List.length_append, List.length_singleton]
      exact hown.kept (gr_set w2 R i v') (.inr hvR)
    · rw [upd_other _ _ e, upd_other _ _ e]
      have h1 := (hR1.own i hi).kept hgr (own_differ (hR1.own j hj) (hR1.own i hi) (fun h => by
        have := rmT_inj j hj i hi (fun h => e h.symm) h
        exact hj0 this))
      refine h1.kept (gr_set w2 R j v') (.inr fun e2 => ?_)
      obtain ⟨c, f, h⟩ := own_tagged (hR1.own i hi) e2
      rw [hrow] at h
      simp only [Option.some.injEq, Obj.cells.injEq] at h
      exact rmT_room i hi h.2.1.symm
  · by_cases e : i = j
    · subst e
      rw [upd_same] at hn
      simp at hn
    · rw [upd_other _ _ e] at hn ⊢
      exact hR.nil i hi hn
  · have hold : ∀ v ∈ V i, MarkV (w2.setCell ⟨R, j, none⟩ v') i v := fun v hv => by
      have hi0 : rmT i ≠ 0 := fun h => by rw [hR.un i hi h] at hv; cases hv
      obtain ⟨g1, n1, cap1, cs1, f1, e1, e2, e3⟩ := hR.mks i hi v hv
      exact ⟨g1, n1, cap1, cs1, f1, e1, hoff e2 (rmE_ne i hi hi0), e3⟩
    by_cases e : i = j
    · subst e
      rw [upd_same] at hv
      rcases List.mem_append.1 hv with hv | hv
      · exact hold v hv
      · rw [List.mem_singleton.1 hv]
        obtain ⟨_, h0 | ⟨g', cap', cur, e1, _, r1, r2, r3, r4, r5⟩⟩ := ho
        · simp at h0
        · simp only [Value.slice.injEq, Option.some.injEq, Addr.mk.injEq, and_true, true_and] at e1
          obtain ⟨rfl, rfl⟩ := e1
          refine ⟨g, xs.length + rmSp i, capN, cur, (0, 0), rfl, hoff r1 ⟨hE1, hE2⟩, by omega, by have : rmSp i ≤ 40 := by { unfold rmSp; split <;> omega }; omega, fun k hk' i2 u hu => ?_⟩
          have hi2 : i2 < rmS i := by
            have := (List.getElem?_eq_some_iff.1 hu).1
            rwa [rmMk_len i k hj0] at this
          have hcs := hEl.1
          rw [hk] at hcs r5
          have h6 : (cs ++ mks i (rmSp i))[xs.length * rmS i + (k * rmS i + i2)]? = some u := by
            rw [List.getElem?_append_right (by omega), hcs, Nat.add_sub_cancel_left, mks_get i _ k i2 hj0 hk' hi2]
            exact hu
          rw [← r5] at h6
          rw [List.getElem?_take] at h6
          split at h6
          · rw [show (xs.length + rmSp i - rmSp i + k) * rmS i + i2 = xs.length * rmS i + (k * rmS i + i2) by rw [Nat.add_sub_cancel, Nat.add_mul]; omega]
            simpa using h6
          · cases h6
    · rw [upd_other _ _ e] at hv
      exact hold v hv
  · by_cases e : i = j
    · subst e
      rw [upd_same, List.length_append, List.length_singleton]
      have := hR.few i hi
      omega
    · rw [upd_other _ _ e]
      have := hR.few i hi
      omega
  · by_cases e : i = j
    · subst e
      exact absurd h0 hj0
    · rw [upd_other _ _ e]; exact hR.un i hi h0
  · exact ((gr_set w2 R j v').os.trans (hgr.os.trans hb1.os)).trans hs.fm.os
  · exact ((gr_set w2 R j v').tape.trans (hgr.tape.trans hb1.tape)).trans hs.fm.tape
  · exact ((gr_set w2 R j v').output.trans (hgr.output.trans hb1.output)).trans hs.fm.output
  · refine (hkeep k (Nat.lt_of_lt_of_le hk hs.fm.size) h1 (fun e => ?_)).trans (hs.fm.block k hk h1 h2)
    rcases hs.ks j hj with e' | ⟨g', e', hg'⟩
    · exact h2 j hj (e'.symm.trans e)
    · rw [e'] at e
      have := Option.some.inj e
      omega
  · by_cases e : i = j
    · subst e
      rw [upd_same]
      rcases hat with h | h
      · rw [h]; exact hs.ks i hi
      · exact .inr ⟨_, h, Nat.le_trans hs.fm.size hsz1⟩
    · rw [upd_other _ _ e]; exact hs.ks i hi
  · by_cases e : i = j
    · subst e
      rw [upd_same] at hv
      rcases List.mem_append.1 hv with hv | hv
      · exact hs.vs i hi v hv
      · rw [List.mem_singleton.1 hv]
        exact .inr ⟨g, rfl, hgn⟩
    · rw [upd_other _ _ e] at hv
      exact hs.vs i hi v hv
  · refine .inr ⟨g, 0, cs, rfl, ⟨hgn, Nat.lt_of_lt_of_le hglt hsz, goff1, fun i hi => hup i hi g hglt (goff2 i hi)⟩, Nat.lt_of_lt_of_le hglt hsz, fun q hq => ?_, ?_⟩
    · rw [Nat.zero_add]
      have hc : (w2.setCell ⟨R, j, none⟩ v').cell? ⟨g, q, none⟩ = W.cell? ⟨g, q, none⟩ := World.cell?_of_block (hkeep g hglt goff1 (goff2 j hj))
      rw [hc, ho.cellAt q (by rw [hEl.1] at hq; have := Nat.mul_le_mul_right D.k (show xs.length ≤ xs.length + rmSp j by omega); omega), List.getElem?_append_left hq]
    · refine (hEl.fr hsz (fun b hb hlt => hkeep b hlt hb.2.2.1 (hb.2.2.2.1 j hj))).mo (fun b _ hb => ⟨hb.1, Nat.lt_of_lt_of_le hb.2.1 hsz, hb.2.2.1, fun i hi => hup i hi b hb.2.1 (hb.2.2.2.1 i hi)⟩)
/-- A new room. -/
theorem rm_new (W : World) (cs : Array Value) (hc : ∀ j, j < 21 → cs[j]? = some (.slice none 0 0)) : RmAt (W.alloc (.cells cs 55)) W.heap.size W.heap.size (fun _ => .slice none 0 0) (fun _ => []) 0 :=
  ⟨⟨cs, heap_alloc_new W _, hc⟩, fun _ _ => World.ownsRow_nil _ _ _ _, fun _ _ _ => rfl, Nat.le_refl _, fun _ _ v hv => (by cases hv), fun _ _ => Nat.le_refl _, fun _ _ _ => rfl⟩

end Go.Proofs.YthnmjafoplfikaaGreatDoor
