import Derived.Test.YtekapipfaahhcaaGreatDoorProg
import Derived.WalkKit
import Derived.WalkSpells
import Derived.WalkSmall
import Derived.Laws.Rows
import Derived.Handy
import Derived.Maps.AppendAt
import Derived.Laws.OwnMore
import Derived.OwnWalk
import Derived.Deep.Onto
import Derived.Below
import Derived.Laws.StructEq
/- levykept.Book in memory. -/
namespace Go.Proofs.YtekapipfaahhcaaGreatDoor.KB
open Go.RowKit
set_option linter.constructorNameAsVariable false

/-- The book's cells: f k j: the j-th list of the k-th kind (Out, Told, Waits, Note, Fresh, Mark, Due, From). -/
def bkC (turn deep : Int) (f : Nat → Nat → Value) (seen : Nat → Int) (i : Nat) : Value :=
  if i = 0 then .bool false else if i = 1 then .bool false else if i = 2 then .int .i64 turn else if i = 3 then .int .i64 deep
  else if (i - 4) % 9 = 8 then .int .i64 (seen ((i - 4) / 9)) else f ((i - 4) / 9) ((i - 4) % 9)
def bkCs (turn deep : Int) (f : Nat → Nat → Value) (seen : Nat → Int) : Array Value := ((List.range 220).map (bkC turn deep f seen)).toArray
def BkAt (W : World) (bb : Nat) (turn deep : Int) (f : Nat → Nat → Value) (seen : Nat → Int) : Prop := W.heap[bb]? = some (.cells (bkCs turn deep f seen) 50 (0, 0))
def upd (f : Nat → Nat → Value) (k j : Nat) (v : Value) : Nat → Nat → Value := fun k' j' => if k' = k ∧ j' = j then v else f k' j'
def updS (s : Nat → Int) (k : Nat) (v : Int) : Nat → Int := fun k' => if k' = k then v else s k'
/-- A kind of which there is nothing. -/
def Nil (f : Nat → Nat → Value) (k : Nat) : Prop := ∀ j, f k j = .slice none 0 0
theorem bkCs_get (turn deep : Int) (f : Nat → Nat → Value) (seen : Nat → Int) {i : Nat} (h : i < 220) : (bkCs turn deep f seen)[i]? = some (bkC turn deep f seen i) := by simp [bkCs, h]
theorem bkCs_size (turn deep : Int) (f : Nat → Nat → Value) (seen : Nat → Int) : (bkCs turn deep f seen).size = 220 := by simp [bkCs]
section
variable {W X : World} {bb : Nat} {turn deep : Int} {f : Nat → Nat → Value} {seen : Nat → Int}
theorem BkAt.cell (h : BkAt W bb turn deep f seen) {i : Nat} (hi : i < 220) : W.cell? ⟨bb, i, none⟩ = some (bkC turn deep f seen i) := (cell_of_row _ _ i _ _ _ h).trans (bkCs_get _ _ _ _ hi)
theorem BkAt.fz (h : BkAt W bb turn deep f seen) (i : Nat) : W.frozen? ⟨bb, i, none⟩ = false := frozen_of_row _ _ i _ _ h
theorem BkAt.lt (h : BkAt W bb turn deep f seen) : bb < W.heap.size := (Array.getElem?_eq_some_iff.1 h).1
theorem cs_ext {A : Array Value} (hs : A.size = 220) (hg : ∀ i, i < 220 → A[i]? = some (bkC turn deep f seen i)) : A = bkCs turn deep f seen := by
  apply Array.ext_getElem?
  intro i
  by_cases hi : i < 220
  · rw [hg i hi, bkCs_get _ _ _ _ hi]
  · rw [Array.getElem?_eq_none (by omega), Array.getElem?_eq_none (by rw [bkCs_size]; omega)]
theorem BkAt.setAny {turn' deep' : Int} {f' : Nat → Nat → Value} {seen' : Nat → Int} (h : BkAt W bb turn deep f seen) {i : Nat} (hi : i < 220) {v : Value} (hv : bkC turn' deep' f' seen' i = v) (ho : ∀ j, j < 220 → j ≠ i → bkC turn' deep' f' seen' j = bkC turn deep f seen j) : BkAt (W.setCell ⟨bb, i, none⟩ v) bb turn' deep' f' seen' := by
  unfold BkAt
  rw [heap_setCell_same _ _ i _ _ _ h]
  congr 2
  refine cs_ext (by rw [Array.size_setIfInBounds, bkCs_size]) (fun j hj => ?_)
  rw [Array.getElem?_setIfInBounds]
  by_cases e : i = j
  · subst e
    rw [if_pos rfl, if_pos (by rw [bkCs_size]; exact hi), hv]
  · rw [if_neg e, bkCs_get _ _ _ _ hj, ho j hj (fun e' => e e'.symm)]
theorem BkAt.set (h : BkAt W bb turn deep f seen) {k j : Nat} (hk : k < 24) (hj : j < 8) (v : Value) : BkAt (W.setCell ⟨bb, 4 + 9 * k + j, none⟩ v) bb turn deep (upd f k j v) seen := by
  have e1 : (4 + 9 * k + j - 4) % 9 = j := by omega
  have e2 : (4 + 9 * k + j - 4) / 9 = k := by omega
  refine h.setAny (by omega) ?_ (fun i hi hne => ?_)
  · unfold bkC
    rw [if_neg (by omega), if_neg (by omega), if_neg (by omega), if_neg (by omega), if_neg (by omega), e1, e2, upd, if_pos ⟨rfl, rfl⟩]
  · unfold bkC
    split
    · rfl
    split
    · rfl
    split
    · rfl
    split
    · rfl
    split
    · rfl
    rw [upd, if_neg (by omega)]
theorem BkAt.setSeen (h : BkAt W bb turn deep f seen) {k : Nat} (hk : k < 24) (v : Int) : BkAt (W.setCell ⟨bb, 4 + 9 * k + 8, none⟩ (.int .i64 v)) bb turn deep f (updS seen k v) := by
  refine h.setAny (by omega) ?_ (fun i hi hne => ?_)
  · unfold bkC
    rw [if_neg (by omega), if_neg (by omega), if_neg (by omega), if_neg (by omega), if_pos (by omega), updS, if_pos (by omega)]
  unfold bkC
  by_cases h0 : i = 0
  · rw [if_pos h0, if_pos h0]
  rw [if_neg h0, if_neg h0]
  by_cases h1 : i = 1
  · rw [if_pos h1, if_pos h1]
  rw [if_neg h1, if_neg h1]
  by_cases h2 : i = 2
  · rw [if_pos h2, if_pos h2]
  rw [if_neg h2, if_neg h2]
  by_cases h3 : i = 3
  · rw [if_pos h3, if_pos h3]
  rw [if_neg h3, if_neg h3]
  by_cases h8 : (i - 4) % 9 = 8
  · rw [if_pos h8, if_pos h8, updS, if_neg (by omega)]
  rw [if_neg h8, if_neg h8]
theorem BkAt.setTurn (h : BkAt W bb turn deep f seen) (v : Int) : BkAt (W.setCell ⟨bb, 2, none⟩ (.int .i64 v)) bb v deep f seen := by
  refine h.setAny (by omega) rfl (fun i hi hne => ?_)
  unfold bkC
  by_cases h0 : i = 0
  · rw [if_pos h0, if_pos h0]
  rw [if_neg h0, if_neg h0]
  by_cases h1 : i = 1
  · rw [if_pos h1, if_pos h1]
  rw [if_neg h1, if_neg h1]
  rw [if_neg hne, if_neg hne]
theorem BkAt.setDeep (h : BkAt W bb turn deep f seen) (v : Int) : BkAt (W.setCell ⟨bb, 3, none⟩ (.int .i64 v)) bb turn v f seen := by
  refine h.setAny (by omega) rfl (fun i hi hne => ?_)
  unfold bkC
  by_cases h0 : i = 0
  · rw [if_pos h0, if_pos h0]
  rw [if_neg h0, if_neg h0]
  by_cases h1 : i = 1
  · rw [if_pos h1, if_pos h1]
  rw [if_neg h1, if_neg h1]
  by_cases h2 : i = 2
  · rw [if_pos h2, if_pos h2]
  rw [if_neg h2, if_neg h2]
  rw [if_neg hne, if_neg hne]
/-- A cell that is set to what it holds. -/
theorem set_same (w : World) (g i : Nat) (cs : Array Value) (t : TypeId) (v : Value) (hg : w.heap[g]? = some (.cells cs t (0, 0))) (hv : cs[i]? = some v) : w.setCell ⟨g, i, none⟩ v = w := by
  have hh : (w.setCell ⟨g, i, none⟩ v).heap = w.heap := by
    apply Array.ext_getElem?
    intro k
    by_cases e : k = g
    · subst e
      rw [heap_setCell_same w k i cs t v hg, hg]
      congr 2
      apply Array.ext_getElem?
      intro j
      rw [Array.getElem?_setIfInBounds]
      by_cases e : i = j
      · subst e
        rw [if_pos rfl, if_pos (Array.getElem?_eq_some_iff.1 hv).1, hv]
      · rw [if_neg e]
    · exact heap_setCell_other w ⟨g, i, none⟩ k v e
  cases w
  simp only [World.setCell] at hh ⊢
  simp_all
end
end Go.Proofs.YtekapipfaahhcaaGreatDoor.KB


/- Rows of the book's own, apart from one another. -/
namespace Go.Proofs.YtekapipfaahhcaaGreatDoor.KB
open Go.RowKit
set_option linter.constructorNameAsVariable false

/-- A fact that the walk does not see. -/
structure Hid (p : Prop) : Prop where
  out : p
def StopJ (P : Prop) : Prop := P
theorem stopJ {P : Prop} (h : StopJ P) : P := h
/-- An append leaves what the old slice shows. -/
theorem append_keeps {P : Program} (w : World) (base : Nat) (t ty e : TypeId) (i : TypeInfo) (z : Value) (size bytes : Nat) (ht : P.underlying t = some (.slice e)) (hi : P.info? e = some i) (hz : i.zero = some z)
    (hsize : i.size = size) (hby : i.bytes = bytes) (hzs : z.cells.size = size) (hsz : 0 < size)
    (v : Value) (n : Nat) (xs : List Value) (hown : w.ownsRow base e size v n xs)
    (a : Addr) (m c : Nat) (news : List Value) (hl : news.length = m * size) (hnews : ∀ j u, news[j]? = some u → w.cell? (a.add j) = some u) (h1 : ∀ u ∈ news, u.oneCell' = true)
    (h63 : n + m ≤ maxLen) (hbytes : (n + m) * bytes ≤ 140737488355328) (hbase : base ≤ w.heap.size) :
    ∃ v' w', (Builtin.append_ #[t, t] ty #[v, .slice (some a) m c]).run P w = .ok v' w' ∧ w'.ownsRow base e size v' (n + m) (xs ++ news) ∧ w.grownBy w' v.ownBlock ∧ (v'.ownBlock = v.ownBlock ∨ v'.ownBlock = some w.heap.size) ∧ ∀ g j u, v.ownBlock = some g → xs[j]? = some u → w'.cell? ⟨g, j, none⟩ = some u := by
  obtain ⟨v', w', hr, h2, h3, -, h5⟩ := run_append_own_at (P := P) w base t ty e i z size bytes ht hi hz hsize hby hzs hsz v n xs hown a m c news hl hnews h1 h63 hbytes hbase
  refine ⟨v', w', hr, h2, h3, h5, fun g j u hg hu => ?_⟩
  have hj := (List.getElem?_eq_some_iff.1 hu).1
  have hxl := hown.1
  rcases hown.2 with ⟨rfl, -⟩ | ⟨g', cap, cur, rfl, hbg, hrow, hnc, hcm, hcs, htake⟩
  · cases hg
  · obtain rfl : g' = g := by simpa [Value.ownBlock] using hg
    subst hsize
    by_cases hroom : n + m ≤ cap
    · have hfit : n * i.size + news.length ≤ cur.size := by rw [hl, hcs, ← Nat.add_mul]; exact Nat.mul_le_mul_right _ hroom
      have hr2 := run_append_room (P := P) w t ty e i ht hi g' n cap cur hrow a m c news hl hnews h1 hroom hfit
      rw [hr] at hr2
      injection hr2 with e1 e2
      subst e1
      rw [h2.cellAt j (by rw [Nat.add_mul]; omega), List.getElem?_append_left hj]
      exact hu
    · have holds : ∀ j u, xs[j]? = some u → w.cell? ((⟨g', 0, none⟩ : Addr).add j) = some u := hown.cells (g := g') rfl
      have hsm : n + m ≤ 9223372036854775807 := by simp only [maxLen] at h63; omega
      subst hby
      have hr2 := run_append_grow (P := P) w t ty e i z ht hi hz ⟨g', 0, none⟩ n cap xs hown.1 holds a m c news hl hnews (by omega) (by omega) (growslice_fits (by omega) hbytes)
      rw [hr] at hr2
      injection hr2 with e1 e2
      subst e2
      have hlt := (Array.getElem?_eq_some_iff.1 hrow).1
      have hc := (hown.cellAt j (by omega)).trans hu
      have hb : (w.drew.alloc (.cells (xs.toArray ++ news.toArray ++ Builtin.zeroCells z.cells (grownCap w (n + m) cap e - (n + m))) e)).heap[g']? = w.drew.heap[g']? := heap_alloc_old _ _ hlt
      simp only [World.cell?, hb] at hc ⊢
      exact hc

/-- Only blocks of S may have changed. -/
structure GrS (S : Nat → Prop) (W W' : World) : Prop where
  os : W'.os = W.os
  tape : W'.tape = W.tape
  output : W'.output = W.output
  size : W.heap.size ≤ W'.heap.size
  block : ∀ k, k < W.heap.size → ¬ S k → W'.heap[k]? = W.heap[k]?
theorem GrS.of_grown {S : Nat → Prop} {W W' : World} {b : Option Nat} (h : W.grownBy W' b) (hb : ∀ k, b = some k → S k) : GrS S W W' := ⟨h.os, h.tape, h.output, h.size, fun k hk hn => h.block k hk (fun e => hn (hb k e.symm))⟩
theorem GrS.of_below {S : Nat → Prop} {W W' : World} (h : Below W.heap.size W W') : GrS S W W' := ⟨h.os, h.tape, h.output, h.size, fun k hk _ => h.block k hk⟩
theorem GrS.trans {S : Nat → Prop} {W X Y : World} (h : GrS S W X) (h' : GrS S X Y) : GrS S W Y := ⟨h'.os.trans h.os, h'.tape.trans h.tape, h'.output.trans h.output, Nat.le_trans h.size h'.size, fun k hk hn => (h'.block k (Nat.lt_of_lt_of_le hk h.size) hn).trans (h.block k hk hn)⟩
theorem GrS.mono {S T : Nat → Prop} {W W' : World} (h : GrS S W W') (hs : ∀ k, k < W.heap.size → S k → T k) : GrS T W W' := ⟨h.os, h.tape, h.output, h.size, fun k hk hn => h.block k hk (fun e => hn (hs k hk e))⟩
theorem GrS.cell {S : Nat → Prop} {W W' : World} (h : GrS S W W') {b o : Nat} (hl : b < W.heap.size) (hn : ¬ S b) : W'.cell? ⟨b, o, none⟩ = W.cell? ⟨b, o, none⟩ := by
  have := h.block b hl hn
  simp only [World.cell?, this]
theorem GrS.below {S : Nat → Prop} {W W' : World} (h : GrS S W W') {lo : Nat} (hl : lo ≤ W.heap.size) (hs : ∀ k, S k → lo ≤ k) : Below lo W W' := ⟨h.os, h.tape, h.output, h.size, fun k hk => h.block k (Nat.lt_of_lt_of_le hk hl) (fun e => absurd (hs k e) (by omega))⟩
theorem GrS.own {S : Nat → Prop} {W W' : World} (h : GrS S W W') {base n size : Nat} {e : TypeId} {v : Value} {xs : List Value} (ho : W.ownsRow base e size v n xs) (hn : ∀ g, v.ownBlock = some g → ¬ S g) : W'.ownsRow base e size v n xs := by
  obtain ⟨q1, q2 | ⟨g, cap, cur, rfl, hb, r, rest⟩⟩ := ho
  · exact ⟨q1, .inl q2⟩
  · exact ⟨q1, .inr ⟨g, cap, cur, rfl, hb, (h.block g (Array.getElem?_eq_some_iff.1 r).1 (hn g rfl)).trans r, rest⟩⟩
theorem grS_set (W : World) (b o : Nat) (v : Value) : GrS (fun k => k = b) W (W.setCell ⟨b, o, none⟩ v) := ⟨rfl, rfl, rfl, by simp, fun k _ hn => heap_setCell_other W ⟨b, o, none⟩ k v hn⟩

/-- Tokens. -/
abbrev Tk := Int × Int × ByteArray × Int × Int
def tkL (x : Tk) : List Value := [.int .i64 x.1, .int .i64 x.2.1, .string x.2.2.1, .int .i64 x.2.2.2.1, .int .i64 x.2.2.2.2]
def tkLs (L : List Tk) : List Value := L.flatMap tkL
theorem tkLs_len (L : List Tk) : (tkLs L).length = L.length * 5 := by
  induction L with
  | nil => rfl
  | cons x L ih =>
    show (tkL x ++ tkLs L).length = _
    rw [List.length_append, ih, List.length_cons]
    simp only [tkL, List.length_cons, List.length_nil]
    omega
theorem tkLs_app (L M : List Tk) : tkLs (L ++ M) = tkLs L ++ tkLs M := by simp [tkLs]
theorem tkLs_get (L : List Tk) (j i : Nat) (hj : j < L.length) (hi : i < 5) : (tkLs L)[j * 5 + i]? = (tkL L[j])[i]? := by
  induction L generalizing j with
  | nil => simp at hj
  | cons x L ih =>
    have hl : (tkL x).length = 5 := rfl
    show (tkL x ++ tkLs L)[j * 5 + i]? = _
    cases j with
    | zero =>
      rw [List.getElem?_append_left (by omega)]
      simp
    | succ j =>
      rw [List.getElem?_append_right (by omega), hl, show (j + 1) * 5 + i - 5 = j * 5 + i from by omega, ih j (by simpa using hj)]
      simp
/-- What a slice shows, in blocks that nobody writes into. -/
def RwZ (W : World) (Z : Nat → Prop) (v : Value) (L : List Tk) : Prop := ∃ a c, v = .slice a L.length c ∧ (L = [] ∨ ∃ b, a = some ⟨b, 0, none⟩ ∧ Z b ∧ b < W.heap.size ∧ ∀ j u, (tkLs L)[j]? = some u → W.cell? ⟨b, j, none⟩ = some u)
theorem RwZ.grS {W W' : World} {Z U : Nat → Prop} {v : Value} {L : List Tk} (h : RwZ W Z v L) (hg : GrS U W W') (hU : ∀ b, Z b → ¬ U b) : RwZ W' Z v L := by
  obtain ⟨a, c, rfl, h | ⟨b, rfl, hz, hb, hc⟩⟩ := h
  · exact ⟨a, c, rfl, .inl h⟩
  · exact ⟨_, c, rfl, .inr ⟨b, rfl, hz, Nat.lt_of_lt_of_le hb hg.size, fun j u hu => (hg.cell hb (hU b hz)).trans (hc j u hu)⟩⟩
theorem RwZ.more {W : World} {Z Z' : Nat → Prop} {v : Value} {L : List Tk} (h : RwZ W Z v L) (hZ : ∀ b, Z b → Z' b) : RwZ W Z' v L := by
  obtain ⟨a, c, rfl, h | ⟨b, rfl, hz, hb, hc⟩⟩ := h
  · exact ⟨a, c, rfl, .inl h⟩
  · exact ⟨_, c, rfl, .inr ⟨b, rfl, hZ b hz, hb, hc⟩⟩
theorem RwZ.of_own {W : World} {base : Nat} {v : Value} {L : List Tk} (h : W.ownsRow base 66 5 v L.length (tkLs L)) : RwZ W (fun b => v.ownBlock = some b) v L := by
  have h0 := h
  obtain ⟨q, ⟨rfl, hn⟩ | ⟨g, cap, cur, rfl, hb, r, -⟩⟩ := h0
  · exact ⟨none, 0, by rw [hn], .inl (List.length_eq_zero_iff.1 hn)⟩
  · exact ⟨_, cap, rfl, .inr ⟨g, rfl, rfl, (Array.getElem?_eq_some_iff.1 r).1, fun j u hu => (h.cellAt j (by have := (List.getElem?_eq_some_iff.1 hu).1; rw [tkLs_len] at this; omega)).trans hu⟩⟩
theorem eqTok (a b n d : Int) (t : ByteArray) (w : World) : (Op.equalIn 10000 66 (.agg #[.int .i64 a, .int .i64 b, .string t, .int .i64 n, .int .i64 d]) (.agg #[.int .i64 a, .int .i64 b, .string t, .int .i64 n, .int .i64 d])).run Tryz.prog w = .ok true w := by
  have hS : Tryz.prog.underlying 66 = some (.struct (Tryz.prog.fieldsOf 66)) := by kernel_rfl
  have hp : Tryz.prog.stoodInHeld 66 = false := by kernel_rfl
  rw [show (10000 : Nat) = 9999 + 1 from rfl, run_equalIn_agg w 9999 66 _ _ hS hp]
  simp only [Program.fieldsOf, Tryz.underlying66]
  go_simp

set_option maxRecDepth 4000 in
set_option maxHeartbeats 1000000 in
/-- Of two lists that show the same, sameTokens says so. -/
theorem sameTokens_any {Z Y : Nat → Prop} (va vb : Value) (L : List Tk) (hl : L.length ≤ 1000000000) (w : World) (ha : RwZ w Z va L) (hb : RwZ w Y vb L) : Calls Tryz.prog 52 #[va, vb] w fun e w' => e = .returned (.bool true) ∧ Below w.heap.size w w' := by
  obtain ⟨aa, ca, rfl, hda⟩ := ha
  obtain ⟨ab, cb, rfl, hdb⟩ := hb
  have heq := eqTok
  go_enter Tryz.func52, Tryz.ntmps52
  go_wp2
  go_loopw [5] (fun i wr => ∃ j : Nat, j ≤ L.length ∧ i = .int .i64 j ∧ Below w.heap.size w wr) (fun i _ => L.length - (intOf i).toNat)
  case atStart => exact ⟨0, by omega, rfl, Below.refl _ _⟩
  case round =>
    obtain ⟨j, hj, rfl, hbr⟩ := hrel
    by_cases hlt : j < L.length
    · have hlt' : (j : Int) < (L.length : Int) := by omega
      have hj0 : (0 : Int) ≤ (j : Int) := by omega
      obtain ⟨ba, rfl, -, hla, hca⟩ := hda.resolve_left (fun e => by rw [e] at hlt; simp at hlt)
      obtain ⟨bb, rfl, -, hlb, hcb⟩ := hdb.resolve_left (fun e => by rw [e] at hlt; simp at hlt)
      have kA : ∀ i u, i < 5 → (tkL L[j])[i]? = some u → wr.cell? ⟨ba, j * 5 + i, none⟩ = some u := fun i u hi hu => (hbr.cell (p := ⟨ba, j * 5 + i, none⟩) hla).trans (hca _ _ ((tkLs_get L j i hlt hi).trans hu))
      have kB : ∀ i u, i < 5 → (tkL L[j])[i]? = some u → wr.cell? ⟨bb, j * 5 + i, none⟩ = some u := fun i u hi hu => (hbr.cell (p := ⟨bb, j * 5 + i, none⟩) hlb).trans (hcb _ _ ((tkLs_get L j i hlt hi).trans hu))
      have a0 := kA 0 _ (by decide) rfl
      have a1 := kA 1 _ (by decide) rfl
      have a2 := kA 2 _ (by decide) rfl
      have a3 := kA 3 _ (by decide) rfl
      have a4 := kA 4 _ (by decide) rfl
      have b0 := kB 0 _ (by decide) rfl
      have b1 := kB 1 _ (by decide) rfl
      have b2 := kB 2 _ (by decide) rfl
      have b3 := kB 3 _ (by decide) rfl
      have b4 := kB 4 _ (by decide) rfl
      rw [Nat.add_zero] at a0 b0
      have hA : ∀ o, Below wr.heap.size wr (wr.alloc o) := fun o => (Below.refl _ _).alloc (Nat.le_refl _) o
      generalize L[j] = x at *
      obtain ⟨x0, x1, x2, x3, x4⟩ := x
      simp only at a0 a1 a2 a3 a4 b0 b1 b2 b3 b4
      have hb1 : Hid (∀ o o', Below w.heap.size w ((wr.alloc o).alloc o')) := ⟨fun o o' => (hbr.alloc hbr.size o).alloc (by simp; exact Nat.le_succ_of_le hbr.size) o'⟩
      have b0' : ∀ o, (wr.alloc o).cell? ⟨bb, j * 5, none⟩ = some (.int .i64 x0) := fun o => ((hA o).cell (p := ⟨bb, j * 5, none⟩) (World.block_lt_of_cell? _ _ b0)).trans b0
      have b1' : ∀ o, (wr.alloc o).cell? ⟨bb, j * 5 + 1, none⟩ = some (.int .i64 x1) := fun o => ((hA o).cell (p := ⟨bb, j * 5 + 1, none⟩) (World.block_lt_of_cell? _ _ b1)).trans b1
      have b2' : ∀ o, (wr.alloc o).cell? ⟨bb, j * 5 + 2, none⟩ = some (.string x2) := fun o => ((hA o).cell (p := ⟨bb, j * 5 + 2, none⟩) (World.block_lt_of_cell? _ _ b2)).trans b2
      have b3' : ∀ o, (wr.alloc o).cell? ⟨bb, j * 5 + 3, none⟩ = some (.int .i64 x3) := fun o => ((hA o).cell (p := ⟨bb, j * 5 + 3, none⟩) (World.block_lt_of_cell? _ _ b3)).trans b3
      have b4' : ∀ o, (wr.alloc o).cell? ⟨bb, j * 5 + 4, none⟩ = some (.int .i64 x4) := fun o => ((hA o).cell (p := ⟨bb, j * 5 + 4, none⟩) (World.block_lt_of_cell? _ _ b4)).trans b4
      clear kA kB hca hcb hA hbr
      go_wp2
      go_roundw
      case rel => exact ⟨j + 1, by omega, by first | rfl | go_num, hb1.out _ _⟩
      case measure => simp [intOf]; omega
    · have hlt' : ¬ (j : Int) < (L.length : Int) := by omega
      go_wp2
      go_ret
      exact ⟨rfl, hbr⟩
end Go.Proofs.YtekapipfaahhcaaGreatDoor.KB
