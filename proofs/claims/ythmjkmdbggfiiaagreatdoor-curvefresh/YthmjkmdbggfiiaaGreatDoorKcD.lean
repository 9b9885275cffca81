import Derived.Test.YthmjkmdbggfiiaaGreatDoorKcC
import Derived.BigQuiet
import Derived.Deep.DeepCutAuto
import Derived.Deep.CutRange
import Derived.Deep.RegionHeld3
import Derived.Deep.DeepMust
import Derived.Laws.AppendOwnNone
/- The lists of one kind in a book. -/
namespace Go.Proofs.YthmjkmdbggfiiaaGreatDoor.KB
open Go.RowKit
set_option linter.constructorNameAsVariable false

/-- A kind: the element's type, the slice's, an element's cells, what is well formed (n things, their cells). -/
structure Kn where
  e : TypeId
  s : TypeId
  z : Nat
  zp : 0 < z
  good : Nat → List Value → Prop
/-- A list that has been written and told: the list, its copy, what it must show. -/
structure Ot where
  v : Value
  t : Value
  n : Nat
  L : List Value
/-- A list that waits: its row's number, its note, what it shows, its mark, when it is due. -/
structure Wt where
  i : Nat
  v : Value
  c : Value
  n : Nat
  L : List Value
  m : Int
  d : Int
/-- A list that is to be laid on. -/
structure Fr where
  i : Nat
  v : Value
  n : Nat
  L : List Value
  m : Int
def intV (l : List Int) : List Value := l.map fun n => .int .i64 n
def spT (K : Kn) (j : Nat) : TypeId := if j ≤ 4 then K.s else 3
def updX (xs : Nat → List Value) (j : Nat) (l : List Value) : Nat → List Value := fun i => if i = j then l else xs i
def xsOf (O : List Ot) (Q : List Wt) (A : List Fr) : Nat → List Value
  | 0 => O.map (·.v)
  | 1 => O.map (·.t)
  | 2 => Q.map (·.v)
  | 3 => Q.map (·.c)
  | 4 => A.map (·.v)
  | 5 => intV (Q.map (·.m))
  | 6 => intV (Q.map (·.d))
  | _ => intV (A.map (·.m))
/-- A row's number that is none of the eight of kind k. -/
def Out (k i : Nat) : Prop := ¬ (8 * k ≤ i ∧ i < 8 * k + 8)
/-- All other kinds' lists are as they were. -/
def Fx (k : Nat) (f f' : Nat → Nat → Value) : Prop := ∀ k', k' ≠ k → ∀ j, f' k' j = f k' j
theorem Fx.refl (k : Nat) (f : Nat → Nat → Value) : Fx k f f := fun _ _ _ => rfl
theorem Fx.trans {k : Nat} {f g h : Nat → Nat → Value} (a : Fx k f g) (b : Fx k g h) : Fx k f h := fun k' hk j => (b k' hk j).trans (a k' hk j)
theorem Fx.upd {k j : Nat} {f g : Nat → Nat → Value} (a : Fx k f g) (v : Value) : Fx k f (upd g k j v) := fun k' hk i => (if_neg (fun e => hk e.1)).trans (a k' hk i)
theorem out_big {k i : Nat} (hk : k < 24) (h : 192 ≤ i) : Out k i := fun e => by omega
section
variable {W : World}
theorem below_step {A B C : World} (h : Below A.heap.size A B) (h' : Below B.heap.size B C) : Below A.heap.size A C := h.trans (h'.mono h.size)
theorem own_len {base n size : Nat} {e : TypeId} {v : Value} {xs : List Value} (h : W.ownsRow base e size v n xs) : ∃ a c, v = .slice a n c ∧ (0 < n → ∃ g, a = some ⟨g, 0, none⟩ ∧ g < W.heap.size ∧ ∀ j u, j < n * size → xs[j]? = some u → W.cell? ⟨g, j, none⟩ = some u) := by
  have h0 := h
  obtain ⟨q, ⟨rfl, hn⟩ | ⟨g, cap, cur, rfl, hb, r, -⟩⟩ := h0
  · exact ⟨none, 0, by rw [hn], fun hp => by omega⟩
  · exact ⟨_, cap, rfl, fun _ => ⟨g, rfl, (Array.getElem?_eq_some_iff.1 r).1, fun j u hj hu => (h.cellAt j hj).trans hu⟩⟩
end
theorem own_sl {W : World} {base n size : Nat} {e : TypeId} {v : Value} {xs : List Value} (h : W.ownsRow base e size v n xs) : ∃ a c, v = .slice a n c := by
  obtain ⟨a, c, e, -⟩ := own_len h
  exact ⟨a, c, e⟩
section
variable {W X : World} {lo bb : Nat} {Z : Nat → Prop} {r : Nat → Row} {fz : List (Value × Nat × List Value)} {turn deep : Int} {f : Nat → Nat → Value} {seen : Nat → Int}
theorem BkAt.grS {U : Nat → Prop} (h : BkAt W bb turn deep f seen) (hg : GrS U W X) (hb : ¬ U bb) : BkAt X bb turn deep f seen := (hg.block bb h.lt hb).trans h
theorem bkC_at (k j : Nat) (hj : j < 8) : bkC turn deep f seen (4 + 9 * k + j) = f k j := by
  unfold bkC
  rw [if_neg (by omega), if_neg (by omega), if_neg (by omega), if_neg (by omega), if_neg (by omega)]
  congr 1 <;> omega
/-- One thing more in one of the book's lists. -/
theorem push (hk : BkAt W bb turn deep f seen) (hs : Sep W lo bb Z r fz) {i k j n : Nat} {e : TypeId} {xs : List Value} (hk24 : k < 24) (hj8 : j < 8) (hr : r i = ⟨e, 1, f k j, n, xs⟩) {x v' : Value} {w' : World} (ho : w'.ownsRow lo e 1 v' (n + 1) (xs ++ [x])) (hg : (W.alloc (.cells #[x] e)).grownBy w' (f k j).ownBlock) (hat : v'.ownBlock = (f k j).ownBlock ∨ v'.ownBlock = some (W.alloc (.cells #[x] e)).heap.size) {o : Nat} (heo : o = 4 + 9 * k + j) :
    BkAt (w'.setCell ⟨bb, o, none⟩ v') bb turn deep (upd f k j v') seen ∧ Sep (w'.setCell ⟨bb, o, none⟩ v') lo bb Z (updR r i ⟨e, 1, v', n + 1, xs ++ [x]⟩) fz ∧ w'.cell? ⟨bb, o, none⟩ = some (f k j) ∧ w'.frozen? ⟨bb, o, none⟩ = false ∧ GrS (fun b => (f k j).ownBlock = some b ∨ b = bb) W (w'.setCell ⟨bb, o, none⟩ v') := by
  subst heo
  have hA : Below W.heap.size W (W.alloc (.cells #[x] e)) := (Below.refl _ _).alloc (Nat.le_refl _) _
  have hsA := hs.later hA
  have hri : (r i).v = f k j := by rw [hr]
  have hG : GrS (fun b => (f k j).ownBlock = some b) (W.alloc (.cells #[x] e)) w' := .of_grown hg (fun b e => e)
  have hnb : ¬ (f k j).ownBlock = some bb := fun e' => (hs.rz i bb (by rw [hri]; exact e')).2 rfl
  have hkA : BkAt (W.alloc (.cells #[x] e)) bb turn deep f seen := (hA.block _ hk.lt).trans hk
  have hk' : BkAt w' bb turn deep f seen := hkA.grS hG hnb
  have hs' := hsA.app i (x := ⟨e, 1, v', n + 1, xs ++ [x]⟩) ho (by rw [hri]; exact hg) (by rw [hri]; exact hat)
  refine ⟨hk'.set hk24 hj8 v', hs'.book _ _, (hk'.cell (by omega)).trans (congrArg some (bkC_at k j hj8)), hk'.fz _, ?_⟩
  exact ((GrS.of_below hA).trans (hG.mono (fun b _ e => .inl e))).trans ((grS_set w' bb _ v').mono (fun b _ e => .inr e))
/-- A block stands from now on. -/
theorem Sep.addZ (h : Sep X lo bb Z r fz) (b : Nat) (hb : lo ≤ b ∧ b < X.heap.size ∧ b ≠ bb) (hd : ∀ i, (r i).v.ownBlock ≠ some b) (l : Value) (n : Nat) (L : List Value) (hl : RwZ X (fun z => z = b) l n L) : Sep X lo bb (fun z => Z z ∨ z = b) r ((l, n, L) :: fz) := by
  refine ⟨h.own, h.dis, fun i g e => ⟨fun hz => hz.elim (h.rz i g e).1 (fun e' => hd i (by rw [e, e'])), (h.rz i g e).2⟩, fun x hx => ?_, fun z hz => ?_, h.bl⟩
  · rcases List.mem_cons.1 hx with rfl | hx
    · exact hl.more (fun z hz => .inr hz)
    · exact (h.fz x hx).more (fun z hz => .inl hz)
  · rcases hz with hz | rfl
    · exact h.zl z hz
    · exact hb
end
theorem infoIn : (Tryz.prog.info? 3).map (fun i => (i.zero, i.size, i.bytes)) = some (some (.int .i64 0), 1, 8) := by kernel_rfl
theorem info_parts {P : Program} {t : TypeId} {z : Value} {s b : Nat} (h : (P.info? t).map (fun i => (i.zero, i.size, i.bytes)) = some (some z, s, b)) : ∃ i, P.info? t = some i ∧ i.zero = some z ∧ i.size = s ∧ i.bytes = b := by
  cases hi : P.info? t with
  | none => rw [hi] at h; cases h
  | some i =>
    rw [hi] at h
    simp at h
    exact ⟨i, rfl, h.1, h.2.1, h.2.2⟩

set_option maxRecDepth 4000 in
theorem due_any {W : World} {bb : Nat} {turn deep : Int} {f : Nat → Nat → Value} {seen : Nat → Int} (h : BkAt W bb turn deep f seen) (n : Int) : Calls Tryz.prog 58 #[.pointer (some ⟨bb, 0, none⟩), .int .i64 n] W fun e w' => ∃ d : Int, e = .returned (.int .i64 d) ∧ w' = W := by
  have c0 : W.cell? ⟨bb, 0, none⟩ = some (.bool false) := h.cell (i := 0) (by decide)
  have c2 : W.cell? ⟨bb, 2, none⟩ = some (.int .i64 turn) := h.cell (i := 2) (by decide)
  clear h
  by_cases h0 : (Int.tmod n 3 == 0) = true
  · go_enter Tryz.func58, Tryz.ntmps58
    go_wp2
    go_ret
    exact ⟨_, rfl, rfl⟩
  · have h0' : (Int.tmod n 3 == 0) = false := by simpa using h0
    clear h0
    by_cases h1 : (Int.tmod n 3 == 1) = true
    · go_enter Tryz.func58, Tryz.ntmps58
      go_wp2
      go_ret
      exact ⟨_, rfl, rfl⟩
    · have h1' : (Int.tmod n 3 == 1) = false := by simpa using h1
      clear h1
      go_enter Tryz.func58, Tryz.ntmps58
      go_wp2
      go_ret
      exact ⟨_, rfl, rfl⟩
end Go.Proofs.YthmjkmdbggfiiaaGreatDoor.KB
