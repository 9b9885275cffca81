import Derived.Test.YtmklkcefbabhbaaGreatJoin19
import Derived.Test.YtmklkcefbabhbaaGreatTurnPkQj
import Derived.Laws.IdiomStrings
namespace Go.Proofs.YtmklkcefbabhbaaGreat
open Go.RowKit

abbrev AnyB : Nat → Prop := fun _ => True
theorem fo_bel {W W' : World} {n : Nat} {f : Fo} {a : Option Addr} (h : FoAt W AnyB f a) (hB : Below n W W') (hn : W.heap.size ≤ n) : FoAt W' AnyB f a := FoAt.fr hB.size (fun b _ hlt => hB.block b (Nat.lt_of_lt_of_le hlt hn)) f a h
theorem row_bel {α : Type} {D : Elt α} {W W' : World} {n : Nat} {xs : List α} {a : Option Addr} (h : RowR D W AnyB xs a) (hB : Below n W W') (hn : W.heap.size ≤ n) : RowR D W' AnyB xs a := h.fr hB.size (fun b _ hlt => hB.block b (Nat.lt_of_lt_of_le hlt hn))
theorem RowR.some {α : Type} {D : Elt α} {W : World} {S : Nat → Prop} {xs : List α} {a : Option Addr} (h : RowR D W S xs a) {i : Nat} (hi : i < xs.length) : ∃ g o, a = some ⟨g, o, none⟩ := by
  rcases h with h | ⟨g, o, _, e, _⟩
  · rw [h] at hi; simp at hi
  · exact ⟨g, o, e⟩
end Go.Proofs.YtmklkcefbabhbaaGreat


/- levyref6, told in Lean: names, parts, expressions. No program. -/
namespace Go.Proofs.YtmklkcefbabhbaaGreat.R6
open Go.RowKit

def letB (b : UInt8) : Bool := decide (97 ≤ b.toNat) && decide (b.toNat ≤ 122)
def digB (b : UInt8) : Bool := decide (48 ≤ b.toNat) && decide (b.toNat ≤ 57)
def wrdB (b : UInt8) : Bool := letB b || digB b || decide (b.toNat = 95)
def shwB (b : UInt8) : Bool := decide (32 ≤ b.toNat) && decide (b.toNat ≤ 126)
def nmB : List UInt8 → Bool
  | [] => false
  | c :: r => decide ((c :: r).length ≤ 12) && letB c && (c :: r).all wrdB
def txB (s : List UInt8) : Bool := decide (1 ≤ s.length) && decide (s.length ≤ 40) && s.all shwB
abbrev Sn := List (List UInt8)
/-- What a new name is answered. -/
def lkN (all : Sn) (s : List UInt8) : Nat := if nmB s then (if all.contains s then 62 else 0) else 61
/-- The first name of a list that may not be. -/
def nsF (l : Sn) : Sn → Nat → Nat
  | [], _ => 0
  | x :: r, i => if lkN (l.take i) x = 0 then nsF l r (i + 1) else lkN (l.take i) x
def opE (all : Sn) (o : List UInt8 × Sn) : Nat := if lkN all o.1 ≠ 0 then lkN all o.1 else if o.2.length < 1 ∨ 8 < o.2.length then 60 else nsF o.2 o.2 0
def bdB (l : List (Int × Int)) (i : Nat) (b : Int × Int) : Bool := (if i = 0 then decide (b.1 = 0) else decide ((l.getD (i - 1) (0, 0)).1 < b.1)) && decide (b.1 ≤ 9999999999999) && decide (0 ≤ b.2) && decide (b.2 ≤ 1000000)
def rsF (l : List (Int × Int)) : List (Int × Int) → Nat → Bool
  | [], _ => true
  | b :: r, i => bdB l i b && rsF l r (i + 1)
def tbE (all : Sn) (t : List UInt8 × List (Int × Int)) : Nat := if lkN all t.1 ≠ 0 then lkN all t.1 else if t.2.length < 1 ∨ 8 < t.2.length then 60 else if rsF t.2 t.2 0 then 0 else 63
def gpE (all : Sn) (g : List UInt8 × Int) : Nat := if lkN all g.1 ≠ 0 then lkN all g.1 else if g.2 < 1 ∨ 8 < g.2 then 64 else 0
def inG (p : Pk) (g : Int) : Bool := decide (-1 ≤ g) && decide (g < p.grps.length)
def isK (n : Int) : Bool := decide (1 ≤ n) && decide (n ≤ 5)
def zrB (e : Ex) : Bool := decide (e.op = 0) && decide (e.num = 0) && decide (e.den = 0) && decide (e.mode = 0) && decide (e.args.len = 0)
def clB (l : List Cl) (i : Nat) (c : Cl) : Bool := if i = 0 then decide (c.pri = 0) && !c.guarded && zrB c.guard else c.guarded && decide (1 ≤ c.pri) && decide (c.pri ≤ 9) && ((l.take i).drop 1).all (fun a => decide (a.pri ≠ c.pri))
/-- The first clause that may not stand there. -/
def clF (l : List Cl) : List Cl → Nat → Option Nat
  | [], _ => none
  | c :: r, i => if clB l i c then clF l r (i + 1) else some i
def tyB (p : Pk) (l : Ln) : Bool := isK l.type && (if l.type = 5 then decide (0 ≤ l.opts) && decide (l.opts < p.opts.length) else decide (l.opts = -1))
def lnB (l : Ln) : Bool := if l.input then decide (l.cls.length = 0) else decide (1 ≤ l.cls.length) && decide (l.cls.length ≤ 6)
/-- A line: the error and the clause. -/
def lnE (p : Pk) (all : Sn) (l : Ln) : Nat × Int := if lkN all l.name ≠ 0 then (lkN all l.name, -1) else if tyB p l = false then (65, -1) else if inG p l.group = false then (64, -1) else if lnB l = false then (65, -1) else match clF l.cls l.cls 0 with
  | some k => (66, k)
  | none => (0, 0)
def ckE (p : Pk) (all : Sn) (k : Ck) : Nat := if lkN all k.name ≠ 0 then lkN all k.name else if inG p k.group = false then 64 else if txB k.text then 0 else 61
/-- A place: the part, the item, the clause, the path. -/
structure Sp where
  part : Int
  at_ : Int
  clause : Int
  path : List Nat
abbrev Fau := Option (Sp × Nat)
def itF (part i : Nat) : Sp := ⟨part, i, -1, []⟩
/-- The items of a part one by one. -/
def frF {α : Type} (f : Sn → α → Nat) (nm : α → List UInt8) (part : Nat) : List α → Nat → Sn → Sn × Fau
  | [], _, s => (s, none)
  | x :: r, i, s => if f s x = 0 then frF f nm part r (i + 1) (s ++ [nm x]) else (s, some (itF part i, f s x))
def lsF (p : Pk) : List Ln → Nat → Sn → Sn × Fau
  | [], _, s => (s, none)
  | l :: r, i, s => if (lnE p s l).1 = 0 then lsF p r (i + 1) (s ++ [l.name]) else (s, some (⟨5, i, (lnE p s l).2, []⟩, (lnE p s l).1))
def szF (p : Pk) : Fau := if 4 < p.opts.length then some (itF 2 0, 60) else if 4 < p.tabs.length then some (itF 3 0, 60) else if 4 < p.grps.length then some (itF 4 0, 60) else if p.lns.length < 1 ∨ 48 < p.lns.length then some (itF 5 0, 60) else if 16 < p.cks.length then some (itF 6 0, 60) else none
def hdF (p : Pk) : Fau := if nmB p.name then (if p.year < 1900 ∨ 2199 < p.year then some (itF 1 0, 60) else none) else some (itF 1 0, 61)
def rwF (n : Int) : Int := min (max n 0) 8
def at? {α : Type} (l : List α) (n : Int) : Option α := if 0 ≤ n then l[n.toNat]? else none
def ceF (p : Pk) (g : Int) : Int := match at? p.grps g with
  | some r => rwF r.2
  | none => 1
def cesF (p : Pk) : Int := ((p.lns.map (fun l => ceF p l.group)).sum + (p.grps.map (fun g => rwF g.2)).sum) + (p.cks.map (fun c => ceF p c.group)).sum
def paF (p : Pk) : Fau := match hdF p with
  | some f => some f
  | none => match frF opE (·.1) 2 p.opts 0 [] with
  | (_, some f) => some f
  | (s1, none) => match frF tbE (·.1) 3 p.tabs 0 s1 with
  | (_, some f) => some f
  | (s2, none) => match frF gpE (·.1) 4 p.grps 0 s2 with
  | (_, some f) => some f
  | (s3, none) => match lsF p p.lns 0 s3 with
  | (_, some f) => some f
  | (s4, none) => match frF (ckE p) (·.name) 6 p.cks 0 s4 with
  | (_, some f) => some f
  | (_, none) => if 256 < cesF p then some (itF 1 0, 60) else none
/-- Kinds; the path of a fault and its number. -/
abbrev Kd := Int × Int
abbrev Ft := List Nat × Nat
def arF (op : Int) : Int × Int :=
  if 1 ≤ op ∧ op ≤ 12 then (0, 0)
  else if op = 13 ∨ op = 19 ∨ op = 20 ∨ op = 31 ∨ op = 32 then (2, 6)
  else if op = 15 ∨ op = 16 ∨ op = 21 ∨ op = 23 ∨ op = 24 ∨ op = 33 ∨ op = 35 ∨ op = 37 then (1, 1)
  else if op = 22 ∨ op = 34 then (3, 3)
  else if op = 14 ∨ op = 17 ∨ op = 18 ∨ (25 ≤ op ∧ op ≤ 30) ∨ op = 36 ∨ (38 ≤ op ∧ op ≤ 41) then (2, 2)
  else (-1, -1)
def wi (n lo hi : Int) : Bool := decide (lo ≤ n) && decide (n ≤ hi)
def nuB (e : Ex) : Bool :=
  let num := if e.op = 1 then wi e.num (-9999999999999) 9999999999999 else if e.op = 2 then wi e.num (-1000000000) 1000000000 else if e.op = 3 then wi e.num 0 1 else if e.op = 4 then wi e.num 0 109572 else if (5 ≤ e.op ∧ e.op ≤ 12) ∨ e.op = 24 then true else if e.op = 16 then wi e.num (-1000000000) 1000000000 else if e.op = 23 then wi e.num 1 9999999999999 else decide (e.num = 0)
  let den := if e.op = 5 then true else if e.op = 16 then wi e.den 1 1000000000 else decide (e.den = 0)
  let mode := if e.op = 16 ∨ e.op = 18 ∨ e.op = 23 then wi e.mode 1 5 else decide (e.mode = 0)
  num && den && mode
def foB (e : Ex) : Bool := decide (0 ≤ (arF e.op).1) && decide ((arF e.op).1 ≤ e.args.len) && decide ((e.args.len : Int) ≤ (arF e.op).2) && nuB e && (decide (e.op ≠ 35) || (match toL e.args with | a :: _ => decide (a.op = 6) | [] => false))
def lnO (p : Pk) (n : Int) : Option Ln := at? p.lns n
def lnOk (p : Pk) (n : Int) : Bool := match lnO p n with
  | some l => isK l.type
  | none => false
def thB (p : Pk) (g : Int) (e : Ex) : Bool :=
  if e.op = 5 then (match at? p.opts e.den with | some o => decide (0 ≤ e.num) && decide (e.num < o.2.length) | none => false)
  else if e.op = 6 then (match lnO p e.num with | some l => isK l.type && (decide (l.group = -1) || decide (l.group = g)) | none => false)
  else if e.op = 7 ∨ (9 ≤ e.op ∧ e.op ≤ 12) then (match lnO p e.num with | some l => isK l.type && decide (l.group ≠ -1) | none => false)
  else if e.op = 8 then decide (0 ≤ e.num) && decide (e.num < p.grps.length)
  else if e.op = 24 then decide (0 ≤ e.num) && decide (e.num < p.tabs.length)
  else true
def fsF (want : List Int) : List Kd → Nat → Int
  | [], _ => -1
  | k :: r, i => if k.1 = want.getD (if want.length ≤ i then want.length - 1 else i) 0 then fsF want r (i + 1) else i
def alF (days : Bool) (k0 : Int) : List Kd → Nat → Int
  | [], _ => -1
  | k :: r, i => if (k.1 = 1 ∨ k.1 = 2 ∨ (days = true ∧ k.1 = 4)) ∧ k.1 = k0 then alF days k0 r (i + 1) else i
def lineK (l : Ln) : Kd := if l.type = 5 then (5, l.opts) else (l.type, -1)
/-- A leaf's kind, and whether it may be. (A line that is not there is all zero.) -/
def lfK (p : Pk) (e : Ex) : Kd × Bool :=
  let l : Ln := (lnO p e.num).getD ⟨[], false, false, 0, 0, 0, []⟩
  if e.op = 1 then ((1, -1), true) else if e.op = 2 ∨ e.op = 8 then ((2, -1), true) else if e.op = 3 then ((3, -1), true) else if e.op = 4 then ((4, -1), true) else if e.op = 5 then ((5, e.den), true)
  else if e.op = 6 then (lineK l, true) else if e.op = 7 then (lineK l, decide (l.type = 1) || decide (l.type = 2)) else if e.op = 9 ∨ e.op = 10 then (lineK l, decide (l.type ≠ 3) && decide (l.type ≠ 5)) else ((3, -1), decide (l.type = 3))
/-- A node's kind, and the argument that is to blame. -/
def ndK (op : Int) (a : List Kd) : Kd × Int :=
  let k0 := a.getD 0 (0, 0); let k1 := a.getD 1 (0, 0); let k2 := a.getD 2 (0, 0)
  if op = 13 ∨ op = 14 ∨ op = 15 ∨ op = 19 ∨ op = 20 ∨ op = 21 ∨ op = 22 then (k0, alF false k0.1 a 0)
  else if op = 16 ∨ op = 23 ∨ op = 24 then ((1, -1), fsF [1] a 0)
  else if op = 17 ∨ op = 18 then ((1, -1), fsF [1, 2] a 0)
  else if 27 ≤ op ∧ op ≤ 30 then ((3, -1), alF true k0.1 a 0)
  else if op = 31 ∨ op = 32 ∨ op = 33 then ((3, -1), fsF [3] a 0)
  else if op = 35 then ((3, -1), -1)
  else if op = 37 ∨ op = 38 ∨ op = 39 ∨ op = 41 then ((2, -1), fsF [4] a 0)
  else if op = 40 then ((4, -1), fsF [4, 2] a 0)
  else if op = 34 then (k1, if k0.1 ≠ 3 then 0 else if k1 ≠ k2 then 2 else -1)
  else if op = 36 then (k0, if k0 ≠ k1 then 1 else -1)
  else ((3, -1), if k0 ≠ k1 then 1 else -1)
def wrK (p : Pk) (e : Ex) (a : List Kd) : Except Ft Kd :=
  if a.length = 0 then (if (lfK p e).2 then .ok (lfK p e).1 else .error ([], 69))
  else if 0 ≤ (ndK e.op a).2 then .error ([(ndK e.op a).2.toNat], 69) else .ok (ndK e.op a).1
def kFo (f : Ex → Nat → Nat × Except Ft Kd) : List Ex → Nat → Nat → List Kd → Nat × Except Ft (List Kd)
  | [], _, n, acc => (n, .ok acc)
  | x :: l, i, n, acc => match f x n with
    | (m, .error e) => (m, .error (i :: e.1, e.2))
    | (m, .ok k) => kFo f l (i + 1) m (acc ++ [k])
/-- The kind of an expression: how many nodes were met then. d: how much deeper it may go. -/
def kiF (p : Pk) (g : Int) : Nat → Ex → Nat → Nat × Except Ft Kd
  | 0, _, n => (n + 1, .error ([], 60))
  | d + 1, x, n =>
    if 60 < n + 1 then (n + 1, .error ([], 60))
    else if foB x = false then (n + 1, .error ([], 67))
    else if thB p g x = false then (n + 1, .error ([], 68))
    else match kFo (kiF p g d) (toL x.args) 0 (n + 1) [] with
      | (m, .error e) => (m, .error e)
      | (m, .ok ks) => (m, wrK p x ks)
def tyF (p : Pk) (g : Int) (x : Ex) : Except Ft Kd := (kiF p g 8 x 0).2
def noF : Fo → Nat
  | .nil => 0
  | .cons _ _ _ _ args rest => 1 + noF args + noF rest
def noE (e : Ex) : Nat := 1 + noF e.args
/-- The next expression: the nodes then, or the path and the fault. -/
def tdF (p : Pk) (g : Int) (must : Kd) (e : Ex) (n : Nat) : Except Ft Nat := match tyF p g e with
  | .error er => .error er
  | .ok k => if k = must then (if 60 < n + noE e then .error ([], 60) else .ok (n + noE e)) else .error ([], 69)
def lcF (p : Pk) (l : Ln) (i : Nat) : List Cl → Nat → Nat → Fau
  | [], _, _ => none
  | c :: r, j, n => match (if 0 < j then tdF p l.group (3, -1) c.guard n else .ok n) with
    | .error er => some (⟨5, i, j, 0 :: er.1⟩, er.2)
    | .ok n1 => match tdF p l.group (lineK l) c.body n1 with
      | .error er => some (⟨5, i, j, 1 :: er.1⟩, er.2)
      | .ok n2 => lcF p l i r (j + 1) n2
def leF (p : Pk) : List Ln → Nat → Fau
  | [], _ => none
  | l :: r, i => match lcF p l i l.cls 0 0 with
    | some f => some f
    | none => leF p r (i + 1)
def keF (p : Pk) : List Ck → Nat → Fau
  | [], _ => none
  | k :: r, i => match tdF p k.group (3, -1) k.when_ 0 with
    | .error er => some (⟨6, i, -1, er.1⟩, er.2)
    | .ok _ => keF p r (i + 1)
/-- The first fault of a pack. -/
def chF (p : Pk) : Fau := match szF p with
  | some f => some f
  | none => match paF p with
  | some f => some f
  | none => match leF p p.lns 0 with
  | some f => some f
  | none => keF p p.cks 0
end Go.Proofs.YtmklkcefbabhbaaGreat.R6


/- Names. -/
namespace Go.Proofs.YtmklkcefbabhbaaGreat.R6
open Go.RowKit

/-- What a call answers; what was there stays. -/
def Lk (v : Value) (W : World) (e : Ending) (W' : World) : Prop := e = .returned v ∧ Below W.heap.size W W'
theorem nmB_cons (c : UInt8) (r : List UInt8) : nmB (c :: r) = (decide ((c :: r).length ≤ 12) && letB c && (c :: r).all wrdB) := rfl
theorem index_any (s : List UInt8) (i : Nat) (hi : i < s.length) (w : World) : (Instr.index 9 (.string ⟨s.toArray⟩) (.int .i64 (i : Int))).run Tryz.prog w = .ok (.int .u8 ((s[i]).toNat : Int)) w := by
  rw [run_index_string w 9 ⟨s.toArray⟩ .i64 i Tryz.underlying9, dif_pos ⟨by omega, by simp [ByteArray.size]; omega⟩]
  rfl
set_option maxRecDepth 20000 in
set_option maxHeartbeats 1000000 in
theorem named_any (s : List UInt8) (W : World) : Calls Tryz.prog 23 #[.string ⟨s.toArray⟩] W fun e W' => e = .returned (.bool (nmB s)) ∧ W' = W := by
  cases s with
  | nil =>
    go_enter Tryz.func23, Tryz.ntmps23
    go_wp2
    go_ret
    exact ⟨rfl, rfl⟩
  | cons c r =>
    have hl1 : ¬ ((c :: r).length : Int) < 1 := by simp only [List.length_cons]; omega
    by_cases h2 : (c :: r).length ≤ 12
    rotate_left
    · have h2' : (12 : Int) < ((c :: r).length : Int) := by omega
      have hf : nmB (c :: r) = false := by rw [nmB_cons, decide_eq_false h2, Bool.false_and, Bool.false_and]
      rw [hf]
      clear hf
      generalize hs : c :: r = s at hl1 h2' ⊢
      go_enter Tryz.func23, Tryz.ntmps23
      go_wp2
      go_ret
      exact ⟨rfl, rfl⟩
    · have h2' : ¬ (12 : Int) < ((c :: r).length : Int) := by omega
      have hix : ∀ w, (Instr.index 9 (.string ⟨(c :: r).toArray⟩) (.int .i64 0)).run Tryz.prog w = .ok (.int .u8 (c.toNat : Int)) w := fun w => index_any (c :: r) 0 (by simp) w
      have hcl := c.toNat_lt
      have hnm := nmB_cons c r
      rw [decide_eq_true h2, Bool.true_and] at hnm
      by_cases h97 : (c.toNat : Int) < 97
      · have hf : nmB (c :: r) = false := by
          rw [hnm, show letB c = false by unfold letB; simp; omega, Bool.false_and]
        rw [hf]
        clear hf hnm
        generalize hs : c :: r = s at hl1 h2' hix ⊢
        go_enter Tryz.func23, Tryz.ntmps23
        go_wp2
        go_ret
        exact ⟨rfl, rfl⟩
      by_cases h122 : (122 : Int) < (c.toNat : Int)
      · have hf : nmB (c :: r) = false := by
          rw [hnm, show letB c = false by unfold letB; simp; omega, Bool.false_and]
        rw [hf]
        clear hf hnm
        generalize hs : c :: r = s at hl1 h2' hix ⊢
        go_enter Tryz.func23, Tryz.ntmps23
        go_wp2
        go_ret
        exact ⟨rfl, rfl⟩
      rw [show letB c = true by unfold letB; simp; omega, Bool.true_and] at hnm
      have hnmH := Hid.mk hnm
      clear hnm
      generalize hs : c :: r = s at hl1 h2' hix hnmH ⊢
      clear hs
      obtain ⟨B, hB⟩ : ∃ B, nmB s = B := ⟨_, rfl⟩
      rw [hB] at hnmH ⊢
      clear hB
      have hxx := Hid.mk (fun i hi => index_any s i hi)
      go_enter Tryz.func23, Tryz.ntmps23
      go_wp2
      clear hix hl1
      go_loopw [3] (fun iv wr => ∃ i : Nat, iv = .int .i64 (i : Int) ∧ i ≤ s.length ∧ wr = W ∧ Hid (∀ j (h : j < s.length), j < i → wrdB s[j] = true)) (fun iv _ => s.length - (intOf iv).toNat)
      case atStart => exact ⟨0, rfl, Nat.zero_le _, rfl, ⟨fun j _ h => absurd h (Nat.not_lt_zero _)⟩⟩
      case round =>
        obtain ⟨i, rfl, hi, rfl, hall⟩ := hrel
        by_cases hlt : i < s.length
        · have hlt' : (i : Int) < (s.length : Int) := by omega
          have hi0 : (0 : Int) ≤ (i : Int) := by omega
          have hci := hxx.out i hlt
          have hst : Hid (wrdB s[i] = true → ∀ j (h : j < s.length), j < i + 1 → wrdB s[j] = true) := ⟨fun he j h hj => by
            by_cases hji : j < i
            · exact hall.out j h hji
            · obtain rfl : j = i := by omega
              exact he⟩
          have hno : Hid (wrdB s[i] = false → B = false) := ⟨fun he => by
            rw [hnmH.out]
            cases hq : s.all wrdB with
            | false => rfl
            | true =>
              have := List.all_eq_true.1 hq _ (List.getElem_mem hlt)
              rw [he] at this
              cases this⟩
          generalize s[i] = b at hci hst hno
          have hb := b.toNat_lt
          by_cases q0 : 97 ≤ b.toNat ∧ b.toNat ≤ 122
          · have g0 : (97 : Int) ≤ (b.toNat : Int) := by omega
            have g1 : (b.toNat : Int) ≤ 122 := by omega
            have g2 : (48 : Int) ≤ (b.toNat : Int) := by omega
            have g3 : ¬ (b.toNat : Int) ≤ 57 := by omega
            have hw : wrdB b = true := by
              unfold wrdB letB digB
              simp
              omega
            have hs2 := Hid.mk (hst.out hw)
            clear hst hno hall hw hnmH
            go_wp2
            exact ⟨⟨i + 1, rfl, hlt, (by first | rfl | trivial), hs2⟩, by simp only [intOf]; omega⟩
          by_cases q1 : 48 ≤ b.toNat ∧ b.toNat ≤ 57
          · have g0 : ¬ (97 : Int) ≤ (b.toNat : Int) := by omega
            have g1 : (48 : Int) ≤ (b.toNat : Int) := by omega
            have g2 : (b.toNat : Int) ≤ 57 := by omega
            have hw : wrdB b = true := by
              unfold wrdB letB digB
              simp
              omega
            have hs2 := Hid.mk (hst.out hw)
            clear hst hno hall hw hnmH
            go_wp2
            exact ⟨⟨i + 1, rfl, hlt, (by first | rfl | trivial), hs2⟩, by simp only [intOf]; omega⟩
          by_cases q2 : b.toNat = 95
          · have g0 : ¬ (97 : Int) ≤ (b.toNat : Int) := by omega
            have g1 : (48 : Int) ≤ (b.toNat : Int) := by omega
            have g2 : ¬ (b.toNat : Int) ≤ 57 := by omega
            have g3 : ((b.toNat : Int) != 95) = false := by simp; omega
            have hw : wrdB b = true := by
              unfold wrdB letB digB
              simp
              omega
            have hs2 := Hid.mk (hst.out hw)
            clear hst hno hall hw hnmH
            go_wp2
            exact ⟨⟨i + 1, rfl, hlt, (by first | rfl | trivial), hs2⟩, by simp only [intOf]; omega⟩
          by_cases q3 : b.toNat < 48
          · have g0 : ¬ (97 : Int) ≤ (b.toNat : Int) := by omega
            have g1 : ¬ (48 : Int) ≤ (b.toNat : Int) := by omega
            have g2 : ((b.toNat : Int) != 95) = true := by simp; omega
            have hw : wrdB b = false := by
              unfold wrdB letB digB
              simp
              omega
            obtain rfl := hno.out hw
            clear hst hall hw hnmH
            go_wp2
            go_ret
            exact ⟨rfl, rfl⟩
          by_cases q4 : 122 < b.toNat
          · have g0 : (97 : Int) ≤ (b.toNat : Int) := by omega
            have g1 : ¬ (b.toNat : Int) ≤ 122 := by omega
            have g2 : (48 : Int) ≤ (b.toNat : Int) := by omega
            have g3 : ¬ (b.toNat : Int) ≤ 57 := by omega
            have g4 : ((b.toNat : Int) != 95) = true := by simp; omega
            have hw : wrdB b = false := by
              unfold wrdB letB digB
              simp
              omega
            obtain rfl := hno.out hw
            clear hst hall hw hnmH
            go_wp2
            go_ret
            exact ⟨rfl, rfl⟩
          have g0 : ¬ (97 : Int) ≤ (b.toNat : Int) := by omega
          have g1 : (48 : Int) ≤ (b.toNat : Int) := by omega
          have g2 : ¬ (b.toNat : Int) ≤ 57 := by omega
          have g3 : ((b.toNat : Int) != 95) = true := by simp; omega
          have hw : wrdB b = false := by
            unfold wrdB letB digB
            simp
            omega
          obtain rfl := hno.out hw
          clear hst hall hw hnmH
          go_wp2
          go_ret
          exact ⟨rfl, rfl⟩
        · have hlt' : ¬ (i : Int) < (s.length : Int) := by omega
          have hff : B = true := by
            rw [hnmH.out]
            exact List.all_eq_true.2 (fun a ha => by
              obtain ⟨j, hj, rfl⟩ := List.mem_iff_getElem.1 ha
              exact hall.out j hj (by omega))
          subst hff
          clear hall hnmH
          go_wp2
          go_ret
          exact ⟨rfl, rfl⟩
set_option maxRecDepth 20000 in
set_option maxHeartbeats 1000000 in
theorem among_any (l : Sn) (a : Option Addr) (c : Nat) (v : List UInt8) (W : World) (hR : RowR eS W AnyB l a) (hl : l.length ≤ 9223372036854775807) : Calls Tryz.prog 62 #[.slice a l.length c, .string ⟨v.toArray⟩] W fun e W' => e = .returned (.bool (l.contains v)) ∧ W' = W := by
  have hl' : (l.length : Int) ≤ 9223372036854775807 := by omega
  obtain ⟨B, hB⟩ : ∃ B, l.contains v = B := ⟨_, rfl⟩
  rw [hB]
  have hBH := Hid.mk hB
  clear hB
  go_enter Tryz.func62, Tryz.ntmps62
  go_wp2
  go_loopw [5] (fun iv wr => ∃ i : Nat, iv = .int .i64 (i : Int) ∧ i ≤ l.length ∧ wr = W ∧ Hid (∀ j (h : j < l.length), j < i → l[j] ≠ v)) (fun iv _ => l.length - (intOf iv).toNat)
  case atStart => exact ⟨0, rfl, Nat.zero_le _, rfl, ⟨fun j _ h => absurd h (Nat.not_lt_zero _)⟩⟩
  case round =>
    obtain ⟨i, rfl, hi, rfl, hall⟩ := hrel
    by_cases hlt : i < l.length
    · have hlt' : (i : Int) < (l.length : Int) := by omega
      have hi0 : (0 : Int) ≤ (i : Int) := by omega
      obtain ⟨ge, oe, rfl⟩ := hR.some hlt
      obtain ⟨cs, -, -, rfl, hcs⟩ := hR.item hlt
      have k0 : wr.cell? ⟨ge, oe + i, none⟩ = some (.string ⟨(l[i]).toArray⟩) := by
        have := hcs 0 (by decide)
        rw [show oe + i * eS.k + 0 = oe + i by show oe + i * 1 + 0 = oe + i; omega] at this
        exact this
      by_cases hv : l[i] = v
      · have hT : B = true := by
          rw [← hBH.out, List.contains_iff_mem]
          exact hv ▸ List.getElem_mem hlt
        subst hT
        rw [hv] at k0
        clear hall hcs hv hBH
        go_wp2
        go_ret
        exact ⟨rfl, rfl⟩
      · have hne : (l[i] == v) = false := beq_eq_false_iff_ne.2 hv
        have hnx : Hid (∀ j (h : j < l.length), j < i + 1 → l[j] ≠ v) := ⟨fun j h hj => by
          by_cases hji : j < i
          · exact hall.out j h hji
          · obtain rfl : j = i := by omega
            exact hv⟩
        generalize l[i] = y at k0 hne
        clear hall hcs hv hBH
        go_wp2
        exact ⟨⟨i + 1, rfl, hlt, (by first | rfl | trivial), hnx⟩, by simp only [intOf]; omega⟩
    · have hlt' : ¬ (i : Int) < (l.length : Int) := by omega
      have hF : B = false := by
        rw [← hBH.out]
        cases hq : l.contains v with
        | false => rfl
        | true =>
          obtain ⟨j, hj, e⟩ := List.mem_iff_getElem.1 (List.contains_iff_mem.1 hq)
          exact absurd e (hall.out j hj (by omega))
      subst hF
      clear hall hBH
      go_wp2
      go_ret
      exact ⟨rfl, rfl⟩
set_option maxRecDepth 20000 in
set_option maxHeartbeats 1000000 in
theorem look_any (l : Sn) (a : Option Addr) (c : Nat) (v : List UInt8) (W : World) (hR : RowR eS W AnyB l a) (hl : l.length ≤ 9223372036854775807) : Calls Tryz.prog 26 #[.slice a l.length c, .string ⟨v.toArray⟩] W fun e W' => e = .returned (.int .i64 (lkN l v : Int)) ∧ W' = W := by
  have hn := named_any v W
  have ha := among_any l a c v W hR hl
  unfold lkN
  cases h1 : nmB v with
  | false =>
    rw [h1] at hn
    clear ha h1
    go_enter Tryz.func26, Tryz.ntmps26
    go_wp2_with (go_at_call 23; refine hn.mono ?_; rintro e w1 ⟨rfl, hw⟩; subst w1)
    go_ret
    exact ⟨rfl, rfl⟩
  | true =>
    rw [h1] at hn
    cases h2 : l.contains v with
    | true =>
      rw [h2] at ha
      clear h1 h2
      go_enter Tryz.func26, Tryz.ntmps26
      go_wp2_with (first | (go_at_call 23; refine hn.mono ?_; rintro e w1 ⟨rfl, hw⟩; subst w1) | (go_at_call 62; refine ha.mono ?_; rintro e w1 ⟨rfl, hw⟩; subst w1))
      go_ret
      exact ⟨rfl, rfl⟩
    | false =>
      rw [h2] at ha
      clear h1 h2
      go_enter Tryz.func26, Tryz.ntmps26
      go_wp2_with (first | (go_at_call 23; refine hn.mono ?_; rintro e w1 ⟨rfl, hw⟩; subst w1) | (go_at_call 62; refine ha.mono ?_; rintro e w1 ⟨rfl, hw⟩; subst w1))
      go_ret
      exact ⟨rfl, rfl⟩
end Go.Proofs.YtmklkcefbabhbaaGreat.R6
