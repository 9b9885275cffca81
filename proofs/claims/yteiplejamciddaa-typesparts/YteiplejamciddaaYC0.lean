import Derived.Test.YteiplejamciddaaYP
namespace Go.Proofs.Yteiplejamciddaa
open Go.RowKit

def letB (b : UInt8) : Bool := decide (97 ≤ b.toNat) && decide (b.toNat ≤ 122)
def digB (b : UInt8) : Bool := decide (48 ≤ b.toNat) && decide (b.toNat ≤ 57)
def wrdB (b : UInt8) : Bool := letB b || digB b || decide (b.toNat = 95)
def shwB (b : UInt8) : Bool := decide (32 ≤ b.toNat) && decide (b.toNat ≤ 126)
def nmB : List UInt8 → Bool
  | [] => false
  | c :: r => decide ((c :: r).length ≤ 12) && letB c && (c :: r).all wrdB
def txB (s : List UInt8) : Bool := decide (1 ≤ s.length) && decide (s.length ≤ 40) && s.all shwB
/-- What a new name is answered. -/
def nwN (s : List UInt8) (ahead : List (List UInt8)) : Nat := if nmB s then (if ahead.contains s then 62 else 0) else 61
/-- A place: the part, the item, the clause, the path. -/
structure Sp where
  part : Int
  at_ : Int
  clause : Int
  path : List Nat
abbrev Sn := List (List UInt8)
def itF (part i : Nat) : Sp := ⟨part, i, -1, []⟩
/-- The items of a part one by one. -/
def frF {α : Type} (f : α → Sn → Sn × Nat) : List α → Nat → Sn → Sn × Option (Nat × Nat)
  | [], _, s => (s, none)
  | x :: l, i, s => match f x s with
    | (s', 0) => frF f l (i + 1) s'
    | (s', e + 1) => (s', some (i, e + 1))
/-- The first name of a list that may not be. -/
def nsF (l : List (List UInt8)) : List (List UInt8) → Nat → Nat
  | [], _ => 0
  | x :: r, i => match nwN x (l.take i) with
    | 0 => nsF l r (i + 1)
    | e + 1 => e + 1
def opF (o : List UInt8 × List (List UInt8)) (s : Sn) : Sn × Nat := (s ++ [o.1], match nwN o.1 s with
  | 0 => if o.2.length < 1 ∨ 8 < o.2.length then 60 else nsF o.2 o.2 0
  | e + 1 => e + 1)
def bdB (l : List (Int × Int)) (i : Nat) (b : Int × Int) : Bool := (if i = 0 then decide (b.1 = 0) else decide ((l.getD (i - 1) (0, 0)).1 < b.1)) && decide (b.1 ≤ 9999999999999) && decide (0 ≤ b.2) && decide (b.2 ≤ 1000000)
def rsF (l : List (Int × Int)) : List (Int × Int) → Nat → Bool
  | [], _ => true
  | b :: r, i => bdB l i b && rsF l r (i + 1)
def tbF (t : List UInt8 × List (Int × Int)) (s : Sn) : Sn × Nat := (s ++ [t.1], match nwN t.1 s with
  | 0 => if t.2.length < 1 ∨ 8 < t.2.length then 60 else if rsF t.2 t.2 0 then 0 else 63
  | e + 1 => e + 1)
def gpF (g : List UInt8 × Int) (s : Sn) : Sn × Nat := (s ++ [g.1], match nwN g.1 s with
  | 0 => if g.2 < 1 ∨ 8 < g.2 then 64 else 0
  | e + 1 => e + 1)
def inG (p : Pk) (g : Int) : Bool := decide (g = -1) || (decide (0 ≤ g) && decide (g < p.grps.length))
def ckF (p : Pk) (k : Ck) (s : Sn) : Sn × Nat := (s ++ [k.name], match nwN k.name s with
  | 0 => if inG p k.group then (if txB k.text then 0 else 61) else 64
  | e + 1 => e + 1)
def tyB (p : Pk) (l : Ln) : Bool := if l.type = 5 then decide (0 ≤ l.opts) && decide (l.opts < p.opts.length) else isK l.type && decide (l.opts = -1)
def lnE (p : Pk) (l : Ln) (s : Sn) : Sn × Nat := (s ++ [l.name], match nwN l.name s with
  | 0 => if tyB p l then (if inG p l.group then (if l.input then (if l.cls.length > 0 then 65 else 0) else if l.cls.length < 1 ∨ 6 < l.cls.length then 65 else 0) else 64) else 65
  | e + 1 => e + 1)
def zrB (e : Ex) : Bool := decide (e.op = 0) && decide (e.num = 0) && decide (e.den = 0) && decide (e.mode = 0) && decide (e.args.len = 0)
def clB (l : List Cl) (i : Nat) (c : Cl) : Bool := if i = 0 then decide (c.pri = 0) && !c.guarded && zrB c.guard else (l.take i).all (fun a => decide (a.pri ≠ c.pri)) && c.guarded && decide (1 ≤ c.pri) && decide (c.pri ≤ 9)
/-- The first clause that may not stand there. -/
def clF (l : List Cl) : List Cl → Nat → Option Nat
  | [], _ => none
  | c :: r, i => if clB l i c then clF l r (i + 1) else some i
def lsF (p : Pk) : List Ln → Nat → Sn → Sn × Option (Sp × Nat)
  | [], _, s => (s, none)
  | l :: r, i, s => match lnE p l s with
    | (s', e + 1) => (s', some (itF 5 i, e + 1))
    | (s', 0) => match clF l.cls l.cls 0 with
      | some j => (s', some (⟨5, i, j, []⟩, 66))
      | none => lsF p r (i + 1) s'
def szF (p : Pk) : Option (Sp × Nat) := if 4 < p.opts.length then some (itF 2 0, 60) else if 4 < p.tabs.length then some (itF 3 0, 60) else if 4 < p.grps.length then some (itF 4 0, 60) else if p.lns.length < 1 ∨ 48 < p.lns.length then some (itF 5 0, 60) else if 16 < p.cks.length then some (itF 6 0, 60) else none
def hdF (p : Pk) : Option (Sp × Nat) := if nmB p.name then (if p.year < 1900 ∨ 2199 < p.year then some (itF 1 0, 60) else none) else some (itF 1 0, 61)
def rwF (g : List UInt8 × Int) : Int := min (max g.2 0) 8
def ceF (p : Pk) (g : Int) : Int := match at? p.grps g with
  | some r => rwF r
  | none => 1
def cesF (p : Pk) : Int := ((p.lns.map (fun l => ceF p l.group)).sum + (p.cks.map (fun c => ceF p c.group)).sum) + (p.grps.map rwF).sum
def celF (p : Pk) : Option (Sp × Nat) := if 256 < cesF p then some (itF 1 0, 60) else none
/-- The next expression of a line or check: how many nodes there are then, or the fault. -/
def nxF (p : Pk) (g : Int) (root : Sp) (must : Kd) (e : Ex) (n : Nat) : Nat × Option (Sp × Nat) := match tN p g 8 e 0 with
  | (_, .error er) => (n, some (⟨root.part, root.at_, root.clause, root.path ++ er.1⟩, er.2))
  | (m, .ok k) => if k = must then (n + m, if 60 < n + m then some (root, 60) else none) else (n, some (root, 69))
def lcF (p : Pk) (l : Ln) (i : Nat) : List Cl → Nat → Nat → Option (Sp × Nat)
  | [], _, _ => none
  | c :: r, j, n => match (if c.guarded then nxF p l.group ⟨5, i, j, [0]⟩ (3, -1) c.guard n else (n, none)) with
    | (_, some f) => some f
    | (n1, none) => match nxF p l.group ⟨5, i, j, [1]⟩ (lineK l) c.body n1 with
      | (_, some f) => some f
      | (n2, none) => lcF p l i r (j + 1) n2
def leF (p : Pk) : List Ln → Nat → Option (Sp × Nat)
  | [], _ => none
  | l :: r, i => match lcF p l i l.cls 0 0 with
    | some f => some f
    | none => leF p r (i + 1)
def keF (p : Pk) : List Ck → Nat → Option (Sp × Nat)
  | [], _ => none
  | k :: r, i => match (nxF p k.group (itF 6 i) (3, -1) k.when_ 0).2 with
    | some f => some f
    | none => keF p r (i + 1)
def itO (part : Nat) : Option (Nat × Nat) → Option (Sp × Nat)
  | none => none
  | some (i, e) => some (itF part i, e)
/-- The first fault of a pack. -/
def chF (p : Pk) : Option (Sp × Nat) := match szF p with
  | some f => some f
  | none => match hdF p with
  | some f => some f
  | none => match frF opF p.opts 0 [] with
  | (_, some (i, e)) => some (itF 2 i, e)
  | (s1, none) => match frF tbF p.tabs 0 s1 with
  | (_, some (i, e)) => some (itF 3 i, e)
  | (s2, none) => match frF gpF p.grps 0 s2 with
  | (_, some (i, e)) => some (itF 4 i, e)
  | (s3, none) => match lsF p p.lns 0 s3 with
  | (_, some f) => some f
  | (s4, none) => match frF (ckF p) p.cks 0 s4 with
  | (_, some (i, e)) => some (itF 6 i, e)
  | (_, none) => match celF p with
  | some f => some f
  | none => match leF p p.lns 0 with
  | some f => some f
  | none => keF p p.cks 0
end Go.Proofs.Yteiplejamciddaa
