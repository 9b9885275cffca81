import Derived.Test.YthnmjafoplfikaaGreatDoorTurnYM4
/- WHAT AN EXPRESSION'S KIND IS. No program but the numbers of its functions. -/
namespace Go.Proofs.YthnmjafoplfikaaGreatDoor
open Go.RowKit

inductive Fd where
  | none | opt | line | col | grp | tab
inductive Tl where
  | always (i : Nat)
  | ofArg (i : Nat)
  | ofLine (i : Nat)
  | ofTable
structure Opr where
  num : Int × Int
  den : Int × Int
  mode : Int × Int
  least : Int
  most : Int
  only : Int
  n1 : Int × Int
  n2 : Int × Int
  fd : Fd
  tl : Tl
def opTabL : List Opr := [
  ⟨(0, 0), (0, 0), (0, 0), 0, 0, 0, (0, 0), (0, 0), .none, .always 4⟩,
  ⟨((-9999999999999), 9999999999999), (0, 0), (0, 0), 0, 0, 0, (0, 0), (0, 0), .none, .always 0⟩,
  ⟨((-1000000000), 1000000000), (0, 0), (0, 0), 0, 0, 0, (0, 0), (0, 0), .none, .always 1⟩,
  ⟨(0, 1), (0, 0), (0, 0), 0, 0, 0, (0, 0), (0, 0), .none, .always 2⟩,
  ⟨(0, 109572), (0, 0), (0, 0), 0, 0, 0, (0, 0), (0, 0), .none, .always 3⟩,
  ⟨((-9223372036854775808), 9223372036854775807), ((-9223372036854775808), 9223372036854775807), (0, 0), 0, 0, 0, (0, 0), (0, 0), .opt, .ofTable⟩,
  ⟨((-9223372036854775808), 9223372036854775807), (0, 0), (0, 0), 0, 0, 0, (0, 0), (0, 0), .line, .ofLine 5⟩,
  ⟨((-9223372036854775808), 9223372036854775807), (0, 0), (0, 0), 0, 0, 0, (0, 0), (0, 0), .col, .ofLine 6⟩,
  ⟨((-9223372036854775808), 9223372036854775807), (0, 0), (0, 0), 0, 0, 0, (0, 0), (0, 0), .grp, .always 1⟩,
  ⟨((-9223372036854775808), 9223372036854775807), (0, 0), (0, 0), 0, 0, 0, (0, 0), (0, 0), .col, .ofLine 7⟩,
  ⟨((-9223372036854775808), 9223372036854775807), (0, 0), (0, 0), 0, 0, 0, (0, 0), (0, 0), .col, .ofLine 8⟩,
  ⟨((-9223372036854775808), 9223372036854775807), (0, 0), (0, 0), 0, 0, 0, (0, 0), (0, 0), .col, .ofLine 9⟩,
  ⟨((-9223372036854775808), 9223372036854775807), (0, 0), (0, 0), 0, 0, 0, (0, 0), (0, 0), .col, .ofLine 10⟩,
  ⟨(0, 0), (0, 0), (0, 0), 2, 6, 0, (6, 0), (6, 0), .none, .ofArg 4⟩,
  ⟨(0, 0), (0, 0), (0, 0), 2, 2, 0, (6, 0), (6, 0), .none, .ofArg 4⟩,
  ⟨(0, 0), (0, 0), (0, 0), 1, 1, 0, (6, 0), (6, 0), .none, .ofArg 4⟩,
  ⟨((-1000000000), 1000000000), (1, 1000000000), (1, 5), 1, 1, 0, (2, 0), (2, 0), .none, .always 0⟩,
  ⟨(0, 0), (0, 0), (0, 0), 2, 2, 0, (2, 0), (4, 1), .none, .always 0⟩,
  ⟨(0, 0), (0, 0), (1, 5), 2, 2, 0, (2, 0), (4, 1), .none, .always 0⟩,
  ⟨(0, 0), (0, 0), (0, 0), 2, 6, 0, (6, 0), (6, 0), .none, .ofArg 4⟩,
  ⟨(0, 0), (0, 0), (0, 0), 2, 6, 0, (6, 0), (6, 0), .none, .ofArg 4⟩,
  ⟨(0, 0), (0, 0), (0, 0), 1, 1, 0, (6, 0), (6, 0), .none, .ofArg 4⟩,
  ⟨(0, 0), (0, 0), (0, 0), 3, 3, 0, (6, 0), (6, 0), .none, .ofArg 4⟩,
  ⟨(1, 9999999999999), (0, 0), (1, 5), 1, 1, 0, (2, 0), (2, 0), .none, .always 0⟩,
  ⟨((-9223372036854775808), 9223372036854775807), (0, 0), (0, 0), 1, 1, 0, (2, 0), (2, 0), .tab, .always 0⟩,
  ⟨(0, 0), (0, 0), (0, 0), 2, 2, 0, (62, 0), (62, 0), .none, .always 2⟩,
  ⟨(0, 0), (0, 0), (0, 0), 2, 2, 0, (62, 0), (62, 0), .none, .always 2⟩,
  ⟨(0, 0), (0, 0), (0, 0), 2, 2, 0, (22, 0), (22, 0), .none, .always 2⟩,
  ⟨(0, 0), (0, 0), (0, 0), 2, 2, 0, (22, 0), (22, 0), .none, .always 2⟩,
  ⟨(0, 0), (0, 0), (0, 0), 2, 2, 0, (22, 0), (22, 0), .none, .always 2⟩,
  ⟨(0, 0), (0, 0), (0, 0), 2, 2, 0, (22, 0), (22, 0), .none, .always 2⟩,
  ⟨(0, 0), (0, 0), (0, 0), 2, 6, 0, (8, 0), (8, 0), .none, .always 2⟩,
  ⟨(0, 0), (0, 0), (0, 0), 2, 6, 0, (8, 0), (8, 0), .none, .always 2⟩,
  ⟨(0, 0), (0, 0), (0, 0), 1, 1, 0, (8, 0), (8, 0), .none, .always 2⟩,
  ⟨(0, 0), (0, 0), (0, 0), 3, 3, 0, (8, 0), (62, 1), .none, .ofArg 11⟩,
  ⟨(0, 0), (0, 0), (0, 0), 1, 1, 6, (62, 0), (62, 0), .none, .always 2⟩,
  ⟨(0, 0), (0, 0), (0, 0), 2, 2, 0, (62, 0), (62, 0), .none, .ofArg 4⟩,
  ⟨(0, 0), (0, 0), (0, 0), 1, 1, 0, (16, 0), (16, 0), .none, .always 1⟩,
  ⟨(0, 0), (0, 0), (0, 0), 2, 2, 0, (16, 0), (16, 0), .none, .always 1⟩,
  ⟨(0, 0), (0, 0), (0, 0), 2, 2, 0, (16, 0), (16, 0), .none, .always 1⟩,
  ⟨(0, 0), (0, 0), (0, 0), 2, 2, 0, (16, 0), (4, 1), .none, .always 3⟩,
  ⟨(0, 0), (0, 0), (0, 0), 2, 2, 0, (16, 0), (16, 0), .none, .always 1⟩]
def opTab (k : Nat) : Opr := opTabL.getD k ⟨(0, 0), (0, 0), (0, 0), 0, 0, 0, (0, 0), (0, 0), .none, .ofTable⟩
def fdV : Fd → Value
  | .none => .nilFunc
  | .opt => .func (Fn.func 89) #[] #[]
  | .line => .func (Fn.func 91) #[] #[]
  | .col => .func (Fn.func 93) #[] #[]
  | .grp => .func (Fn.func 94) #[] #[]
  | .tab => .func (Fn.func 95) #[] #[]
def tlV (s : Nat) : Tl → Value
  | .always i => .func (Fn.func 119) #[] #[.pointer (some ⟨s + 17 + i, 0, none⟩)]
  | .ofArg i => .func (Fn.func 120) #[] #[.pointer (some ⟨s + 17 + i, 0, none⟩)]
  | .ofLine i => .func (Fn.func 121) #[] #[.pointer (some ⟨s + 17 + i, 0, none⟩)]
  | .ofTable => .func (Fn.func 90) #[] #[]
def oprCells (s : Nat) (o : Opr) : List Value := [.int .i64 o.num.1, .int .i64 o.num.2, .int .i64 o.den.1, .int .i64 o.den.2, .int .i64 o.mode.1, .int .i64 o.mode.2, .int .i64 o.least, .int .i64 o.most, .int .i64 o.only, .int .i64 o.n1.1, .int .i64 o.n1.2, .int .i64 o.n2.1, .int .i64 o.n2.2, fdV o.fd, tlV s o.tl]
theorem rows_eq (s : Nat) : (List.range 41).map (fun k => (opTable s).getD (k + 1) []) = (List.range 41).map (fun k => oprCells s (opTab (k + 1))) := by kernel_rfl
theorem OpsAt.row {W : World} {s : Nat} (h : OpsAt W s) {k : Nat} (h1 : 1 ≤ k) (h2 : k < 42) {j : Nat} (hj : j < 15) : W.cell? ⟨s + 29, k * 15 + j, none⟩ = (oprCells s (opTab k))[j]? := by
  have := (List.map_inj_left.1 (rows_eq s)) (k - 1) (List.mem_range.2 (by omega))
  rw [show k - 1 + 1 = k by omega] at this
  rw [h.2.1 k j h2 hj, this]
/-- What the table is like. -/
def oprOk (o : Opr) : Bool := decide (0 ≤ o.n1.2) && decide (o.n1.2 = 0) && (decide (o.n2.2 = 0) || decide (o.n2.2 = 1)) && decide (o.most ≤ 6) && (match o.tl with
  | .always i => decide (i < 4)
  | .ofArg i => decide (i < 12) && decide (0 ≤ clVals.getD i 0) && decide (clVals.getD i 0 < o.least)
  | .ofLine i => decide (i < 12) && (match o.fd with | .line => true | .col => true | _ => false)
  | .ofTable => (match o.fd with | .opt => true | _ => false))
theorem opr_ok : (List.range 41).all (fun k => oprOk (opTab (k + 1))) = true := by kernel_rfl

abbrev Kd := Int × Int
/-- Is a kind one of a set? -/
def inK (k s : Int) : Bool := bits BinOp.and IntKind.i64 s ((2 ^ k.toNat : Nat) : Int) != 0
def isK (n : Int) : Bool := decide (1 ≤ n) && decide (n ≤ 5)
def lineK (l : Ln) : Kd := if l.type = 5 then (5, l.opts) else (l.type, -1)
def at? {α : Type} (l : List α) (n : Int) : Option α := if 0 ≤ n then l[n.toNat]? else none
def spanIn (s : Int × Int) (n : Int) : Bool := decide (s.1 ≤ n) && decide (n ≤ s.2)
def takesB (o : Opr) (x : Ex) : Bool := spanIn o.num x.num && spanIn o.den x.den && spanIn o.mode x.mode && decide (o.least ≤ x.args.len) && decide ((x.args.len : Int) ≤ o.most) && (toL x.args).all (fun a => decide (o.only = 0) || decide (a.op = o.only))
def findB (p : Pk) (g : Int) (x : Ex) : Fd → Bool
  | .none => true
  | .opt => match at? p.opts x.den with
    | some o => (at? o.2 x.num).isSome
    | none => false
  | .line => match at? p.lns x.num with
    | some l => isK l.type && (decide (l.group = -1) || decide (l.group = g))
    | none => false
  | .col => match at? p.lns x.num with
    | some l => isK l.type && !decide (l.group = -1)
    | none => false
  | .grp => (at? p.grps x.num).isSome
  | .tab => (at? p.tabs x.num).isSome
def tell (p : Pk) (x : Ex) (ks : List Kd) : Tl → Kd × Bool
  | .always i => ((clVals.getD i 0, -1), true)
  | .ofArg i => (ks.getD (clVals.getD i 0).toNat (0, 0), true)
  | .ofLine i => match at? p.lns x.num with
    | some l => (lineK l, inK (lineK l).1 (clVals.getD i 0))
    | none => ((0, 0), false)
  | .ofTable => ((5, x.den), true)
def needAt (n1 n2 : Int × Int) (i : Nat) : Int × Int := if i = 0 then n1 else n2
def blameF (n1 n2 : Int × Int) (ks : List Kd) : List Kd → Nat → Option Nat
  | [], _ => none
  | k :: r, i => if inK k.1 (needAt n1 n2 i).1 = true ∧ k = ks.getD (needAt n1 n2 i).2.toNat (0, 0) then blameF n1 n2 ks r (i + 1) else some i
/-- The path of the fault and its number. -/
abbrev Ft := List Nat × Nat
def tFold (f : Ex → Nat → Nat × Except Ft Kd) : List Ex → Nat → Nat → List Kd → Nat × Except Ft (List Kd)
  | [], _, n, acc => (n, .ok acc)
  | x :: l, i, n, acc => match f x n with
    | (m, .error e) => (m, .error (i :: e.1, e.2))
    | (m, .ok k) => tFold f l (i + 1) m (acc ++ [k])
def worthF (p : Pk) (o : Opr) (x : Ex) (ks : List Kd) : Except Ft Kd := match blameF o.n1 o.n2 ks ks 0 with
  | some i => .error ([i], 69)
  | none => if (tell p x ks o.tl).2 = true then .ok (tell p x ks o.tl).1 else .error ([], 69)
def tN (p : Pk) (g : Int) : Nat → Ex → Nat → Nat × Except Ft Kd
  | 0, _, n => (n + 1, .error ([], 60))
  | d + 1, x, n =>
    if 60 < n + 1 then (n + 1, .error ([], 60))
    else if x.op < 1 ∨ 42 ≤ x.op then (n + 1, .error ([], 67))
    else if takesB (opTab x.op.toNat) x = false then (n + 1, .error ([], 67))
    else if findB p g x (opTab x.op.toNat).fd = false then (n + 1, .error ([], 68))
    else match tFold (tN p g d) (toL x.args) 0 (n + 1) [] with
      | (m, .error e) => (m, .error e)
      | (m, .ok ks) => (m, worthF p (opTab x.op.toNat) x ks)
def tType (p : Pk) (g : Int) (x : Ex) : Except Ft Kd := (tN p g 8 x 0).2
abbrev scP (p : Pk) (a3 a4 a5 a6 a7 : Option Addr) (c3 c4 c5 c6 c7 : Nat) : List Value := [.string ⟨p.name.toArray⟩, .int .i64 p.year, .slice a3 p.opts.length c3, .slice a4 p.tabs.length c4, .slice a5 p.grps.length c5, .slice a6 p.lns.length c6, .slice a7 p.cks.length c7]
abbrev scG (p : Pk) (a3 a4 a5 a6 a7 : Option Addr) (c3 c4 c5 c6 c7 : Nat) (g : Int) : List Value := [.string ⟨p.name.toArray⟩, .int .i64 p.year, .slice a3 p.opts.length c3, .slice a4 p.tabs.length c4, .slice a5 p.grps.length c5, .slice a6 p.lns.length c6, .slice a7 p.cks.length c7, .int .i64 g]
end Go.Proofs.YthnmjafoplfikaaGreatDoor
