import Derived.Test.YtekapipfaahhcaaGreatDoorWS
/- WHAT A SCAN ANSWERS, as the chapter tells it, over the bytes of the text. No program. -/
namespace Go.Proofs.YtekapipfaahhcaaGreatDoor

/-- A word: kind, text, num, den. -/
abbrev Wd := Nat × (List UInt8 × (Nat × Nat))
/-- A word and where it ends, or the place of the fault and its number. -/
abbrev Res := Except (Nat × Nat) (Wd × Nat)
def slc (l : List UInt8) (a b : Nat) : List UInt8 := (l.take b).drop a

def nameS (l : List UInt8) (at_ : Nat) : Res := if 12 < rn 56 (l.drop at_) then .error (at_, 40) else .ok ((1, slc l at_ (at_ + rn 56 (l.drop at_)), 0, 0), at_ + rn 56 (l.drop at_))

/-- What digits say. -/
def val (x : List UInt8) : Nat := x.foldl (fun n c => 10 * n + (c.toNat - 48)) 0
def pctTok (n : Nat) (part : List UInt8) : Option Wd := if 6 < part.length ∨ part.getLast? = some 48 then none else
  if n / n.gcd (100 * 10 ^ part.length) ≤ 1000000000 ∧ 100 * 10 ^ part.length / n.gcd (100 * 10 ^ part.length) ≤ 1000000000 then some (4, [], n / n.gcd (100 * 10 ^ part.length), 100 * 10 ^ part.length / n.gcd (100 * 10 ^ part.length)) else none
def numTok (whole part : List UInt8) (pc : Bool) : Option Wd := if 9223372036854775807 < val (whole ++ part) ∨ (1 < whole.length ∧ whole.head? = some 48) then none else
  if pc = true then pctTok (val (whole ++ part)) part else if part = [] then (if val (whole ++ part) ≤ 1000000000 then some (3, [], val (whole ++ part), 0) else none)
  else if part.length = 2 ∧ val (whole ++ part) ≤ 9999999999999 then some (2, [], val (whole ++ part), 0) else none
/-- Where the digits ahead of the point end; whether there is a point; where the number ends. -/
def nE1 (l : List UInt8) (at_ : Nat) : Nat := at_ + rn 32 (l.drop at_)
def nPt (l : List UInt8) (at_ : Nat) : Bool := l[nE1 l at_]? == some 46 && clsAt l (nE1 l at_ + 1) == 32
def nE2 (l : List UInt8) (at_ : Nat) : Nat := if nPt l at_ = true then nE1 l at_ + 1 + rn 32 (l.drop (nE1 l at_ + 1)) else nE1 l at_
def nPart (l : List UInt8) (at_ : Nat) : List UInt8 := if nPt l at_ = true then slc l (nE1 l at_ + 1) (nE2 l at_) else []
def nPc (l : List UInt8) (at_ : Nat) : Bool := l[nE2 l at_]? == some 37
def nE3 (l : List UInt8) (at_ : Nat) : Nat := if nPc l at_ = true then nE2 l at_ + 1 else nE2 l at_
def numberS (l : List UInt8) (at_ : Nat) : Res := match numTok (slc l at_ (nE1 l at_)) (nPart l at_) (nPc l at_) with
  | none => .error (at_, 42)
  | some t => if clsAt l (nE3 l at_) &&& 24 ≠ 0 then .error (at_, 42) else .ok (t, nE3 l at_)

def fineB (c : UInt8) : Bool := decide (32 ≤ c.toNat ∧ c.toNat ≤ 126)
/-- What stands between quotes; esc: where a backslash stands directly ahead. -/
def qgo (at_ : Nat) : List UInt8 → Nat → Option Nat → List UInt8 → Res
  | [], _, some e, _ => .error (e, 43)
  | [], _, none, _ => .error (at_, 43)
  | c :: x, p, some e, acc => if c = 34 ∨ c = 92 then qgo at_ x (p + 1) none (acc ++ [c]) else .error (e, 43)
  | c :: x, p, none, acc => if c = 92 then qgo at_ x (p + 1) (some p) acc else if c = 34 then (if 40 < acc.length then .error (at_, 40) else .ok ((6, acc, 0, 0), p + 1)) else if c = 10 then .error (at_, 43) else if fineB c = false then .error (p, 43) else qgo at_ x (p + 1) none (acc ++ [c])
def quotedS (l : List UInt8) (at_ : Nat) : Res := qgo at_ (l.drop (at_ + 1)) (at_ + 1) none []

def signsL : List (List UInt8) := [[33, 61], [60, 61], [62, 61], [60], [62], [61], [40], [41], [44], [58], [46], [43], [45], [42], [47]]
def signS (l : List UInt8) (at_ : Nat) : Res := match signsL.find? (fun s => s.isPrefixOf (l.drop at_)) with
  | some s => .ok ((7, s, 0, 0), at_ + s.length)
  | none => .error (at_, 41)

end Go.Proofs.YtekapipfaahhcaaGreatDoor
