/-
  NARROWER THAN 'FOR EVERY INPUT', by the rows' own cells (each row's printed sentence says how): TrieKeeps: laid · TrieFrom: laid.
  DERIVED. THE GIVEN ROWS OF THIS SEAT. 2 by the template 'for every input the law returns true; each argument reads behind the call as it read before'; 0 by the template 'total and deterministic' (their statements: YtmlkceganilboaaDoorTotals.lean).
  GIVEN WITH THE SEED: the statements are not yours to turn. If you find one false, say at which input.
  Laid BY PROGRAM, IN A SANDBOX (cutbox-rows.mjs): the forced cells as the released guide's own fill.sh prints them over the translation bc3a68491b5a70a9… (all of the seat's roots in one cut). By AI agents, Wed Nov 11 2026. No macro, syntax, notation, axiom, sorry.
-/
import Derived.Test.YtmlkceganilboaaDoorChecked
import GoSem.Claim
import GoSem.ClaimJoined
import GoSem.ClaimMapViews
import Derived.JoinedTies
import Derived.KernelRfl
namespace Go.Proofs.YtmlkceganilboaaDoor
/- THE CELL 'sum', in the pinned program and in every row, IS THE sha256 OF THE DUMP (.gsa) THAT YtmlkceganilboaaDoorProg.lean LOADS. Nothing in Lean hashes anything: it is a label: what it is worth is what the hold of that sum in a sandbox is worth. -/
noncomputable def Tryd.pinned : Pinned := { name := "ytmlkceganilboaadoor", sum := "bc3a68491b5a70a9e5b9bee045f95a48dbd8b325a0ac31207acb8599bede5ef0", checked := Tryd.checked }
namespace Rows
def none {H : Type} : Left H := { results := [], args := [] }

/- WHAT THE LISTED PACKAGE-LEVEL VARIABLES READ AS WHEN THE CALL BEGINS. Each datum BY PROGRAM (the guide's laid-datum.mjs) off the statement by which the dump's own 'gosem.cut.vars' lays the variable. In a bare row this is a premise. The card (YtmlkceganilboaaDoorCards.lean) ties it to the program's text. -/
def laid_levy_levylaw3_none {H : Type} : DataW H := .agg [.lit (.int .u32 4000000001), .agg [.lit (.int .i64 (-77)), .lit (.int .i64 (-77))]]

/-- 'levylaw3.TrieKeeps': WHATEVER THE INPUT: true; the input reads as it did. -/
def trieKeepsSpec : ChangeSpec := { name := "trieKeeps", fn := fun _ => fun
  | [d1, d2] => { results := [.lit (.bool true)], args := [d1, d2] }
  | _ => none }
def trieKeepsRow : OpenClaim := { program := "ytmlkceganilboaadoor", sum := "bc3a68491b5a70a9e5b9bee045f95a48dbd8b325a0ac31207acb8599bede5ef0", func := "levy/levylaw3.TrieKeeps", spec := "trieKeeps", unfollowed := true, recurses := true, named := ["levy/levylaw3.none"], apart := false, laid := [("levy/levylaw3.none", laid_levy_levylaw3_none)] }
def TrieKeepsSaid : Prop := trieKeepsRow.holds Tryd.pinned (OpenSpec.ofChange trieKeepsSpec)

/-- ITS FALSE NEIGHBOUR: 'it returns false'. Refute it at one input. -/
def trieKeepsWrong : ChangeSpec := { name := "trieKeeps", fn := fun _ => fun
  | [d1, d2] => { results := [.lit (.bool false)], args := [d1, d2] }
  | _ => none }
def TrieKeepsWrongFalsely : Prop := trieKeepsRow.holds Tryd.pinned (OpenSpec.ofChange trieKeepsWrong)

/-- 'levylaw3.TrieFrom': WHATEVER THE INPUT: true; the input reads as it did. -/
def trieFromSpec : ChangeSpec := { name := "trieFrom", fn := fun _ => fun
  | [d1, d2, d3] => { results := [.lit (.bool true)], args := [d1, d2, d3] }
  | _ => none }
def trieFromRow : OpenClaim := { program := "ytmlkceganilboaadoor", sum := "bc3a68491b5a70a9e5b9bee045f95a48dbd8b325a0ac31207acb8599bede5ef0", func := "levy/levylaw3.TrieFrom", spec := "trieFrom", unfollowed := true, recurses := true, named := ["levy/levylaw3.none"], apart := false, laid := [("levy/levylaw3.none", laid_levy_levylaw3_none)] }
def TrieFromSaid : Prop := trieFromRow.holds Tryd.pinned (OpenSpec.ofChange trieFromSpec)

/-- ITS FALSE NEIGHBOUR: 'it returns false'. Refute it at one input. -/
def trieFromWrong : ChangeSpec := { name := "trieFrom", fn := fun _ => fun
  | [d1, d2, d3] => { results := [.lit (.bool false)], args := [d1, d2, d3] }
  | _ => none }
def TrieFromWrongFalsely : Prop := trieFromRow.holds Tryd.pinned (OpenSpec.ofChange trieFromWrong)

/- THE SECOND FORM. 'bulk': how many values and letters a reading holds, each counted each time it is reached (what is shared counts as often as it is met; a slice's spare places count too). A statement '..UptoSaid' is the law's where the arguments, and the package variables that the reading takes, are together of bulk at most 1048576: NARROWER than '..Said'. Prove '..Said' where nothing that the law and all that it calls make is longer than what came in: it says more and counts as full. Else prove '..UptoSaid'. A law counts once. -/
mutual
def uptoBulk {H : Type} : DataW H → Nat
  | .lit (.string bytes) => bytes.length + 1
  | .lit _ => 1
  | .nil => 1
  | .ptr d => uptoBulk d + 1
  | .slice elems spare => uptoBulkAll elems + uptoBulkAll spare + 1
  | .agg parts => uptoBulkAll parts + 1
  | .iface _ d => uptoBulk d + 1
  | .map entries => uptoBulkEntries entries + 1
  | .held _ => 1
def uptoBulkAll {H : Type} : List (DataW H) → Nat
  | [] => 0
  | d :: r => uptoBulk d + uptoBulkAll r
def uptoBulkEntries {H : Type} : List (Lit × DataW H) → Nat
  | [] => 0
  | x :: r => uptoBulkEntry x + uptoBulkEntries r
def uptoBulkEntry {H : Type} : Lit × DataW H → Nat
  | (.string bytes, d) => bytes.length + uptoBulk d + 1
  | (_, d) => uptoBulk d + 1
 end
def uptoSmall : (H : Type) → List (DataW H) → Bool := fun _ ds => decide (uptoBulkAll ds ≤ 1048576)
def OpenSpec.upto (s : _root_.Go.ChangeSpec) : _root_.Go.OpenSpec := { _root_.Go.OpenSpec.ofChange s with cond := some uptoSmall }

/-- 'levylaw3.TrieKeeps', WHERE WHAT IT READS IS OF BULK AT MOST 1048576: true; the input reads as it did. -/
def trieKeepsUptoRow : OpenClaim := { program := "ytmlkceganilboaadoor", sum := "bc3a68491b5a70a9e5b9bee045f95a48dbd8b325a0ac31207acb8599bede5ef0", func := "levy/levylaw3.TrieKeeps", spec := "trieKeeps", unfollowed := true, recurses := true, named := ["levy/levylaw3.none"], apart := false, laid := [("levy/levylaw3.none", laid_levy_levylaw3_none)], narrowed := true }
def TrieKeepsUptoSaid : Prop := trieKeepsUptoRow.holds Tryd.pinned (OpenSpec.upto trieKeepsSpec)

/-- 'levylaw3.TrieFrom', WHERE WHAT IT READS IS OF BULK AT MOST 1048576: true; the input reads as it did. -/
def trieFromUptoRow : OpenClaim := { program := "ytmlkceganilboaadoor", sum := "bc3a68491b5a70a9e5b9bee045f95a48dbd8b325a0ac31207acb8599bede5ef0", func := "levy/levylaw3.TrieFrom", spec := "trieFrom", unfollowed := true, recurses := true, named := ["levy/levylaw3.none"], apart := false, laid := [("levy/levylaw3.none", laid_levy_levylaw3_none)], narrowed := true }
def TrieFromUptoSaid : Prop := trieFromUptoRow.holds Tryd.pinned (OpenSpec.upto trieFromSpec)

end Rows
end Go.Proofs.YtmlkceganilboaaDoor
