/-
  NARROWER THAN 'FOR EVERY INPUT', by the rows' own cells (each row's printed sentence says how): TypesLooks: loops, laid.
  DERIVED. THE GIVEN ROWS OF THIS SEAT. 1 by the template 'for every input the law returns true; each argument reads behind the call as it read before'; 0 by the template 'total and deterministic' (their statements: YthnmjafoplfikaaGreatDoorTotals.lean).
  GIVEN WITH THE SEED: the statements are not yours to turn. If you find one false, say at which input.
  Laid BY PROGRAM, IN A SANDBOX (cutbox-rows.mjs): the forced cells as the released guide's own fill.sh prints them over the translation 8f938ae3d88ee0db… (all of the seat's roots in one cut). By AI agents, Wed Nov 11 2026. No macro, syntax, notation, axiom, sorry.
-/
import Derived.Test.YthnmjafoplfikaaGreatDoorChecked
import GoSem.Claim
import GoSem.ClaimJoined
import GoSem.ClaimMapViews
import Derived.JoinedTies
import Derived.KernelRfl
namespace Go.Proofs.YthnmjafoplfikaaGreatDoor
/- THE CELL 'sum', in the pinned program and in every row, IS THE sha256 OF THE DUMP (.gsa) THAT YthnmjafoplfikaaGreatDoorProg.lean LOADS. Nothing in Lean hashes anything: it is a label: what it is worth is what the hold of that sum in a sandbox is worth. -/
noncomputable def Tryz.pinned : Pinned := { name := "ythnmjafoplfikaagreatdoor", sum := "8f938ae3d88ee0db60302cfba768f4421323415c0f201ac48246543984989246", checked := Tryz.checked }
namespace Rows
def none {H : Type} : Left H := { results := [], args := [] }

/- WHAT THE LISTED PACKAGE-LEVEL VARIABLES READ AS WHEN THE CALL BEGINS. Each datum BY PROGRAM (the guide's laid-datum.mjs) off the statement by which the dump's own 'gosem.cut.vars' lays the variable. In a bare row this is a premise. The card (YthnmjafoplfikaaGreatDoorCards.lean) ties it to the program's text. -/
def laid_levy_money_kinds {H : Type} : DataW H := .agg [.agg [.lit (.int .i64 0), .lit (.int .i64 0), .lit (.int .i64 0)], .agg [.lit (.int .i64 (-9999999999999)), .lit (.int .i64 9999999999999), .lit (.int .i64 15)], .agg [.lit (.int .i64 (-1000000000)), .lit (.int .i64 1000000000), .lit (.int .i64 23)], .agg [.lit (.int .i64 0), .lit (.int .i64 1), .lit (.int .i64 4)], .agg [.lit (.int .i64 0), .lit (.int .i64 109572), .lit (.int .i64 6)], .agg [.lit (.int .i64 0), .lit (.int .i64 7), .lit (.int .i64 4)], .agg [.lit (.int .i64 1), .lit (.int .i64 5), .lit (.int .i64 0)]]

/-- 'levylaw6.TypesLooks': WHATEVER THE INPUT: true; the input reads as it did. -/
def typesLooksSpec : ChangeSpec := { name := "typesLooks", fn := fun _ => fun
  | [d1, d2, d3, d4, d5] => { results := [.lit (.bool true)], args := [d1, d2, d3, d4, d5] }
  | _ => none }
def typesLooksRow : OpenClaim := { program := "ythnmjafoplfikaagreatdoor", sum := "8f938ae3d88ee0db60302cfba768f4421323415c0f201ac48246543984989246", func := "levy/levylaw6.TypesLooks", spec := "typesLooks", unfollowed := true, recurses := true, named := ["levy/money.kinds"], loops := true, apart := false, laid := [("levy/money.kinds", laid_levy_money_kinds)] }
def TypesLooksSaid : Prop := typesLooksRow.holds Tryz.pinned (OpenSpec.ofChange typesLooksSpec)

/-- ITS FALSE NEIGHBOUR: 'it returns false'. Refute it at one input. -/
def typesLooksWrong : ChangeSpec := { name := "typesLooks", fn := fun _ => fun
  | [d1, d2, d3, d4, d5] => { results := [.lit (.bool false)], args := [d1, d2, d3, d4, d5] }
  | _ => none }
def TypesLooksWrongFalsely : Prop := typesLooksRow.holds Tryz.pinned (OpenSpec.ofChange typesLooksWrong)

/- THE SECOND FORM. 'bulk': how many values and letters a reading holds, each counted each time it is reached (what is shared counts as often as it is met; a slice's spare places count too). A statement '..UptoSaid' is the law's where the arguments, and the package variables that the reading takes, are together of bulk at most 1048576: NARROWER than '..Said'. Prove '..Said' where nothing that the law and all that it calls make is longer than what came in: it says more and counts as full. Else prove '..UptoSaid'. A law counts once. -/
mutual
def uptoBulk {H : Type} : DataW H → Nat
  | .lit (.string bytes) => bytes.length + 1
  | .lit _ => 1
  | .nil => 1
  | .ptr d => uptoBulk d + 1
  | .slice elems spare => uptoBulkAll elems + uptoBulkAll spare + 1
  | .agg parts => uptoBulkAll parts + 1
  | .iface _ d => uptoBulk d + 1
  | .map entries => uptoBulkEntries entries + 1
  | .held _ => 1
def uptoBulkAll {H : Type} : List (DataW H) → Nat
  | [] => 0
  | d :: r => uptoBulk d + uptoBulkAll r
def uptoBulkEntries {H : Type} : List (Lit × DataW H) → Nat
  | [] => 0
  | x :: r => uptoBulkEntry x + uptoBulkEntries r
def uptoBulkEntry {H : Type} : Lit × DataW H → Nat
  | (.string bytes, d) => bytes.length + uptoBulk d + 1
  | (_, d) => uptoBulk d + 1
 end
def uptoSmall : (H : Type) → List (DataW H) → Bool := fun _ ds => decide (uptoBulkAll ds ≤ 1048576)
def OpenSpec.upto (s : _root_.Go.ChangeSpec) : _root_.Go.OpenSpec := { _root_.Go.OpenSpec.ofChange s with cond := some uptoSmall }

/-- 'levylaw6.TypesLooks', WHERE WHAT IT READS IS OF BULK AT MOST 1048576: true; the input reads as it did. -/
def typesLooksUptoRow : OpenClaim := { program := "ythnmjafoplfikaagreatdoor", sum := "8f938ae3d88ee0db60302cfba768f4421323415c0f201ac48246543984989246", func := "levy/levylaw6.TypesLooks", spec := "typesLooks", unfollowed := true, recurses := true, named := ["levy/money.kinds"], loops := true, apart := false, laid := [("levy/money.kinds", laid_levy_money_kinds)], narrowed := true }
def TypesLooksUptoSaid : Prop := typesLooksUptoRow.holds Tryz.pinned (OpenSpec.upto typesLooksSpec)

end Rows
end Go.Proofs.YthnmjafoplfikaaGreatDoor
