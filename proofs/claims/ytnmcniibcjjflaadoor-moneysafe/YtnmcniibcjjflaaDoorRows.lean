/-
  NARROWER THAN 'FOR EVERY INPUT', by the rows' own cells (each row's printed sentence says how): MoneySums: laid · MoneySafe: laid · MoneyPlays: laid.
  DERIVED. THE GIVEN ROWS OF THIS SEAT. 3 by the template 'for every input the law returns true; each argument reads behind the call as it read before'; 0 by the template 'total and deterministic' (their statements: YtnmcniibcjjflaaDoorTotals.lean).
  GIVEN WITH THE SEED: the statements are not yours to turn. If you find one false, say at which input.
  Laid BY PROGRAM, IN A SANDBOX (cutbox-rows.mjs): the forced cells as the released guide's own fill.sh prints them over the translation 234d97265e9e083a… (all of the seat's roots in one cut). By AI agents, Wed Nov 11 2026. No macro, syntax, notation, axiom, sorry.
-/
import Derived.Test.YtnmcniibcjjflaaDoorChecked
import GoSem.Claim
import GoSem.ClaimJoined
import GoSem.ClaimMapViews
import Derived.JoinedTies
import Derived.KernelRfl
namespace Go.Proofs.YtnmcniibcjjflaaDoor
/- THE CELL 'sum', in the pinned program and in every row, IS THE sha256 OF THE DUMP (.gsa) THAT YtnmcniibcjjflaaDoorProg.lean LOADS. Nothing in Lean hashes anything: it is a label: what it is worth is what the hold of that sum in a sandbox is worth. -/
noncomputable def Tryd.pinned : Pinned := { name := "ytnmcniibcjjflaadoor", sum := "234d97265e9e083abc78bcae8c24c41047117837b628f6c14e7de7190a502079", checked := Tryd.checked }
namespace Rows
def none {H : Type} : Left H := { results := [], args := [] }

/- WHAT THE LISTED PACKAGE-LEVEL VARIABLES READ AS WHEN THE CALL BEGINS. Each datum BY PROGRAM (the guide's laid-datum.mjs) off the statement by which the dump's own 'gosem.cut.vars' lays the variable. In a bare row this is a premise. The card (YtnmcniibcjjflaaDoorCards.lean) ties it to the program's text. -/
def laid_levy_money_kinds {H : Type} : DataW H := .agg [.agg [.lit (.int .i64 0), .lit (.int .i64 0), .lit (.int .i64 0)], .agg [.lit (.int .i64 (-9999999999999)), .lit (.int .i64 9999999999999), .lit (.int .i64 15)], .agg [.lit (.int .i64 (-1000000000)), .lit (.int .i64 1000000000), .lit (.int .i64 23)], .agg [.lit (.int .i64 0), .lit (.int .i64 1), .lit (.int .i64 4)], .agg [.lit (.int .i64 0), .lit (.int .i64 109572), .lit (.int .i64 6)], .agg [.lit (.int .i64 0), .lit (.int .i64 7), .lit (.int .i64 4)], .agg [.lit (.int .i64 1), .lit (.int .i64 5), .lit (.int .i64 0)]]

/-- 'levylaw1.MoneySums': WHATEVER THE INPUT: true; the input reads as it did. -/
def moneySumsSpec : ChangeSpec := { name := "moneySums", fn := fun _ => fun
  | [d1, d2] => { results := [.lit (.bool true)], args := [d1, d2] }
  | _ => none }
def moneySumsRow : OpenClaim := { program := "ytnmcniibcjjflaadoor", sum := "234d97265e9e083abc78bcae8c24c41047117837b628f6c14e7de7190a502079", func := "levy/levylaw1.MoneySums", spec := "moneySums", inPlace := ["math/bits.Add64"], unfollowed := true, recurses := true, named := ["levy/money.kinds"], apart := false, laid := [("levy/money.kinds", laid_levy_money_kinds)] }
def MoneySumsSaid : Prop := moneySumsRow.holds Tryd.pinned (OpenSpec.ofChange moneySumsSpec)

/-- ITS FALSE NEIGHBOUR: 'it returns false'. Refute it at one input. -/
def moneySumsWrong : ChangeSpec := { name := "moneySums", fn := fun _ => fun
  | [d1, d2] => { results := [.lit (.bool false)], args := [d1, d2] }
  | _ => none }
def MoneySumsWrongFalsely : Prop := moneySumsRow.holds Tryd.pinned (OpenSpec.ofChange moneySumsWrong)

/-- 'levylaw1.MoneySafe': WHATEVER THE INPUT: true; the input reads as it did. -/
def moneySafeSpec : ChangeSpec := { name := "moneySafe", fn := fun _ => fun
  | [d] => { results := [.lit (.bool true)], args := [d] }
  | _ => none }
def moneySafeRow : OpenClaim := { program := "ytnmcniibcjjflaadoor", sum := "234d97265e9e083abc78bcae8c24c41047117837b628f6c14e7de7190a502079", func := "levy/levylaw1.MoneySafe", spec := "moneySafe", inPlace := ["math/bits.Add64"], unfollowed := true, recurses := true, named := ["levy/money.kinds", "math/bits.divideError", "math/bits.overflowError"], apart := false, laid := [("levy/money.kinds", laid_levy_money_kinds)] }
def MoneySafeSaid : Prop := moneySafeRow.holds Tryd.pinned (OpenSpec.ofChange moneySafeSpec)

/-- ITS FALSE NEIGHBOUR: 'it returns false'. Refute it at one input. -/
def moneySafeWrong : ChangeSpec := { name := "moneySafe", fn := fun _ => fun
  | [d] => { results := [.lit (.bool false)], args := [d] }
  | _ => none }
def MoneySafeWrongFalsely : Prop := moneySafeRow.holds Tryd.pinned (OpenSpec.ofChange moneySafeWrong)

/-- 'levylaw1.MoneyPlays': WHATEVER THE INPUT: true; the input reads as it did. -/
def moneyPlaysSpec : ChangeSpec := { name := "moneyPlays", fn := fun _ => fun
  | [d] => { results := [.lit (.bool true)], args := [d] }
  | _ => none }
def moneyPlaysRow : OpenClaim := { program := "ytnmcniibcjjflaadoor", sum := "234d97265e9e083abc78bcae8c24c41047117837b628f6c14e7de7190a502079", func := "levy/levylaw1.MoneyPlays", spec := "moneyPlays", inPlace := ["math/bits.Add64"], unfollowed := true, recurses := true, named := ["levy/money.kinds", "math/bits.divideError", "math/bits.overflowError"], apart := false, laid := [("levy/money.kinds", laid_levy_money_kinds)] }
def MoneyPlaysSaid : Prop := moneyPlaysRow.holds Tryd.pinned (OpenSpec.ofChange moneyPlaysSpec)

/-- ITS FALSE NEIGHBOUR: 'it returns false'. Refute it at one input. -/
def moneyPlaysWrong : ChangeSpec := { name := "moneyPlays", fn := fun _ => fun
  | [d] => { results := [.lit (.bool false)], args := [d] }
  | _ => none }
def MoneyPlaysWrongFalsely : Prop := moneyPlaysRow.holds Tryd.pinned (OpenSpec.ofChange moneyPlaysWrong)

/- THE SECOND FORM. 'bulk': how many values and letters a reading holds, each counted each time it is reached (what is shared counts as often as it is met; a slice's spare places count too). A statement '..UptoSaid' is the law's where the arguments, and the package variables that the reading takes, are together of bulk at most 1048576: NARROWER than '..Said'. Prove '..Said' where nothing that the law and all that it calls make is longer than what came in: it says more and counts as full. Else prove '..UptoSaid'. A law counts once. -/
mutual
def uptoBulk {H : Type} : DataW H → Nat
  | .lit (.string bytes) => bytes.length + 1
  | .lit _ => 1
  | .nil => 1
  | .ptr d => uptoBulk d + 1
  | .slice elems spare => uptoBulkAll elems + uptoBulkAll spare + 1
  | .agg parts => uptoBulkAll parts + 1
  | .iface _ d => uptoBulk d + 1
  | .map entries => uptoBulkEntries entries + 1
  | .held _ => 1
def uptoBulkAll {H : Type} : List (DataW H) → Nat
  | [] => 0
  | d :: r => uptoBulk d + uptoBulkAll r
def uptoBulkEntries {H : Type} : List (Lit × DataW H) → Nat
  | [] => 0
  | x :: r => uptoBulkEntry x + uptoBulkEntries r
def uptoBulkEntry {H : Type} : Lit × DataW H → Nat
  | (.string bytes, d) => bytes.length + uptoBulk d + 1
  | (_, d) => uptoBulk d + 1
 end
def uptoSmall : (H : Type) → List (DataW H) → Bool := fun _ ds => decide (uptoBulkAll ds ≤ 1048576)
def OpenSpec.upto (s : _root_.Go.ChangeSpec) : _root_.Go.OpenSpec := { _root_.Go.OpenSpec.ofChange s with cond := some uptoSmall }

/-- 'levylaw1.MoneySums', WHERE WHAT IT READS IS OF BULK AT MOST 1048576: true; the input reads as it did. -/
def moneySumsUptoRow : OpenClaim := { program := "ytnmcniibcjjflaadoor", sum := "234d97265e9e083abc78bcae8c24c41047117837b628f6c14e7de7190a502079", func := "levy/levylaw1.MoneySums", spec := "moneySums", inPlace := ["math/bits.Add64"], unfollowed := true, recurses := true, named := ["levy/money.kinds"], apart := false, laid := [("levy/money.kinds", laid_levy_money_kinds)], narrowed := true }
def MoneySumsUptoSaid : Prop := moneySumsUptoRow.holds Tryd.pinned (OpenSpec.upto moneySumsSpec)

/-- 'levylaw1.MoneySafe', WHERE WHAT IT READS IS OF BULK AT MOST 1048576: true; the input reads as it did. -/
def moneySafeUptoRow : OpenClaim := { program := "ytnmcniibcjjflaadoor", sum := "234d97265e9e083abc78bcae8c24c41047117837b628f6c14e7de7190a502079", func := "levy/levylaw1.MoneySafe", spec := "moneySafe", inPlace := ["math/bits.Add64"], unfollowed := true, recurses := true, named := ["levy/money.kinds", "math/bits.divideError", "math/bits.overflowError"], apart := false, laid := [("levy/money.kinds", laid_levy_money_kinds)], narrowed := true }
def MoneySafeUptoSaid : Prop := moneySafeUptoRow.holds Tryd.pinned (OpenSpec.upto moneySafeSpec)

/-- 'levylaw1.MoneyPlays', WHERE WHAT IT READS IS OF BULK AT MOST 1048576: true; the input reads as it did. -/
def moneyPlaysUptoRow : OpenClaim := { program := "ytnmcniibcjjflaadoor", sum := "234d97265e9e083abc78bcae8c24c41047117837b628f6c14e7de7190a502079", func := "levy/levylaw1.MoneyPlays", spec := "moneyPlays", inPlace := ["math/bits.Add64"], unfollowed := true, recurses := true, named := ["levy/money.kinds", "math/bits.divideError", "math/bits.overflowError"], apart := false, laid := [("levy/money.kinds", laid_levy_money_kinds)], narrowed := true }
def MoneyPlaysUptoSaid : Prop := moneyPlaysUptoRow.holds Tryd.pinned (OpenSpec.upto moneyPlaysSpec)

end Rows
end Go.Proofs.YtnmcniibcjjflaaDoor
