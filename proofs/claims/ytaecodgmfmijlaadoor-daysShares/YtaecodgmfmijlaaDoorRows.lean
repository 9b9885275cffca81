/-
  NARROWER THAN 'FOR EVERY INPUT', by the rows' own cells (each row's printed sentence says how): DaysMonths: laid · DaysShares: laid · DaysWork: laid.
  DERIVED. THE GIVEN ROWS OF THIS SEAT. 3 by the template 'for every input the law returns true; each argument reads behind the call as it read before'; 0 by the template 'total and deterministic' (their statements: YtaecodgmfmijlaaDoorTotals.lean).
  GIVEN WITH THE SEED: the statements are not yours to turn. If you find one false, say at which input.
  Laid BY PROGRAM, IN A SANDBOX (cutbox-rows.mjs): the forced cells as the released guide's own fill.sh prints them over the translation 4d5ef6bb2bdb0ba6… (all of the seat's roots in one cut). By AI agents, Wed Nov 11 2026. No macro, syntax, notation, axiom, sorry.
-/
import Derived.Test.YtaecodgmfmijlaaDoorChecked
import GoSem.Claim
import GoSem.ClaimJoined
import GoSem.ClaimMapViews
import Derived.JoinedTies
import Derived.KernelRfl
namespace Go.Proofs.YtaecodgmfmijlaaDoor
/- THE CELL 'sum', in the pinned program and in every row, IS THE sha256 OF THE DUMP (.gsa) THAT YtaecodgmfmijlaaDoorProg.lean LOADS. Nothing in Lean hashes anything: it is a label: what it is worth is what the hold of that sum in a sandbox is worth. -/
noncomputable def Tryd.pinned : Pinned := { name := "ytaecodgmfmijlaadoor", sum := "4d5ef6bb2bdb0ba669e8123863b87ab63c9c58dd463f059ea4056c5274134ce2", checked := Tryd.checked }
namespace Rows
def none {H : Type} : Left H := { results := [], args := [] }

/- WHAT THE LISTED PACKAGE-LEVEL VARIABLES READ AS WHEN THE CALL BEGINS. Each datum BY PROGRAM (the guide's laid-datum.mjs) off the statement by which the dump's own 'gosem.cut.vars' lays the variable. In a bare row this is a premise. The card (YtaecodgmfmijlaaDoorCards.lean) ties it to the program's text. -/
def laid_levy_days_monthDays {H : Type} : DataW H := .agg [.lit (.int .i64 31), .lit (.int .i64 28), .lit (.int .i64 31), .lit (.int .i64 30), .lit (.int .i64 31), .lit (.int .i64 30), .lit (.int .i64 31), .lit (.int .i64 31), .lit (.int .i64 30), .lit (.int .i64 31), .lit (.int .i64 30), .lit (.int .i64 31)]

/-- 'levylaw2.DaysMonths': WHATEVER THE INPUT: true; the input reads as it did. -/
def daysMonthsSpec : ChangeSpec := { name := "daysMonths", fn := fun _ => fun
  | [d1, d2, d3] => { results := [.lit (.bool true)], args := [d1, d2, d3] }
  | _ => none }
def daysMonthsRow : OpenClaim := { program := "ytaecodgmfmijlaadoor", sum := "4d5ef6bb2bdb0ba669e8123863b87ab63c9c58dd463f059ea4056c5274134ce2", func := "levy/levylaw2.DaysMonths", spec := "daysMonths", unfollowed := true, recurses := true, named := ["levy/days.monthDays"], apart := false, laid := [("levy/days.monthDays", laid_levy_days_monthDays)] }
def DaysMonthsSaid : Prop := daysMonthsRow.holds Tryd.pinned (OpenSpec.ofChange daysMonthsSpec)

/-- ITS FALSE NEIGHBOUR: 'it returns false'. Refute it at one input. -/
def daysMonthsWrong : ChangeSpec := { name := "daysMonths", fn := fun _ => fun
  | [d1, d2, d3] => { results := [.lit (.bool false)], args := [d1, d2, d3] }
  | _ => none }
def DaysMonthsWrongFalsely : Prop := daysMonthsRow.holds Tryd.pinned (OpenSpec.ofChange daysMonthsWrong)

/-- 'levylaw2.DaysShares': WHATEVER THE INPUT: true; the input reads as it did. -/
def daysSharesSpec : ChangeSpec := { name := "daysShares", fn := fun _ => fun
  | [d1, d2] => { results := [.lit (.bool true)], args := [d1, d2] }
  | _ => none }
def daysSharesRow : OpenClaim := { program := "ytaecodgmfmijlaadoor", sum := "4d5ef6bb2bdb0ba669e8123863b87ab63c9c58dd463f059ea4056c5274134ce2", func := "levy/levylaw2.DaysShares", spec := "daysShares", unfollowed := true, recurses := true, named := ["levy/days.monthDays"], apart := false, laid := [("levy/days.monthDays", laid_levy_days_monthDays)] }
def DaysSharesSaid : Prop := daysSharesRow.holds Tryd.pinned (OpenSpec.ofChange daysSharesSpec)

/-- ITS FALSE NEIGHBOUR: 'it returns false'. Refute it at one input. -/
def daysSharesWrong : ChangeSpec := { name := "daysShares", fn := fun _ => fun
  | [d1, d2] => { results := [.lit (.bool false)], args := [d1, d2] }
  | _ => none }
def DaysSharesWrongFalsely : Prop := daysSharesRow.holds Tryd.pinned (OpenSpec.ofChange daysSharesWrong)

/-- 'levylaw2.DaysWork': WHATEVER THE INPUT: true; the input reads as it did. -/
def daysWorkSpec : ChangeSpec := { name := "daysWork", fn := fun _ => fun
  | [d1, d2] => { results := [.lit (.bool true)], args := [d1, d2] }
  | _ => none }
def daysWorkRow : OpenClaim := { program := "ytaecodgmfmijlaadoor", sum := "4d5ef6bb2bdb0ba669e8123863b87ab63c9c58dd463f059ea4056c5274134ce2", func := "levy/levylaw2.DaysWork", spec := "daysWork", named := ["levy/days.monthDays"], apart := false, laid := [("levy/days.monthDays", laid_levy_days_monthDays)] }
def DaysWorkSaid : Prop := daysWorkRow.holds Tryd.pinned (OpenSpec.ofChange daysWorkSpec)

/-- ITS FALSE NEIGHBOUR: 'it returns false'. Refute it at one input. -/
def daysWorkWrong : ChangeSpec := { name := "daysWork", fn := fun _ => fun
  | [d1, d2] => { results := [.lit (.bool false)], args := [d1, d2] }
  | _ => none }
def DaysWorkWrongFalsely : Prop := daysWorkRow.holds Tryd.pinned (OpenSpec.ofChange daysWorkWrong)

/- THE SECOND FORM. 'bulk': how many values and letters a reading holds, each counted each time it is reached (what is shared counts as often as it is met; a slice's spare places count too). A statement '..UptoSaid' is the law's where the arguments, and the package variables that the reading takes, are together of bulk at most 1048576: NARROWER than '..Said'. Prove '..Said' where nothing that the law and all that it calls make is longer than what came in: it says more and counts as full. Else prove '..UptoSaid'. A law counts once. -/
mutual
def uptoBulk {H : Type} : DataW H → Nat
  | .lit (.string bytes) => bytes.length + 1
  | .lit _ => 1
  | .nil => 1
  | .ptr d => uptoBulk d + 1
  | .slice elems spare => uptoBulkAll elems + uptoBulkAll spare + 1
  | .agg parts => uptoBulkAll parts + 1
  | .iface _ d => uptoBulk d + 1
  | .map entries => uptoBulkEntries entries + 1
  | .held _ => 1
def uptoBulkAll {H : Type} : List (DataW H) → Nat
  | [] => 0
  | d :: r => uptoBulk d + uptoBulkAll r
def uptoBulkEntries {H : Type} : List (Lit × DataW H) → Nat
  | [] => 0
  | x :: r => uptoBulkEntry x + uptoBulkEntries r
def uptoBulkEntry {H : Type} : Lit × DataW H → Nat
  | (.string bytes, d) => bytes.length + uptoBulk d + 1
  | (_, d) => uptoBulk d + 1
 end
def uptoSmall : (H : Type) → List (DataW H) → Bool := fun _ ds => decide (uptoBulkAll ds ≤ 1048576)
def OpenSpec.upto (s : _root_.Go.ChangeSpec) : _root_.Go.OpenSpec := { _root_.Go.OpenSpec.ofChange s with cond := some uptoSmall }

/-- 'levylaw2.DaysMonths', WHERE WHAT IT READS IS OF BULK AT MOST 1048576: true; the input reads as it did. -/
def daysMonthsUptoRow : OpenClaim := { program := "ytaecodgmfmijlaadoor", sum := "4d5ef6bb2bdb0ba669e8123863b87ab63c9c58dd463f059ea4056c5274134ce2", func := "levy/levylaw2.DaysMonths", spec := "daysMonths", unfollowed := true, recurses := true, named := ["levy/days.monthDays"], apart := false, laid := [("levy/days.monthDays", laid_levy_days_monthDays)], narrowed := true }
def DaysMonthsUptoSaid : Prop := daysMonthsUptoRow.holds Tryd.pinned (OpenSpec.upto daysMonthsSpec)

/-- 'levylaw2.DaysShares', WHERE WHAT IT READS IS OF BULK AT MOST 1048576: true; the input reads as it did. -/
def daysSharesUptoRow : OpenClaim := { program := "ytaecodgmfmijlaadoor", sum := "4d5ef6bb2bdb0ba669e8123863b87ab63c9c58dd463f059ea4056c5274134ce2", func := "levy/levylaw2.DaysShares", spec := "daysShares", unfollowed := true, recurses := true, named := ["levy/days.monthDays"], apart := false, laid := [("levy/days.monthDays", laid_levy_days_monthDays)], narrowed := true }
def DaysSharesUptoSaid : Prop := daysSharesUptoRow.holds Tryd.pinned (OpenSpec.upto daysSharesSpec)

/-- 'levylaw2.DaysWork', WHERE WHAT IT READS IS OF BULK AT MOST 1048576: true; the input reads as it did. -/
def daysWorkUptoRow : OpenClaim := { program := "ytaecodgmfmijlaadoor", sum := "4d5ef6bb2bdb0ba669e8123863b87ab63c9c58dd463f059ea4056c5274134ce2", func := "levy/levylaw2.DaysWork", spec := "daysWork", named := ["levy/days.monthDays"], apart := false, laid := [("levy/days.monthDays", laid_levy_days_monthDays)], narrowed := true }
def DaysWorkUptoSaid : Prop := daysWorkUptoRow.holds Tryd.pinned (OpenSpec.upto daysWorkSpec)

end Rows
end Go.Proofs.YtaecodgmfmijlaaDoor
