/-
  DERIVED. GIVEN WITH THE SEED: THE CARDS: each row of YtdjfjcabfbencabDoorRows.lean that lists a variable, with what it lists TIED to the program's text (the seventh form; the later family's looks); each row that meets fmt, with fmt's text TOLD by the authors' own Lean function (tested against real Go, not proved from fmt's source: count such statements apart). THE CARD IS WHAT COUNTS. Prove the row's statement (the work); the ties are given (YtdjfjcabfbencabDoorTie.lean); close each card by the builder's one call (the guide's Derived/Test/ToyasCard.lean, 'card_holds'). Laid BY PROGRAM, IN A SANDBOX (cutbox-door.mjs). By AI agents, Wed Nov 11 2026. No macro, syntax, notation, axiom, sorry.
-/
import Derived.Test.YtdjfjcabfbencabDoorRows
import GoSem.ClaimSeven
namespace Go.Proofs.YtdjfjcabfbencabDoor
namespace Rows

/-- THE TIED CARD OF 'levylaw2.DaysDates'. -/
def daysDatesCard : Claim7 := { stood := { row := daysDatesRow, standIns := [], harness := (true, "023bd314e688afd0755ba0dfd3585e05402adfc505a050aae23bcaee6b2a2b60"), looks := false }, kinds := [], alts := [], laidByText := true, laidKinds := [.data], laidTests := true, laidLooks := .later }
def DaysDatesCardSaid : Prop := Claim7.holds Tryd.pinned (.plain (OpenSpec.ofChange daysDatesSpec)) daysDatesCard

/-- THE TIED CARD OF 'levylaw2.DaysTexts'. -/
def daysTextsCard : Claim7 := { stood := { row := daysTextsRow, standIns := [], harness := (true, "023bd314e688afd0755ba0dfd3585e05402adfc505a050aae23bcaee6b2a2b60"), looks := false }, kinds := [], alts := [], laidByText := true, laidKinds := [.data], laidTests := true, laidLooks := .later }
def DaysTextsCardSaid : Prop := Claim7.holds Tryd.pinned (.plain (OpenSpec.ofChange daysTextsSpec)) daysTextsCard

/-- THE TIED CARD OF 'levylaw2.DaysSpans'. -/
def daysSpansCard : Claim7 := { stood := { row := daysSpansRow, standIns := [], harness := (true, "023bd314e688afd0755ba0dfd3585e05402adfc505a050aae23bcaee6b2a2b60"), looks := false }, kinds := [], alts := [], laidByText := true, laidKinds := [.data], laidTests := true, laidLooks := .later }
def DaysSpansCardSaid : Prop := Claim7.holds Tryd.pinned (.plain (OpenSpec.ofChange daysSpansSpec)) daysSpansCard

/-- THE SECOND FORM's CARD OF 'levylaw2.DaysDates'. -/
def daysDatesUptoCard : Claim7 := { stood := { row := daysDatesUptoRow, standIns := [], harness := (true, "023bd314e688afd0755ba0dfd3585e05402adfc505a050aae23bcaee6b2a2b60"), looks := false }, kinds := [], alts := [], laidByText := true, laidKinds := [.data], laidTests := true, laidLooks := .later }
def DaysDatesUptoCardSaid : Prop := Claim7.holds Tryd.pinned (.plain (OpenSpec.upto daysDatesSpec)) daysDatesUptoCard

/-- THE SECOND FORM's CARD OF 'levylaw2.DaysTexts'. -/
def daysTextsUptoCard : Claim7 := { stood := { row := daysTextsUptoRow, standIns := [], harness := (true, "023bd314e688afd0755ba0dfd3585e05402adfc505a050aae23bcaee6b2a2b60"), looks := false }, kinds := [], alts := [], laidByText := true, laidKinds := [.data], laidTests := true, laidLooks := .later }
def DaysTextsUptoCardSaid : Prop := Claim7.holds Tryd.pinned (.plain (OpenSpec.upto daysTextsSpec)) daysTextsUptoCard

/-- THE SECOND FORM's CARD OF 'levylaw2.DaysSpans'. -/
def daysSpansUptoCard : Claim7 := { stood := { row := daysSpansUptoRow, standIns := [], harness := (true, "023bd314e688afd0755ba0dfd3585e05402adfc505a050aae23bcaee6b2a2b60"), looks := false }, kinds := [], alts := [], laidByText := true, laidKinds := [.data], laidTests := true, laidLooks := .later }
def DaysSpansUptoCardSaid : Prop := Claim7.holds Tryd.pinned (.plain (OpenSpec.upto daysSpansSpec)) daysSpansUptoCard
end Rows
end Go.Proofs.YtdjfjcabfbencabDoor
