/-
  DERIVED. GIVEN WITH THE SEED: THE CARDS: each row of YtaecodgmfmijlaaDoorRows.lean that lists a variable, with what it lists TIED to the program's text (the seventh form; the later family's looks); each row that meets fmt, with fmt's text TOLD by the authors' own Lean function (tested against real Go, not proved from fmt's source: count such statements apart). THE CARD IS WHAT COUNTS. Prove the row's statement (the work); the ties are given (YtaecodgmfmijlaaDoorTie.lean); close each card by the builder's one call (the guide's Derived/Test/ToyasCard.lean, 'card_holds'). Laid BY PROGRAM, IN A SANDBOX (cutbox-door.mjs). By AI agents, Wed Nov 11 2026. No macro, syntax, notation, axiom, sorry.
-/
import Derived.Test.YtaecodgmfmijlaaDoorRows
import GoSem.ClaimSeven
namespace Go.Proofs.YtaecodgmfmijlaaDoor
namespace Rows

/-- THE TIED CARD OF 'levylaw2.DaysMonths'. -/
def daysMonthsCard : Claim7 := { stood := { row := daysMonthsRow, standIns := [], harness := (true, "f925d6c1bb490f43938617a66562de5c3a2be85bb7ec3f50a88f16a0dbd346ef"), looks := false }, kinds := [], alts := [], laidByText := true, laidKinds := [.data], laidTests := true, laidLooks := .later }
def DaysMonthsCardSaid : Prop := Claim7.holds Tryd.pinned (.plain (OpenSpec.ofChange daysMonthsSpec)) daysMonthsCard

/-- THE TIED CARD OF 'levylaw2.DaysShares'. -/
def daysSharesCard : Claim7 := { stood := { row := daysSharesRow, standIns := [], harness := (true, "f925d6c1bb490f43938617a66562de5c3a2be85bb7ec3f50a88f16a0dbd346ef"), looks := false }, kinds := [], alts := [], laidByText := true, laidKinds := [.data], laidTests := true, laidLooks := .later }
def DaysSharesCardSaid : Prop := Claim7.holds Tryd.pinned (.plain (OpenSpec.ofChange daysSharesSpec)) daysSharesCard

/-- THE TIED CARD OF 'levylaw2.DaysWork'. -/
def daysWorkCard : Claim7 := { stood := { row := daysWorkRow, standIns := [], harness := (true, "f925d6c1bb490f43938617a66562de5c3a2be85bb7ec3f50a88f16a0dbd346ef"), looks := false }, kinds := [], alts := [], laidByText := true, laidKinds := [.data], laidTests := true, laidLooks := .later }
def DaysWorkCardSaid : Prop := Claim7.holds Tryd.pinned (.plain (OpenSpec.ofChange daysWorkSpec)) daysWorkCard

/-- THE SECOND FORM's CARD OF 'levylaw2.DaysMonths'. -/
def daysMonthsUptoCard : Claim7 := { stood := { row := daysMonthsUptoRow, standIns := [], harness := (true, "f925d6c1bb490f43938617a66562de5c3a2be85bb7ec3f50a88f16a0dbd346ef"), looks := false }, kinds := [], alts := [], laidByText := true, laidKinds := [.data], laidTests := true, laidLooks := .later }
def DaysMonthsUptoCardSaid : Prop := Claim7.holds Tryd.pinned (.plain (OpenSpec.upto daysMonthsSpec)) daysMonthsUptoCard

/-- THE SECOND FORM's CARD OF 'levylaw2.DaysShares'. -/
def daysSharesUptoCard : Claim7 := { stood := { row := daysSharesUptoRow, standIns := [], harness := (true, "f925d6c1bb490f43938617a66562de5c3a2be85bb7ec3f50a88f16a0dbd346ef"), looks := false }, kinds := [], alts := [], laidByText := true, laidKinds := [.data], laidTests := true, laidLooks := .later }
def DaysSharesUptoCardSaid : Prop := Claim7.holds Tryd.pinned (.plain (OpenSpec.upto daysSharesSpec)) daysSharesUptoCard

/-- THE SECOND FORM's CARD OF 'levylaw2.DaysWork'. -/
def daysWorkUptoCard : Claim7 := { stood := { row := daysWorkUptoRow, standIns := [], harness := (true, "f925d6c1bb490f43938617a66562de5c3a2be85bb7ec3f50a88f16a0dbd346ef"), looks := false }, kinds := [], alts := [], laidByText := true, laidKinds := [.data], laidTests := true, laidLooks := .later }
def DaysWorkUptoCardSaid : Prop := Claim7.holds Tryd.pinned (.plain (OpenSpec.upto daysWorkSpec)) daysWorkUptoCard
end Rows
end Go.Proofs.YtaecodgmfmijlaaDoor
