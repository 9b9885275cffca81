/-
  DERIVED. GIVEN WITH THE SEED: THE CARDS: each row of YtjllbepecfajeabDoorRows.lean that lists a variable, with what it lists TIED to the program's text (the seventh form; the later family's looks); each row that meets fmt, with fmt's text TOLD by the authors' own Lean function (tested against real Go, not proved from fmt's source: count such statements apart). THE CARD IS WHAT COUNTS. Prove the row's statement (the work); the ties are given (YtjllbepecfajeabDoorTie.lean); close each card by the builder's one call (the guide's Derived/Test/ToyasCard.lean, 'card_holds'). Laid BY PROGRAM, IN A SANDBOX (cutbox-door.mjs). By AI agents, Wed Nov 11 2026. No macro, syntax, notation, axiom, sorry.
-/
import Derived.Test.YtjllbepecfajeabDoorRows
import GoSem.ClaimSeven
namespace Go.Proofs.YtjllbepecfajeabDoor
namespace Rows

/-- THE TIED CARD OF 'levylaw1.MoneyRounds'. -/
def moneyRoundsCard : Claim7 := { stood := { row := moneyRoundsRow, standIns := [], harness := (true, "0e8daa8ee371dfc55affc617b46d1a9cfcd05e4a0c30ae4199bcca11be673a8d"), looks := false }, kinds := [], alts := [], laidByText := true, laidKinds := [.data], laidTests := true, laidLooks := .later }
def MoneyRoundsCardSaid : Prop := Claim7.holds Tryd.pinned (.plain (OpenSpec.ofChange moneyRoundsSpec)) moneyRoundsCard

/-- THE TIED CARD OF 'levylaw1.MoneySplits'. -/
def moneySplitsCard : Claim7 := { stood := { row := moneySplitsRow, standIns := [], harness := (true, "0e8daa8ee371dfc55affc617b46d1a9cfcd05e4a0c30ae4199bcca11be673a8d"), looks := false }, kinds := [], alts := [], laidByText := true, laidKinds := [.data], laidTests := true, laidLooks := .later }
def MoneySplitsCardSaid : Prop := Claim7.holds Tryd.pinned (.plain (OpenSpec.ofChange moneySplitsSpec)) moneySplitsCard

/-- THE TIED CARD OF 'levylaw1.MoneyNear'. -/
def moneyNearCard : Claim7 := { stood := { row := moneyNearRow, standIns := [], harness := (true, "0e8daa8ee371dfc55affc617b46d1a9cfcd05e4a0c30ae4199bcca11be673a8d"), looks := false }, kinds := [], alts := [], laidByText := true, laidKinds := [.data], laidTests := true, laidLooks := .later }
def MoneyNearCardSaid : Prop := Claim7.holds Tryd.pinned (.plain (OpenSpec.ofChange moneyNearSpec)) moneyNearCard

/-- THE TIED CARD OF 'levylaw1.MoneyBands'. -/
def moneyBandsCard : Claim7 := { stood := { row := moneyBandsRow, standIns := [], harness := (true, "0e8daa8ee371dfc55affc617b46d1a9cfcd05e4a0c30ae4199bcca11be673a8d"), looks := false }, kinds := [], alts := [], laidByText := true, laidKinds := [.data], laidTests := true, laidLooks := .later }
def MoneyBandsCardSaid : Prop := Claim7.holds Tryd.pinned (.plain (OpenSpec.ofChange moneyBandsSpec)) moneyBandsCard

/-- THE TIED CARD OF 'levylaw1.MoneyScales'. -/
def moneyScalesCard : Claim7 := { stood := { row := moneyScalesRow, standIns := [], harness := (true, "0e8daa8ee371dfc55affc617b46d1a9cfcd05e4a0c30ae4199bcca11be673a8d"), looks := false }, kinds := [], alts := [], laidByText := true, laidKinds := [.data], laidTests := true, laidLooks := .later }
def MoneyScalesCardSaid : Prop := Claim7.holds Tryd.pinned (.plain (OpenSpec.ofChange moneyScalesSpec)) moneyScalesCard

/-- THE TIED CARD OF 'levylaw1.MoneyBack'. -/
def moneyBackCard : Claim7 := { stood := { row := moneyBackRow, standIns := [], harness := (true, "0e8daa8ee371dfc55affc617b46d1a9cfcd05e4a0c30ae4199bcca11be673a8d"), looks := false }, kinds := [], alts := [], laidByText := true, laidKinds := [.data], laidTests := true, laidLooks := .later }
def MoneyBackCardSaid : Prop := Claim7.holds Tryd.pinned (.plain (OpenSpec.ofChange moneyBackSpec)) moneyBackCard

/-- THE SECOND FORM's CARD OF 'levylaw1.MoneyRounds'. -/
def moneyRoundsUptoCard : Claim7 := { stood := { row := moneyRoundsUptoRow, standIns := [], harness := (true, "0e8daa8ee371dfc55affc617b46d1a9cfcd05e4a0c30ae4199bcca11be673a8d"), looks := false }, kinds := [], alts := [], laidByText := true, laidKinds := [.data], laidTests := true, laidLooks := .later }
def MoneyRoundsUptoCardSaid : Prop := Claim7.holds Tryd.pinned (.plain (OpenSpec.upto moneyRoundsSpec)) moneyRoundsUptoCard

/-- THE SECOND FORM's CARD OF 'levylaw1.MoneySplits'. -/
def moneySplitsUptoCard : Claim7 := { stood := { row := moneySplitsUptoRow, standIns := [], harness := (true, "0e8daa8ee371dfc55affc617b46d1a9cfcd05e4a0c30ae4199bcca11be673a8d"), looks := false }, kinds := [], alts := [], laidByText := true, laidKinds := [.data], laidTests := true, laidLooks := .later }
def MoneySplitsUptoCardSaid : Prop := Claim7.holds Tryd.pinned (.plain (OpenSpec.upto moneySplitsSpec)) moneySplitsUptoCard

/-- THE SECOND FORM's CARD OF 'levylaw1.MoneyNear'. -/
def moneyNearUptoCard : Claim7 := { stood := { row := moneyNearUptoRow, standIns := [], harness := (true, "0e8daa8ee371dfc55affc617b46d1a9cfcd05e4a0c30ae4199bcca11be673a8d"), looks := false }, kinds := [], alts := [], laidByText := true, laidKinds := [.data], laidTests := true, laidLooks := .later }
def MoneyNearUptoCardSaid : Prop := Claim7.holds Tryd.pinned (.plain (OpenSpec.upto moneyNearSpec)) moneyNearUptoCard

/-- THE SECOND FORM's CARD OF 'levylaw1.MoneyBands'. -/
def moneyBandsUptoCard : Claim7 := { stood := { row := moneyBandsUptoRow, standIns := [], harness := (true, "0e8daa8ee371dfc55affc617b46d1a9cfcd05e4a0c30ae4199bcca11be673a8d"), looks := false }, kinds := [], alts := [], laidByText := true, laidKinds := [.data], laidTests := true, laidLooks := .later }
def MoneyBandsUptoCardSaid : Prop := Claim7.holds Tryd.pinned (.plain (OpenSpec.upto moneyBandsSpec)) moneyBandsUptoCard

/-- THE SECOND FORM's CARD OF 'levylaw1.MoneyScales'. -/
def moneyScalesUptoCard : Claim7 := { stood := { row := moneyScalesUptoRow, standIns := [], harness := (true, "0e8daa8ee371dfc55affc617b46d1a9cfcd05e4a0c30ae4199bcca11be673a8d"), looks := false }, kinds := [], alts := [], laidByText := true, laidKinds := [.data], laidTests := true, laidLooks := .later }
def MoneyScalesUptoCardSaid : Prop := Claim7.holds Tryd.pinned (.plain (OpenSpec.upto moneyScalesSpec)) moneyScalesUptoCard

/-- THE SECOND FORM's CARD OF 'levylaw1.MoneyBack'. -/
def moneyBackUptoCard : Claim7 := { stood := { row := moneyBackUptoRow, standIns := [], harness := (true, "0e8daa8ee371dfc55affc617b46d1a9cfcd05e4a0c30ae4199bcca11be673a8d"), looks := false }, kinds := [], alts := [], laidByText := true, laidKinds := [.data], laidTests := true, laidLooks := .later }
def MoneyBackUptoCardSaid : Prop := Claim7.holds Tryd.pinned (.plain (OpenSpec.upto moneyBackSpec)) moneyBackUptoCard
end Rows
end Go.Proofs.YtjllbepecfajeabDoor
