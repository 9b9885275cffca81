/-
  DERIVED. GIVEN WITH THE SEED: THE CARDS: each row of YtjllbepecfajeaaDoorRows.lean that lists a variable, with what it lists TIED to the program's text (the seventh form; the later family's looks); each row that meets fmt, with fmt's text TOLD by the authors' own Lean function (tested against real Go, not proved from fmt's source: count such statements apart). THE CARD IS WHAT COUNTS. Prove the row's statement (the work); the ties are given (YtjllbepecfajeaaDoorTie.lean); close each card by the builder's one call (the guide's Derived/Test/ToyasCard.lean, 'card_holds'). Laid BY PROGRAM, IN A SANDBOX (cutbox-door.mjs). By AI agents, Wed Nov 11 2026. No macro, syntax, notation, axiom, sorry.
-/
import Derived.Test.YtjllbepecfajeaaDoorRows
import GoSem.ClaimSeven
namespace Go.Proofs.YtjllbepecfajeaaDoor
namespace Rows

/-- THE TIED CARD OF 'levylaw1.MoneyValids'. -/
def moneyValidsCard : Claim7 := { stood := { row := moneyValidsRow, standIns := [], harness := (true, "7b7fc71dc559912d83266436dd546d4ae9ca0b0340fb1949c350e12079092eb6"), looks := false }, kinds := [], alts := [], laidByText := true, laidKinds := [.data], laidTests := true, laidLooks := .later }
def MoneyValidsCardSaid : Prop := Claim7.holds Tryd.pinned (.plain (OpenSpec.ofChange moneyValidsSpec)) moneyValidsCard

/-- THE TIED CARD OF 'levylaw1.MoneySums'. -/
def moneySumsCard : Claim7 := { stood := { row := moneySumsRow, standIns := [], harness := (true, "7b7fc71dc559912d83266436dd546d4ae9ca0b0340fb1949c350e12079092eb6"), looks := false }, kinds := [], alts := [], laidByText := true, laidKinds := [.data], laidTests := true, laidLooks := .later }
def MoneySumsCardSaid : Prop := Claim7.holds Tryd.pinned (.plain (OpenSpec.ofChange moneySumsSpec)) moneySumsCard

/-- THE TIED CARD OF 'levylaw1.MoneyCompares'. -/
def moneyComparesCard : Claim7 := { stood := { row := moneyComparesRow, standIns := [], harness := (true, "7b7fc71dc559912d83266436dd546d4ae9ca0b0340fb1949c350e12079092eb6"), looks := false }, kinds := [], alts := [], laidByText := true, laidKinds := [.data], laidTests := true, laidLooks := .later }
def MoneyComparesCardSaid : Prop := Claim7.holds Tryd.pinned (.plain (OpenSpec.ofChange moneyComparesSpec)) moneyComparesCard

/-- THE TIED CARD OF 'levylaw1.MoneyClamps'. -/
def moneyClampsCard : Claim7 := { stood := { row := moneyClampsRow, standIns := [], harness := (true, "7b7fc71dc559912d83266436dd546d4ae9ca0b0340fb1949c350e12079092eb6"), looks := false }, kinds := [], alts := [], laidByText := true, laidKinds := [.data], laidTests := true, laidLooks := .later }
def MoneyClampsCardSaid : Prop := Claim7.holds Tryd.pinned (.plain (OpenSpec.ofChange moneyClampsSpec)) moneyClampsCard

/-- THE TIED CARD OF 'levylaw1.MoneyAdds'. -/
def moneyAddsCard : Claim7 := { stood := { row := moneyAddsRow, standIns := [], harness := (true, "7b7fc71dc559912d83266436dd546d4ae9ca0b0340fb1949c350e12079092eb6"), looks := false }, kinds := [], alts := [], laidByText := true, laidKinds := [.data], laidTests := true, laidLooks := .later }
def MoneyAddsCardSaid : Prop := Claim7.holds Tryd.pinned (.plain (OpenSpec.ofChange moneyAddsSpec)) moneyAddsCard

/-- THE TIED CARD OF 'levylaw1.MoneyTimes'. -/
def moneyTimesCard : Claim7 := { stood := { row := moneyTimesRow, standIns := [], harness := (true, "7b7fc71dc559912d83266436dd546d4ae9ca0b0340fb1949c350e12079092eb6"), looks := false }, kinds := [], alts := [], laidByText := true, laidKinds := [.data], laidTests := true, laidLooks := .later }
def MoneyTimesCardSaid : Prop := Claim7.holds Tryd.pinned (.plain (OpenSpec.ofChange moneyTimesSpec)) moneyTimesCard

/-- THE SECOND FORM's CARD OF 'levylaw1.MoneyValids'. -/
def moneyValidsUptoCard : Claim7 := { stood := { row := moneyValidsUptoRow, standIns := [], harness := (true, "7b7fc71dc559912d83266436dd546d4ae9ca0b0340fb1949c350e12079092eb6"), looks := false }, kinds := [], alts := [], laidByText := true, laidKinds := [.data], laidTests := true, laidLooks := .later }
def MoneyValidsUptoCardSaid : Prop := Claim7.holds Tryd.pinned (.plain (OpenSpec.upto moneyValidsSpec)) moneyValidsUptoCard

/-- THE SECOND FORM's CARD OF 'levylaw1.MoneySums'. -/
def moneySumsUptoCard : Claim7 := { stood := { row := moneySumsUptoRow, standIns := [], harness := (true, "7b7fc71dc559912d83266436dd546d4ae9ca0b0340fb1949c350e12079092eb6"), looks := false }, kinds := [], alts := [], laidByText := true, laidKinds := [.data], laidTests := true, laidLooks := .later }
def MoneySumsUptoCardSaid : Prop := Claim7.holds Tryd.pinned (.plain (OpenSpec.upto moneySumsSpec)) moneySumsUptoCard

/-- THE SECOND FORM's CARD OF 'levylaw1.MoneyCompares'. -/
def moneyComparesUptoCard : Claim7 := { stood := { row := moneyComparesUptoRow, standIns := [], harness := (true, "7b7fc71dc559912d83266436dd546d4ae9ca0b0340fb1949c350e12079092eb6"), looks := false }, kinds := [], alts := [], laidByText := true, laidKinds := [.data], laidTests := true, laidLooks := .later }
def MoneyComparesUptoCardSaid : Prop := Claim7.holds Tryd.pinned (.plain (OpenSpec.upto moneyComparesSpec)) moneyComparesUptoCard

/-- THE SECOND FORM's CARD OF 'levylaw1.MoneyClamps'. -/
def moneyClampsUptoCard : Claim7 := { stood := { row := moneyClampsUptoRow, standIns := [], harness := (true, "7b7fc71dc559912d83266436dd546d4ae9ca0b0340fb1949c350e12079092eb6"), looks := false }, kinds := [], alts := [], laidByText := true, laidKinds := [.data], laidTests := true, laidLooks := .later }
def MoneyClampsUptoCardSaid : Prop := Claim7.holds Tryd.pinned (.plain (OpenSpec.upto moneyClampsSpec)) moneyClampsUptoCard

/-- THE SECOND FORM's CARD OF 'levylaw1.MoneyAdds'. -/
def moneyAddsUptoCard : Claim7 := { stood := { row := moneyAddsUptoRow, standIns := [], harness := (true, "7b7fc71dc559912d83266436dd546d4ae9ca0b0340fb1949c350e12079092eb6"), looks := false }, kinds := [], alts := [], laidByText := true, laidKinds := [.data], laidTests := true, laidLooks := .later }
def MoneyAddsUptoCardSaid : Prop := Claim7.holds Tryd.pinned (.plain (OpenSpec.upto moneyAddsSpec)) moneyAddsUptoCard

/-- THE SECOND FORM's CARD OF 'levylaw1.MoneyTimes'. -/
def moneyTimesUptoCard : Claim7 := { stood := { row := moneyTimesUptoRow, standIns := [], harness := (true, "7b7fc71dc559912d83266436dd546d4ae9ca0b0340fb1949c350e12079092eb6"), looks := false }, kinds := [], alts := [], laidByText := true, laidKinds := [.data], laidTests := true, laidLooks := .later }
def MoneyTimesUptoCardSaid : Prop := Claim7.holds Tryd.pinned (.plain (OpenSpec.upto moneyTimesSpec)) moneyTimesUptoCard
end Rows
end Go.Proofs.YtjllbepecfajeaaDoor
