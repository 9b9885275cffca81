/-
  DERIVED. GIVEN WITH THE SEED: THE CARDS: each row of YtnmcniibcjjflaaDoorRows.lean that lists a variable, with what it lists TIED to the program's text (the seventh form; the later family's looks); each row that meets fmt, with fmt's text TOLD by the authors' own Lean function (tested against real Go, not proved from fmt's source: count such statements apart). THE CARD IS WHAT COUNTS. Prove the row's statement (the work); the ties are given (YtnmcniibcjjflaaDoorTie.lean); close each card by the builder's one call (the guide's Derived/Test/ToyasCard.lean, 'card_holds'). Laid BY PROGRAM, IN A SANDBOX (cutbox-door.mjs). By AI agents, Wed Nov 11 2026. No macro, syntax, notation, axiom, sorry.
-/
import Derived.Test.YtnmcniibcjjflaaDoorRows
import GoSem.ClaimSeven
namespace Go.Proofs.YtnmcniibcjjflaaDoor
namespace Rows

/-- THE TIED CARD OF 'levylaw1.MoneySums'. -/
def moneySumsCard : Claim7 := { stood := { row := moneySumsRow, standIns := [], harness := (true, "f1bc4980daa3e58734429dbe085236e2791bd66a3b6092c74fce380ff20be19f"), looks := false }, kinds := [], alts := [], laidByText := true, laidKinds := [.data], laidTests := true, laidLooks := .later }
def MoneySumsCardSaid : Prop := Claim7.holds Tryd.pinned (.plain (OpenSpec.ofChange moneySumsSpec)) moneySumsCard

/-- THE TIED CARD OF 'levylaw1.MoneySafe'. -/
def moneySafeCard : Claim7 := { stood := { row := moneySafeRow, standIns := [], harness := (true, "f1bc4980daa3e58734429dbe085236e2791bd66a3b6092c74fce380ff20be19f"), looks := false }, kinds := [], alts := [], laidByText := true, laidKinds := [.data], laidTests := true, laidLooks := .later }
def MoneySafeCardSaid : Prop := Claim7.holds Tryd.pinned (.plain (OpenSpec.ofChange moneySafeSpec)) moneySafeCard

/-- THE TIED CARD OF 'levylaw1.MoneyPlays'. -/
def moneyPlaysCard : Claim7 := { stood := { row := moneyPlaysRow, standIns := [], harness := (true, "f1bc4980daa3e58734429dbe085236e2791bd66a3b6092c74fce380ff20be19f"), looks := false }, kinds := [], alts := [], laidByText := true, laidKinds := [.data], laidTests := true, laidLooks := .later }
def MoneyPlaysCardSaid : Prop := Claim7.holds Tryd.pinned (.plain (OpenSpec.ofChange moneyPlaysSpec)) moneyPlaysCard

/-- THE SECOND FORM's CARD OF 'levylaw1.MoneySums'. -/
def moneySumsUptoCard : Claim7 := { stood := { row := moneySumsUptoRow, standIns := [], harness := (true, "f1bc4980daa3e58734429dbe085236e2791bd66a3b6092c74fce380ff20be19f"), looks := false }, kinds := [], alts := [], laidByText := true, laidKinds := [.data], laidTests := true, laidLooks := .later }
def MoneySumsUptoCardSaid : Prop := Claim7.holds Tryd.pinned (.plain (OpenSpec.upto moneySumsSpec)) moneySumsUptoCard

/-- THE SECOND FORM's CARD OF 'levylaw1.MoneySafe'. -/
def moneySafeUptoCard : Claim7 := { stood := { row := moneySafeUptoRow, standIns := [], harness := (true, "f1bc4980daa3e58734429dbe085236e2791bd66a3b6092c74fce380ff20be19f"), looks := false }, kinds := [], alts := [], laidByText := true, laidKinds := [.data], laidTests := true, laidLooks := .later }
def MoneySafeUptoCardSaid : Prop := Claim7.holds Tryd.pinned (.plain (OpenSpec.upto moneySafeSpec)) moneySafeUptoCard

/-- THE SECOND FORM's CARD OF 'levylaw1.MoneyPlays'. -/
def moneyPlaysUptoCard : Claim7 := { stood := { row := moneyPlaysUptoRow, standIns := [], harness := (true, "f1bc4980daa3e58734429dbe085236e2791bd66a3b6092c74fce380ff20be19f"), looks := false }, kinds := [], alts := [], laidByText := true, laidKinds := [.data], laidTests := true, laidLooks := .later }
def MoneyPlaysUptoCardSaid : Prop := Claim7.holds Tryd.pinned (.plain (OpenSpec.upto moneyPlaysSpec)) moneyPlaysUptoCard
end Rows
end Go.Proofs.YtnmcniibcjjflaaDoor
