/-
  DERIVED. GIVEN WITH THE SEED: THE CARDS: each row of YtoeabponjdkpjaaDoorRows.lean that lists a variable, with what it lists TIED to the program's text (the seventh form; the later family's looks); each row that meets fmt, with fmt's text TOLD by the authors' own Lean function (tested against real Go, not proved from fmt's source: count such statements apart). THE CARD IS WHAT COUNTS. Prove the row's statement (the work); the ties are given (YtoeabponjdkpjaaDoorTie.lean); close each card by the builder's one call (the guide's Derived/Test/ToyasCard.lean, 'card_holds'). Laid BY PROGRAM, IN A SANDBOX (cutbox-door.mjs). By AI agents, Wed Nov 11 2026. No macro, syntax, notation, axiom, sorry.
-/
import Derived.Test.YtoeabponjdkpjaaDoorRows
import GoSem.ClaimSeven
namespace Go.Proofs.YtoeabponjdkpjaaDoor
namespace Rows

/-- THE TIED CARD OF 'levylaw1.MoneySums'. -/
def moneySumsCard : Claim7 := { stood := { row := moneySumsRow, standIns := [], harness := (true, "7485499b149f9794ef31cbe4978fb0ad561003d9764214a9813eafb057d31e43"), looks := false }, kinds := [], alts := [], laidByText := true, laidKinds := [.data], laidTests := true, laidLooks := .later }
def MoneySumsCardSaid : Prop := Claim7.holds Tryd.pinned (.plain (OpenSpec.ofChange moneySumsSpec)) moneySumsCard

/-- THE TIED CARD OF 'levylaw1.MoneyBands'. -/
def moneyBandsCard : Claim7 := { stood := { row := moneyBandsRow, standIns := [], harness := (true, "7485499b149f9794ef31cbe4978fb0ad561003d9764214a9813eafb057d31e43"), looks := false }, kinds := [], alts := [], laidByText := true, laidKinds := [.data], laidTests := true, laidLooks := .later }
def MoneyBandsCardSaid : Prop := Claim7.holds Tryd.pinned (.plain (OpenSpec.ofChange moneyBandsSpec)) moneyBandsCard

/-- THE TIED CARD OF 'levylaw1.MoneyScales'. -/
def moneyScalesCard : Claim7 := { stood := { row := moneyScalesRow, standIns := [], harness := (true, "7485499b149f9794ef31cbe4978fb0ad561003d9764214a9813eafb057d31e43"), looks := false }, kinds := [], alts := [], laidByText := true, laidKinds := [.data], laidTests := true, laidLooks := .later }
def MoneyScalesCardSaid : Prop := Claim7.holds Tryd.pinned (.plain (OpenSpec.ofChange moneyScalesSpec)) moneyScalesCard

/-- THE TIED CARD OF 'levylaw1.MoneySafe'. -/
def moneySafeCard : Claim7 := { stood := { row := moneySafeRow, standIns := [], harness := (true, "7485499b149f9794ef31cbe4978fb0ad561003d9764214a9813eafb057d31e43"), looks := false }, kinds := [], alts := [], laidByText := true, laidKinds := [.data], laidTests := true, laidLooks := .later }
def MoneySafeCardSaid : Prop := Claim7.holds Tryd.pinned (.plain (OpenSpec.ofChange moneySafeSpec)) moneySafeCard

/-- THE TIED CARD OF 'levylaw1.MoneyBrackets'. -/
def moneyBracketsCard : Claim7 := { stood := { row := moneyBracketsRow, standIns := [], harness := (true, "7485499b149f9794ef31cbe4978fb0ad561003d9764214a9813eafb057d31e43"), looks := false }, kinds := [], alts := [], laidByText := true, laidKinds := [.data], laidTests := true, laidLooks := .later }
def MoneyBracketsCardSaid : Prop := Claim7.holds Tryd.pinned (.plain (OpenSpec.ofChange moneyBracketsSpec)) moneyBracketsCard

/-- THE TIED CARD OF 'levylaw1.MoneyPlays'. -/
def moneyPlaysCard : Claim7 := { stood := { row := moneyPlaysRow, standIns := [], harness := (true, "7485499b149f9794ef31cbe4978fb0ad561003d9764214a9813eafb057d31e43"), looks := false }, kinds := [], alts := [], laidByText := true, laidKinds := [.data], laidTests := true, laidLooks := .later }
def MoneyPlaysCardSaid : Prop := Claim7.holds Tryd.pinned (.plain (OpenSpec.ofChange moneyPlaysSpec)) moneyPlaysCard

/-- THE SECOND FORM's CARD OF 'levylaw1.MoneySums'. -/
def moneySumsUptoCard : Claim7 := { stood := { row := moneySumsUptoRow, standIns := [], harness := (true, "7485499b149f9794ef31cbe4978fb0ad561003d9764214a9813eafb057d31e43"), looks := false }, kinds := [], alts := [], laidByText := true, laidKinds := [.data], laidTests := true, laidLooks := .later }
def MoneySumsUptoCardSaid : Prop := Claim7.holds Tryd.pinned (.plain (OpenSpec.upto moneySumsSpec)) moneySumsUptoCard

/-- THE SECOND FORM's CARD OF 'levylaw1.MoneyBands'. -/
def moneyBandsUptoCard : Claim7 := { stood := { row := moneyBandsUptoRow, standIns := [], harness := (true, "7485499b149f9794ef31cbe4978fb0ad561003d9764214a9813eafb057d31e43"), looks := false }, kinds := [], alts := [], laidByText := true, laidKinds := [.data], laidTests := true, laidLooks := .later }
def MoneyBandsUptoCardSaid : Prop := Claim7.holds Tryd.pinned (.plain (OpenSpec.upto moneyBandsSpec)) moneyBandsUptoCard

/-- THE SECOND FORM's CARD OF 'levylaw1.MoneyScales'. -/
def moneyScalesUptoCard : Claim7 := { stood := { row := moneyScalesUptoRow, standIns := [], harness := (true, "7485499b149f9794ef31cbe4978fb0ad561003d9764214a9813eafb057d31e43"), looks := false }, kinds := [], alts := [], laidByText := true, laidKinds := [.data], laidTests := true, laidLooks := .later }
def MoneyScalesUptoCardSaid : Prop := Claim7.holds Tryd.pinned (.plain (OpenSpec.upto moneyScalesSpec)) moneyScalesUptoCard

/-- THE SECOND FORM's CARD OF 'levylaw1.MoneySafe'. -/
def moneySafeUptoCard : Claim7 := { stood := { row := moneySafeUptoRow, standIns := [], harness := (true, "7485499b149f9794ef31cbe4978fb0ad561003d9764214a9813eafb057d31e43"), looks := false }, kinds := [], alts := [], laidByText := true, laidKinds := [.data], laidTests := true, laidLooks := .later }
def MoneySafeUptoCardSaid : Prop := Claim7.holds Tryd.pinned (.plain (OpenSpec.upto moneySafeSpec)) moneySafeUptoCard

/-- THE SECOND FORM's CARD OF 'levylaw1.MoneyBrackets'. -/
def moneyBracketsUptoCard : Claim7 := { stood := { row := moneyBracketsUptoRow, standIns := [], harness := (true, "7485499b149f9794ef31cbe4978fb0ad561003d9764214a9813eafb057d31e43"), looks := false }, kinds := [], alts := [], laidByText := true, laidKinds := [.data], laidTests := true, laidLooks := .later }
def MoneyBracketsUptoCardSaid : Prop := Claim7.holds Tryd.pinned (.plain (OpenSpec.upto moneyBracketsSpec)) moneyBracketsUptoCard

/-- THE SECOND FORM's CARD OF 'levylaw1.MoneyPlays'. -/
def moneyPlaysUptoCard : Claim7 := { stood := { row := moneyPlaysUptoRow, standIns := [], harness := (true, "7485499b149f9794ef31cbe4978fb0ad561003d9764214a9813eafb057d31e43"), looks := false }, kinds := [], alts := [], laidByText := true, laidKinds := [.data], laidTests := true, laidLooks := .later }
def MoneyPlaysUptoCardSaid : Prop := Claim7.holds Tryd.pinned (.plain (OpenSpec.upto moneyPlaysSpec)) moneyPlaysUptoCard
end Rows
end Go.Proofs.YtoeabponjdkpjaaDoor
