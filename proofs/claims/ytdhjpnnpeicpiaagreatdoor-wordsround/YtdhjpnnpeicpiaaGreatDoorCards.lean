/-
  DERIVED. GIVEN WITH THE SEED: THE CARDS: each row of YtdhjpnnpeicpiaaGreatDoorRows.lean that lists a variable, with what it lists TIED to the program's text (the seventh form; the later family's looks); each row that meets fmt, with fmt's text TOLD by the authors' own Lean function (tested against real Go, not proved from fmt's source: count such statements apart). THE CARD IS WHAT COUNTS. Prove the row's statement (the work); the ties are given (YtdhjpnnpeicpiaaGreatDoorTie.lean); close each card by the builder's one call (the guide's Derived/Test/ToyasCard.lean, 'card_holds'). Laid BY PROGRAM, IN A SANDBOX (cutbox-door.mjs). By AI agents, Wed Nov 11 2026. No macro, syntax, notation, axiom, sorry.
-/
import Derived.Test.YtdhjpnnpeicpiaaGreatDoorRows
import GoSem.ClaimSeven
namespace Go.Proofs.YtdhjpnnpeicpiaaGreatDoor
namespace Rows

/-- THE TIED CARD OF 'levylaw4.WordsRound'. -/
def wordsRoundCard : Claim7 := { stood := { row := wordsRoundRow, standIns := [], harness := (true, "1a5e79e27ee9718e8b948204bf3c350812c50963e048b9421762f7d2cf336e1d"), looks := true }, kinds := [], alts := [], laidByText := true, laidKinds := [.data, .data, .data, .data, .sentinel, .sentinel, .data, .data, .data, .pinned], laidTests := true, laidLooks := .later }
def WordsRoundCardSaid : Prop := Claim7.holds Tryz.pinned (.plain (OpenSpec.ofChange wordsRoundSpec)) wordsRoundCard

/-- THE SECOND FORM's CARD OF 'levylaw4.WordsRound'. -/
def wordsRoundUptoCard : Claim7 := { stood := { row := wordsRoundUptoRow, standIns := [], harness := (true, "1a5e79e27ee9718e8b948204bf3c350812c50963e048b9421762f7d2cf336e1d"), looks := true }, kinds := [], alts := [], laidByText := true, laidKinds := [.data, .data, .data, .data, .sentinel, .sentinel, .data, .data, .data, .pinned], laidTests := true, laidLooks := .later }
def WordsRoundUptoCardSaid : Prop := Claim7.holds Tryz.pinned (.plain (OpenSpec.upto wordsRoundSpec)) wordsRoundUptoCard
end Rows
end Go.Proofs.YtdhjpnnpeicpiaaGreatDoor
