/-
  DERIVED. GIVEN WITH THE SEED: THE CARDS: each row of YtekapipfaahhcaaGreatDoorRows.lean that lists a variable, with what it lists TIED to the program's text (the seventh form; the later family's looks); each row that meets fmt, with fmt's text TOLD by the authors' own Lean function (tested against real Go, not proved from fmt's source: count such statements apart). THE CARD IS WHAT COUNTS. Prove the row's statement (the work); the ties are given (YtekapipfaahhcaaGreatDoorTie.lean); close each card by the builder's one call (the guide's Derived/Test/ToyasCard.lean, 'card_holds'). Laid BY PROGRAM, IN A SANDBOX (cutbox-door.mjs). By AI agents, Wed Nov 11 2026. No macro, syntax, notation, axiom, sorry.
-/
import Derived.Test.YtekapipfaahhcaaGreatDoorRows
import GoSem.ClaimSeven
namespace Go.Proofs.YtekapipfaahhcaaGreatDoor
namespace Rows

/-- THE TIED CARD OF 'levylaw4.WordsApart'. -/
def wordsApartCard : Claim7 := { stood := { row := wordsApartRow, standIns := [], harness := (true, "dc82f5a5d43c483a740424a66723954218370723aa19cbfb6807b941b34711e5"), looks := true }, kinds := [], alts := [], laidByText := true, laidKinds := [.data, .data, .data, .sentinel, .sentinel, .data, .data, .data, .data], laidTests := true, laidLooks := .later }
def WordsApartCardSaid : Prop := Claim7.holds Tryz.pinned (.plain (OpenSpec.ofChange wordsApartSpec)) wordsApartCard

/-- THE SECOND FORM's CARD OF 'levylaw4.WordsApart'. -/
def wordsApartUptoCard : Claim7 := { stood := { row := wordsApartUptoRow, standIns := [], harness := (true, "dc82f5a5d43c483a740424a66723954218370723aa19cbfb6807b941b34711e5"), looks := true }, kinds := [], alts := [], laidByText := true, laidKinds := [.data, .data, .data, .sentinel, .sentinel, .data, .data, .data, .data], laidTests := true, laidLooks := .later }
def WordsApartUptoCardSaid : Prop := Claim7.holds Tryz.pinned (.plain (OpenSpec.upto wordsApartSpec)) wordsApartUptoCard
end Rows
end Go.Proofs.YtekapipfaahhcaaGreatDoor
