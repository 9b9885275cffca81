/-
  DERIVED. GIVEN WITH THE SEED: THE CARDS: each row of YtdlbfoiiaedicaaDoorRows.lean that lists a variable, with what it lists TIED to the program's text (the seventh form; the later family's looks); each row that meets fmt, with fmt's text TOLD by the authors' own Lean function (tested against real Go, not proved from fmt's source: count such statements apart). THE CARD IS WHAT COUNTS. Prove the row's statement (the work); the ties are given (YtdlbfoiiaedicaaDoorTie.lean); close each card by the builder's one call (the guide's Derived/Test/ToyasCard.lean, 'card_holds'). Laid BY PROGRAM, IN A SANDBOX (cutbox-door.mjs). By AI agents, Wed Nov 11 2026. No macro, syntax, notation, axiom, sorry.
-/
import Derived.Test.YtdlbfoiiaedicaaDoorRows
import GoSem.ClaimSeven
namespace Go.Proofs.YtdlbfoiiaedicaaDoor
namespace Rows

/-- THE TIED CARD OF 'levylaw4.WordsTokens'. -/
def wordsTokensCard : Claim7 := { stood := { row := wordsTokensRow, standIns := [], harness := (true, "49bb3d5a8f2806bdc6c3d2dc3b4f476f13edbec4598ed1b4566a7af0db6d0575"), looks := true }, kinds := [], alts := [], laidByText := true, laidKinds := [.data, .data, .data, .sentinel, .sentinel, .data, .data, .data, .data], laidTests := true, laidLooks := .later }
def WordsTokensCardSaid : Prop := Claim7.holds Tryd.pinned (.plain (OpenSpec.ofChange wordsTokensSpec)) wordsTokensCard

/-- THE TIED CARD OF 'levylaw4.WordsScans'. -/
def wordsScansCard : Claim7 := { stood := { row := wordsScansRow, standIns := [], harness := (true, "49bb3d5a8f2806bdc6c3d2dc3b4f476f13edbec4598ed1b4566a7af0db6d0575"), looks := true }, kinds := [], alts := [], laidByText := true, laidKinds := [.data, .data, .data, .sentinel, .sentinel, .data, .data, .data, .data], laidTests := true, laidLooks := .later }
def WordsScansCardSaid : Prop := Claim7.holds Tryd.pinned (.plain (OpenSpec.ofChange wordsScansSpec)) wordsScansCard

/-- THE SECOND FORM's CARD OF 'levylaw4.WordsTokens'. -/
def wordsTokensUptoCard : Claim7 := { stood := { row := wordsTokensUptoRow, standIns := [], harness := (true, "49bb3d5a8f2806bdc6c3d2dc3b4f476f13edbec4598ed1b4566a7af0db6d0575"), looks := true }, kinds := [], alts := [], laidByText := true, laidKinds := [.data, .data, .data, .sentinel, .sentinel, .data, .data, .data, .data], laidTests := true, laidLooks := .later }
def WordsTokensUptoCardSaid : Prop := Claim7.holds Tryd.pinned (.plain (OpenSpec.upto wordsTokensSpec)) wordsTokensUptoCard

/-- THE SECOND FORM's CARD OF 'levylaw4.WordsScans'. -/
def wordsScansUptoCard : Claim7 := { stood := { row := wordsScansUptoRow, standIns := [], harness := (true, "49bb3d5a8f2806bdc6c3d2dc3b4f476f13edbec4598ed1b4566a7af0db6d0575"), looks := true }, kinds := [], alts := [], laidByText := true, laidKinds := [.data, .data, .data, .sentinel, .sentinel, .data, .data, .data, .data], laidTests := true, laidLooks := .later }
def WordsScansUptoCardSaid : Prop := Claim7.holds Tryd.pinned (.plain (OpenSpec.upto wordsScansSpec)) wordsScansUptoCard
end Rows
end Go.Proofs.YtdlbfoiiaedicaaDoor
