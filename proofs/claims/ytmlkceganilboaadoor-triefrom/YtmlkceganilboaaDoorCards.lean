/-
  DERIVED. GIVEN WITH THE SEED: THE CARDS: each row of YtmlkceganilboaaDoorRows.lean that lists a variable, with what it lists TIED to the program's text (the seventh form; the later family's looks); each row that meets fmt, with fmt's text TOLD by the authors' own Lean function (tested against real Go, not proved from fmt's source: count such statements apart). THE CARD IS WHAT COUNTS. Prove the row's statement (the work); the ties are given (YtmlkceganilboaaDoorTie.lean); close each card by the builder's one call (the guide's Derived/Test/ToyasCard.lean, 'card_holds'). Laid BY PROGRAM, IN A SANDBOX (cutbox-door.mjs). By AI agents, Wed Nov 11 2026. No macro, syntax, notation, axiom, sorry.
-/
import Derived.Test.YtmlkceganilboaaDoorRows
import GoSem.ClaimSeven
namespace Go.Proofs.YtmlkceganilboaaDoor
namespace Rows

/-- THE TIED CARD OF 'levylaw3.TrieKeeps'. -/
def trieKeepsCard : Claim7 := { stood := { row := trieKeepsRow, standIns := [], harness := (true, "4130dd56064100538d1c6dd6a6b8188eaa9b6526b1e9a8e09613abfcb6784934"), looks := false }, kinds := [], alts := [], laidByText := true, laidKinds := [.data], laidTests := true, laidLooks := .later }
def TrieKeepsCardSaid : Prop := Claim7.holds Tryd.pinned (.plain (OpenSpec.ofChange trieKeepsSpec)) trieKeepsCard

/-- THE TIED CARD OF 'levylaw3.TrieFrom'. -/
def trieFromCard : Claim7 := { stood := { row := trieFromRow, standIns := [], harness := (true, "4130dd56064100538d1c6dd6a6b8188eaa9b6526b1e9a8e09613abfcb6784934"), looks := false }, kinds := [], alts := [], laidByText := true, laidKinds := [.data], laidTests := true, laidLooks := .later }
def TrieFromCardSaid : Prop := Claim7.holds Tryd.pinned (.plain (OpenSpec.ofChange trieFromSpec)) trieFromCard

/-- THE SECOND FORM's CARD OF 'levylaw3.TrieKeeps'. -/
def trieKeepsUptoCard : Claim7 := { stood := { row := trieKeepsUptoRow, standIns := [], harness := (true, "4130dd56064100538d1c6dd6a6b8188eaa9b6526b1e9a8e09613abfcb6784934"), looks := false }, kinds := [], alts := [], laidByText := true, laidKinds := [.data], laidTests := true, laidLooks := .later }
def TrieKeepsUptoCardSaid : Prop := Claim7.holds Tryd.pinned (.plain (OpenSpec.upto trieKeepsSpec)) trieKeepsUptoCard

/-- THE SECOND FORM's CARD OF 'levylaw3.TrieFrom'. -/
def trieFromUptoCard : Claim7 := { stood := { row := trieFromUptoRow, standIns := [], harness := (true, "4130dd56064100538d1c6dd6a6b8188eaa9b6526b1e9a8e09613abfcb6784934"), looks := false }, kinds := [], alts := [], laidByText := true, laidKinds := [.data], laidTests := true, laidLooks := .later }
def TrieFromUptoCardSaid : Prop := Claim7.holds Tryd.pinned (.plain (OpenSpec.upto trieFromSpec)) trieFromUptoCard
end Rows
end Go.Proofs.YtmlkceganilboaaDoor
