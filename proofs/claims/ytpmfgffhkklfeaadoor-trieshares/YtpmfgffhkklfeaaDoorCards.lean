/-
  DERIVED. GIVEN WITH THE SEED: THE CARDS: each row of YtpmfgffhkklfeaaDoorRows.lean that lists a variable, with what it lists TIED to the program's text (the seventh form; the later family's looks); each row that meets fmt, with fmt's text TOLD by the authors' own Lean function (tested against real Go, not proved from fmt's source: count such statements apart). THE CARD IS WHAT COUNTS. Prove the row's statement (the work); the ties are given (YtpmfgffhkklfeaaDoorTie.lean); close each card by the builder's one call (the guide's Derived/Test/ToyasCard.lean, 'card_holds'). Laid BY PROGRAM, IN A SANDBOX (cutbox-door.mjs). By AI agents, Wed Nov 11 2026. No macro, syntax, notation, axiom, sorry.
-/
import Derived.Test.YtpmfgffhkklfeaaDoorRows
import GoSem.ClaimSeven
namespace Go.Proofs.YtpmfgffhkklfeaaDoor
namespace Rows

/-- THE TIED CARD OF 'levylaw3.TrieShares'. -/
def trieSharesCard : Claim7 := { stood := { row := trieSharesRow, standIns := [], harness := (true, "2a83f3c16d5f4ac2c4ab5d71acdef2a087d5d4579abb0568249f38fedb8babf1"), looks := false }, kinds := [], alts := [], laidByText := true, laidKinds := [.data], laidTests := true, laidLooks := .later }
def TrieSharesCardSaid : Prop := Claim7.holds Tryd.pinned (.plain (OpenSpec.ofChange trieSharesSpec)) trieSharesCard

/-- THE TIED CARD OF 'levylaw3.TrieGrows'. -/
def trieGrowsCard : Claim7 := { stood := { row := trieGrowsRow, standIns := [], harness := (true, "2a83f3c16d5f4ac2c4ab5d71acdef2a087d5d4579abb0568249f38fedb8babf1"), looks := false }, kinds := [], alts := [], laidByText := true, laidKinds := [.data], laidTests := true, laidLooks := .later }
def TrieGrowsCardSaid : Prop := Claim7.holds Tryd.pinned (.plain (OpenSpec.ofChange trieGrowsSpec)) trieGrowsCard

/-- THE SECOND FORM's CARD OF 'levylaw3.TrieShares'. -/
def trieSharesUptoCard : Claim7 := { stood := { row := trieSharesUptoRow, standIns := [], harness := (true, "2a83f3c16d5f4ac2c4ab5d71acdef2a087d5d4579abb0568249f38fedb8babf1"), looks := false }, kinds := [], alts := [], laidByText := true, laidKinds := [.data], laidTests := true, laidLooks := .later }
def TrieSharesUptoCardSaid : Prop := Claim7.holds Tryd.pinned (.plain (OpenSpec.upto trieSharesSpec)) trieSharesUptoCard

/-- THE SECOND FORM's CARD OF 'levylaw3.TrieGrows'. -/
def trieGrowsUptoCard : Claim7 := { stood := { row := trieGrowsUptoRow, standIns := [], harness := (true, "2a83f3c16d5f4ac2c4ab5d71acdef2a087d5d4579abb0568249f38fedb8babf1"), looks := false }, kinds := [], alts := [], laidByText := true, laidKinds := [.data], laidTests := true, laidLooks := .later }
def TrieGrowsUptoCardSaid : Prop := Claim7.holds Tryd.pinned (.plain (OpenSpec.upto trieGrowsSpec)) trieGrowsUptoCard
end Rows
end Go.Proofs.YtpmfgffhkklfeaaDoor
