/-
  DERIVED. GIVEN WITH THE SEED: THE CARDS: each row of YtmppgcijbeipfaaDoorRows.lean that lists a variable, with what it lists TIED to the program's text (the seventh form; the later family's looks); each row that meets fmt, with fmt's text TOLD by the authors' own Lean function (tested against real Go, not proved from fmt's source: count such statements apart). THE CARD IS WHAT COUNTS. Prove the row's statement (the work); the ties are given (YtmppgcijbeipfaaDoorTie.lean); close each card by the builder's one call (the guide's Derived/Test/ToyasCard.lean, 'card_holds'). Laid BY PROGRAM, IN A SANDBOX (cutbox-door.mjs). By AI agents, Wed Nov 11 2026. No macro, syntax, notation, axiom, sorry.
-/
import Derived.Test.YtmppgcijbeipfaaDoorRows
import GoSem.ClaimSeven
namespace Go.Proofs.YtmppgcijbeipfaaDoor
namespace Rows

/-- THE TIED CARD OF 'levylaw3.TrieAll'. -/
def trieAllCard : Claim7 := { stood := { row := trieAllRow, standIns := [], harness := (true, "2421b2f373c204a877a703a7ad92e2a83c3830e58c527f8cb2904a2a1164ca10"), looks := false }, kinds := [], alts := [], laidByText := true, laidKinds := [.data], laidTests := true, laidLooks := .later }
def TrieAllCardSaid : Prop := Claim7.holds Tryd.pinned (.plain (OpenSpec.ofChange trieAllSpec)) trieAllCard

/-- THE SECOND FORM's CARD OF 'levylaw3.TrieAll'. -/
def trieAllUptoCard : Claim7 := { stood := { row := trieAllUptoRow, standIns := [], harness := (true, "2421b2f373c204a877a703a7ad92e2a83c3830e58c527f8cb2904a2a1164ca10"), looks := false }, kinds := [], alts := [], laidByText := true, laidKinds := [.data], laidTests := true, laidLooks := .later }
def TrieAllUptoCardSaid : Prop := Claim7.holds Tryd.pinned (.plain (OpenSpec.upto trieAllSpec)) trieAllUptoCard
end Rows
end Go.Proofs.YtmppgcijbeipfaaDoor
