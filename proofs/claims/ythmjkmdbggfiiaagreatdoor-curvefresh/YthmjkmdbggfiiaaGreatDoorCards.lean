/-
  DERIVED. GIVEN WITH THE SEED: THE CARDS: each row of YthmjkmdbggfiiaaGreatDoorRows.lean that lists a variable, with what it lists TIED to the program's text (the seventh form; the later family's looks); each row that meets fmt, with fmt's text TOLD by the authors' own Lean function (tested against real Go, not proved from fmt's source: count such statements apart). THE CARD IS WHAT COUNTS. Prove the row's statement (the work); the ties are given (YthmjkmdbggfiiaaGreatDoorTie.lean); close each card by the builder's one call (the guide's Derived/Test/ToyasCard.lean, 'card_holds'). Laid BY PROGRAM, IN A SANDBOX (cutbox-door.mjs). By AI agents, Wed Nov 11 2026. No macro, syntax, notation, axiom, sorry.
-/
import Derived.Test.YthmjkmdbggfiiaaGreatDoorRows
import GoSem.ClaimSeven
namespace Go.Proofs.YthmjkmdbggfiiaaGreatDoor
namespace Rows

/-- THE TIED CARD OF 'levylaw17.CurveFresh'. -/
def curveFreshCard : Claim7 := { stood := { row := curveFreshRow, standIns := [], harness := (true, "1f56b2f202b7038d4d54eb2179fcc529e09fbd594c5beec3b0473901a595fbe5"), looks := false }, kinds := [], alts := [], laidByText := true, laidKinds := [.data, .data, .data], laidTests := true, laidLooks := .later }
def CurveFreshCardSaid : Prop := Claim7.holds Tryz.pinned (.plain (OpenSpec.ofChange curveFreshSpec)) curveFreshCard

/-- THE SECOND FORM's CARD OF 'levylaw17.CurveFresh'. -/
def curveFreshUptoCard : Claim7 := { stood := { row := curveFreshUptoRow, standIns := [], harness := (true, "1f56b2f202b7038d4d54eb2179fcc529e09fbd594c5beec3b0473901a595fbe5"), looks := false }, kinds := [], alts := [], laidByText := true, laidKinds := [.data, .data, .data], laidTests := true, laidLooks := .later }
def CurveFreshUptoCardSaid : Prop := Claim7.holds Tryz.pinned (.plain (OpenSpec.upto curveFreshSpec)) curveFreshUptoCard
end Rows
end Go.Proofs.YthmjkmdbggfiiaaGreatDoor
