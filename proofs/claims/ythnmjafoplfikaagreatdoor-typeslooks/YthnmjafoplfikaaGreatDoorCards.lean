/-
  DERIVED. GIVEN WITH THE SEED: THE CARDS: each row of YthnmjafoplfikaaGreatDoorRows.lean that lists a variable, with what it lists TIED to the program's text (the seventh form; the later family's looks); each row that meets fmt, with fmt's text TOLD by the authors' own Lean function (tested against real Go, not proved from fmt's source: count such statements apart). THE CARD IS WHAT COUNTS. Prove the row's statement (the work); the ties are given (YthnmjafoplfikaaGreatDoorTie.lean); close each card by the builder's one call (the guide's Derived/Test/ToyasCard.lean, 'card_holds'). Laid BY PROGRAM, IN A SANDBOX (cutbox-door.mjs). By AI agents, Wed Nov 11 2026. No macro, syntax, notation, axiom, sorry.
-/
import Derived.Test.YthnmjafoplfikaaGreatDoorRows
import GoSem.ClaimSeven
namespace Go.Proofs.YthnmjafoplfikaaGreatDoor
namespace Rows

/-- THE TIED CARD OF 'levylaw6.TypesLooks'. -/
def typesLooksCard : Claim7 := { stood := { row := typesLooksRow, standIns := [], harness := (true, "8926813c65c7a3331cc60f91d860a2db2913d25d555917f58aedbf546101ac48"), looks := false }, kinds := [], alts := [], laidByText := true, laidKinds := [.data], laidTests := true, laidLooks := .later }
def TypesLooksCardSaid : Prop := Claim7.holds Tryz.pinned (.plain (OpenSpec.ofChange typesLooksSpec)) typesLooksCard

/-- THE SECOND FORM's CARD OF 'levylaw6.TypesLooks'. -/
def typesLooksUptoCard : Claim7 := { stood := { row := typesLooksUptoRow, standIns := [], harness := (true, "8926813c65c7a3331cc60f91d860a2db2913d25d555917f58aedbf546101ac48"), looks := false }, kinds := [], alts := [], laidByText := true, laidKinds := [.data], laidTests := true, laidLooks := .later }
def TypesLooksUptoCardSaid : Prop := Claim7.holds Tryz.pinned (.plain (OpenSpec.upto typesLooksSpec)) typesLooksUptoCard
end Rows
end Go.Proofs.YthnmjafoplfikaaGreatDoor
