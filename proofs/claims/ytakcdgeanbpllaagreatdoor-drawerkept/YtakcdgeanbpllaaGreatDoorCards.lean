/-
  DERIVED. GIVEN WITH THE SEED: THE CARDS: each row of YtakcdgeanbpllaaGreatDoorRows.lean that lists a variable, with what it lists TIED to the program's text (the seventh form; the later family's looks); each row that meets fmt, with fmt's text TOLD by the authors' own Lean function (tested against real Go, not proved from fmt's source: count such statements apart). THE CARD IS WHAT COUNTS. Prove the row's statement (the work); the ties are given (YtakcdgeanbpllaaGreatDoorTie.lean); close each card by the builder's one call (the guide's Derived/Test/ToyasCard.lean, 'card_holds'). Laid BY PROGRAM, IN A SANDBOX (cutbox-door.mjs). By AI agents, Wed Nov 11 2026. No macro, syntax, notation, axiom, sorry.
-/
import Derived.Test.YtakcdgeanbpllaaGreatDoorRows
import GoSem.ClaimSeven
namespace Go.Proofs.YtakcdgeanbpllaaGreatDoor
namespace Rows

/-- THE TIED CARD OF 'levylaw19.DrawerCost'. -/
def drawerCostCard : Claim7 := { stood := { row := drawerCostRow, standIns := [], harness := (true, "dcc36a3fe0f3e563dd26965b9af321c4cee1cb47ce0c6c17b4aa1de45e376fb4"), looks := true }, kinds := [], alts := [], laidByText := true, laidKinds := [.data, .data, .data, .sentinel, .sentinel], laidTests := true, laidLooks := .later }
def DrawerCostCardSaid : Prop := Claim7.holds Tryz.pinned (.plain (OpenSpec.ofChange drawerCostSpec)) drawerCostCard

/-- THE TIED CARD OF 'levylaw19.DrawerCut'. -/
def drawerCutCard : Claim7 := { stood := { row := drawerCutRow, standIns := [], harness := (true, "dcc36a3fe0f3e563dd26965b9af321c4cee1cb47ce0c6c17b4aa1de45e376fb4"), looks := true }, kinds := [], alts := [], laidByText := true, laidKinds := [.data, .data, .data, .sentinel, .sentinel], laidTests := true, laidLooks := .later }
def DrawerCutCardSaid : Prop := Claim7.holds Tryz.pinned (.plain (OpenSpec.ofChange drawerCutSpec)) drawerCutCard

/-- THE TIED CARD OF 'levylaw19.DrawerKept'. -/
def drawerKeptCard : Claim7 := { stood := { row := drawerKeptRow, standIns := [], harness := (true, "dcc36a3fe0f3e563dd26965b9af321c4cee1cb47ce0c6c17b4aa1de45e376fb4"), looks := true }, kinds := [], alts := [], laidByText := true, laidKinds := [.data, .data, .data, .sentinel, .sentinel], laidTests := true, laidLooks := .later }
def DrawerKeptCardSaid : Prop := Claim7.holds Tryz.pinned (.plain (OpenSpec.ofChange drawerKeptSpec)) drawerKeptCard

/-- THE TIED CARD OF 'levylaw19.DrawerAll'. -/
def drawerAllCard : Claim7 := { stood := { row := drawerAllRow, standIns := [], harness := (true, "dcc36a3fe0f3e563dd26965b9af321c4cee1cb47ce0c6c17b4aa1de45e376fb4"), looks := true }, kinds := [], alts := [], laidByText := true, laidKinds := [.data, .data, .data, .sentinel, .sentinel], laidTests := true, laidLooks := .later }
def DrawerAllCardSaid : Prop := Claim7.holds Tryz.pinned (.plain (OpenSpec.ofChange drawerAllSpec)) drawerAllCard

/-- THE SECOND FORM's CARD OF 'levylaw19.DrawerCost'. -/
def drawerCostUptoCard : Claim7 := { stood := { row := drawerCostUptoRow, standIns := [], harness := (true, "dcc36a3fe0f3e563dd26965b9af321c4cee1cb47ce0c6c17b4aa1de45e376fb4"), looks := true }, kinds := [], alts := [], laidByText := true, laidKinds := [.data, .data, .data, .sentinel, .sentinel], laidTests := true, laidLooks := .later }
def DrawerCostUptoCardSaid : Prop := Claim7.holds Tryz.pinned (.plain (OpenSpec.upto drawerCostSpec)) drawerCostUptoCard

/-- THE SECOND FORM's CARD OF 'levylaw19.DrawerCut'. -/
def drawerCutUptoCard : Claim7 := { stood := { row := drawerCutUptoRow, standIns := [], harness := (true, "dcc36a3fe0f3e563dd26965b9af321c4cee1cb47ce0c6c17b4aa1de45e376fb4"), looks := true }, kinds := [], alts := [], laidByText := true, laidKinds := [.data, .data, .data, .sentinel, .sentinel], laidTests := true, laidLooks := .later }
def DrawerCutUptoCardSaid : Prop := Claim7.holds Tryz.pinned (.plain (OpenSpec.upto drawerCutSpec)) drawerCutUptoCard

/-- THE SECOND FORM's CARD OF 'levylaw19.DrawerKept'. -/
def drawerKeptUptoCard : Claim7 := { stood := { row := drawerKeptUptoRow, standIns := [], harness := (true, "dcc36a3fe0f3e563dd26965b9af321c4cee1cb47ce0c6c17b4aa1de45e376fb4"), looks := true }, kinds := [], alts := [], laidByText := true, laidKinds := [.data, .data, .data, .sentinel, .sentinel], laidTests := true, laidLooks := .later }
def DrawerKeptUptoCardSaid : Prop := Claim7.holds Tryz.pinned (.plain (OpenSpec.upto drawerKeptSpec)) drawerKeptUptoCard

/-- THE SECOND FORM's CARD OF 'levylaw19.DrawerAll'. -/
def drawerAllUptoCard : Claim7 := { stood := { row := drawerAllUptoRow, standIns := [], harness := (true, "dcc36a3fe0f3e563dd26965b9af321c4cee1cb47ce0c6c17b4aa1de45e376fb4"), looks := true }, kinds := [], alts := [], laidByText := true, laidKinds := [.data, .data, .data, .sentinel, .sentinel], laidTests := true, laidLooks := .later }
def DrawerAllUptoCardSaid : Prop := Claim7.holds Tryz.pinned (.plain (OpenSpec.upto drawerAllSpec)) drawerAllUptoCard
end Rows
end Go.Proofs.YtakcdgeanbpllaaGreatDoor
