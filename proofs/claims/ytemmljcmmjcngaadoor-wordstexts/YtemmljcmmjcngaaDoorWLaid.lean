import Derived.Test.YtemmljcmmjcngaaDoorWFmt
import Derived.Test.YtemmljcmmjcngaaDoorRows
import Derived.Test.YtemmljcmmjcngaaDoorTie
import Derived.Test.YtemmljcmmjcngaaDoorCards
import Derived.ProofKit
import Derived.LaidMore
import Derived.OpenShut
import Derived.Stop.Joined
import Derived.Lib.SmallJoins
import Derived.Lib.LaidTab
import Derived.LaidSub
import Derived.Deep.Strs
import Derived.SevenTiedAt
namespace Go.Proofs.YtemmljcmmjcngaaDoor
open Go.ChangeShapes Go.WideShapes Go.ChangeAt Go.WideMaps Go.WideElems Go.RowKit Go.Joins

theorem own : ownKnob Tryd.prog.godebug = none := by kernel_rfl
abbrev laidK : List (String × DataW Unit) := Rows.wordsTextsRow.laid
theorem gPow : Tryd.prog.globalNamed "internal/strconv.uint64pow10" = some 0 := by kernel_rfl
theorem tPow : (Tryd.prog.globals[0]?).map (·.type) = some 67 := by kernel_rfl
theorem cU64 : Tryd.prog.cellsOf 27 = 1 := by kernel_rfl
theorem cPow : Tryd.prog.cellsOf 67 = 20 := by kernel_rfl

/-- WHAT THE TIED TABLE GIVES THE WALKS. -/
theorem tab_of_laid {W : World} (h : laidMetH Tryd.prog laidK W) : Tab W := by
  rw [MakeChecks.laidMetH_plain _ _ _ (by kernel_rfl)] at h
  have e : List.filter (fun x => x.1 == "internal/strconv.uint64pow10") laidK = [("internal/strconv.uint64pow10", Lib.tabData .u64 Lib.pow10Tab)] := by kernel_rfl
  have h2 := h.filter (fun x => x.1 == "internal/strconv.uint64pow10")
  rw [e] at h2
  exact Lib.tabIs_of_head gPow tPow Tryd.underlying67 Tryd.underlying27 cU64 cPow h2

/-- The door's own heap, with the one table laid that the door does not lay. -/
noncomputable def doorW (os : Os) : World := { World.doorLaid Tryd.prog 400 os with heap := (World.doorLaid Tryd.prog 400 os).heap.setIfInBounds 3 (.cells (Go.Pinned.utf8FirstZ.map fun (z : Nat) => Value.int .u8 (z : Int)).toArray 86) }

set_option maxRecDepth 100000 in
theorem door_met (os : Os) (args : Array Value) : laidMetH Tryd.prog laidK ((doorW os).forCall (fun _ _ => 0) ⟨#[], args, []⟩).memory :=
  laidMetH_of_parts3 (fuel := 8) (laidMet_of_run' 8 (by kernel_rfl) (by kernel_rfl)) (by kernel_rfl) (by kernel_rfl)

theorem range64 {n : Int} (h : (Lit.int .i64 n).wf = true) : -9223372036854775808 ≤ n ∧ n ≤ 9223372036854775807 := by
  simp [Lit.wf, IntKind.min, IntKind.max, IntKind.signed, IntKind.bits] at h
  omega

end Go.Proofs.YtemmljcmmjcngaaDoor
