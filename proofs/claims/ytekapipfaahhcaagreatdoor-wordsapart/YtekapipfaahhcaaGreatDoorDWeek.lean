import Derived.Test.YtekapipfaahhcaaGreatDoorProg
import Derived.Test.YtekapipfaahhcaaGreatDoorDPlain
import Derived.WalkKit
import Derived.WalkSpells
import Derived.WalkLawsBesides
import Derived.Deep.QuietTactic
import Derived.BigQuiet
namespace Go.Proofs.YtekapipfaahhcaaGreatDoor
open Go.RowKit

theorem wrap64_id {z : Int} (h1 : -9000000000000000000 ≤ z) (h2 : z ≤ 9000000000000000000) : wrap64 z = z := by unfold wrap64; omega
theorem ret_bool {a b : Bool} (h : a = b) : Ending.returned (.bool a) = .returned (.bool b) := by rw [h]
theorem ret_int {a b : Int} (h : a = b) : Ending.returned (.int .i64 a) = .returned (.int .i64 b) := by rw [h]



end Go.Proofs.YtekapipfaahhcaaGreatDoor
