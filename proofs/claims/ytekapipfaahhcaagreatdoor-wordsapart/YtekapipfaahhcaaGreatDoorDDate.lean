import Derived.Test.YtekapipfaahhcaaGreatDoorDNumber
namespace Go.Proofs.YtekapipfaahhcaaGreatDoor
open Go.RowKit


end Go.Proofs.YtekapipfaahhcaaGreatDoor
