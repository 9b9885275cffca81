import Derived.Test.YtekapipfaahhcaaGreatDoorDWeek
namespace Go.Proofs.YtekapipfaahhcaaGreatDoor
open Go.RowKit


end Go.Proofs.YtekapipfaahhcaaGreatDoor
