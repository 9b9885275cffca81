import Derived.Test.YtepdkcjfibcliaaGreatDoorDNumber
namespace Go.Proofs.YtepdkcjfibcliaaGreatDoor
open Go.RowKit


end Go.Proofs.YtepdkcjfibcliaaGreatDoor
