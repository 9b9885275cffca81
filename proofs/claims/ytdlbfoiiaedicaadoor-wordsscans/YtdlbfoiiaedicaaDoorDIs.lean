import Derived.Test.YtdlbfoiiaedicaaDoorDWeek
namespace Go.Proofs.YtdlbfoiiaedicaaDoor
open Go.RowKit


end Go.Proofs.YtdlbfoiiaedicaaDoor
