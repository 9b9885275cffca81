import Derived.Test.YtdlbfoiiaedicaaDoorDNumber
namespace Go.Proofs.YtdlbfoiiaedicaaDoor
open Go.RowKit


end Go.Proofs.YtdlbfoiiaedicaaDoor
