import Derived.Test.YtmnnaghamiioaaaDoorDNumber
namespace Go.Proofs.YtmnnaghamiioaaaDoor
open Go.RowKit


end Go.Proofs.YtmnnaghamiioaaaDoor
