import Derived.Test.YtmppgcijbeipfaaDoorTRun
namespace Go.Proofs.YtmppgcijbeipfaaDoor
open Go.RowKit

end Go.Proofs.YtmppgcijbeipfaaDoor
