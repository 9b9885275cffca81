import Derived.Test.YtjgngmmepheioaaPkQ9
namespace Go.Proofs.Ytjgngmmepheioaa
open Go.RowKit

end Go.Proofs.Ytjgngmmepheioaa
