import Derived.Test.YthbojlbgjmecoaaGreatPSum0
namespace Go.Proofs.YthbojlbgjmecoaaGreat
open Go.RowKit

end Go.Proofs.YthbojlbgjmecoaaGreat
