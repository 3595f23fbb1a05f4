/- A polynomial multiplied out: the document's own call. -/
import Derived.Test.YtjaccokmficfdabLpcQ
import Derived.Deep.RegionWith
import Derived.Deep.Light
namespace Go.Proofs.Ytjaccokmficfdab
open Go.RowKit

end Go.Proofs.Ytjaccokmficfdab
