/- Frequencies become a filter: the document's own call. -/
import Derived.Test.YtjaccokmficfdabLpcS
import Derived.Test.YtjaccokmficfdabTwo
namespace Go.Proofs.Ytjaccokmficfdab
open Go.RowKit

end Go.Proofs.Ytjaccokmficfdab
