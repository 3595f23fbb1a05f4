/- A filter weakened, fitted, measured: what the document's own calls come to. -/
import Derived.Test.YtjaccokmficfdabLpcK
namespace Go.Proofs.Ytjaccokmficfdab
open Go.RowKit

end Go.Proofs.Ytjaccokmficfdab
