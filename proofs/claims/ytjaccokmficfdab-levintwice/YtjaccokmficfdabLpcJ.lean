/- What every law of layer 7 begins with: a few filters answer as told. -/
import Derived.Test.YtjaccokmficfdabLpcI
import Derived.Test.YtjaccokmficfdabMA
namespace Go.Proofs.Ytjaccokmficfdab
open Go.RowKit

end Go.Proofs.Ytjaccokmficfdab
