/- What every law of layer 7 begins with: a few filters answer as told. -/
import Derived.Test.YtjaccokmficfdaaLpcI
import Derived.Test.YtjaccokmficfdaaMA
namespace Go.Proofs.Ytjaccokmficfdaa
open Go.RowKit

end Go.Proofs.Ytjaccokmficfdaa
