/- The document's own reader: numbers that are mostly small. -/
import Derived.Test.YtinjkffkkmbioabRsC
namespace Go.Proofs.Ytinjkffkkmbioab
open Go.RowKit

end Go.Proofs.Ytinjkffkkmbioab
