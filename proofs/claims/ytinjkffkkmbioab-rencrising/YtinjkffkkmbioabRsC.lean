/- The document's own reader: symbols of a table, numbers below another. -/
import Derived.Test.YtinjkffkkmbioabRsB
namespace Go.Proofs.Ytinjkffkkmbioab
open Go.RowKit

end Go.Proofs.Ytinjkffkkmbioab
