/- The document's own reader: symbols of a table, numbers below another. -/
import Derived.Test.YtfdfknfbnbeloabRsB
namespace Go.Proofs.Ytfdfknfbnbeloab
open Go.RowKit

end Go.Proofs.Ytfdfknfbnbeloab
