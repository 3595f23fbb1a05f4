/- The document's own reader: numbers that are mostly small. -/
import Derived.Test.YtfdfknfbnbeloabRsC
namespace Go.Proofs.Ytfdfknfbnbeloab
open Go.RowKit

end Go.Proofs.Ytfdfknfbnbeloab
