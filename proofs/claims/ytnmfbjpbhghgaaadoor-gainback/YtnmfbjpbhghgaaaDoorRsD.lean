/- The document's own reader: numbers that are mostly small. -/
import Derived.Test.YtnmfbjpbhghgaaaDoorRsC
namespace Go.Proofs.YtnmfbjpbhghgaaaDoor
open Go.RowKit

end Go.Proofs.YtnmfbjpbhghgaaaDoor
