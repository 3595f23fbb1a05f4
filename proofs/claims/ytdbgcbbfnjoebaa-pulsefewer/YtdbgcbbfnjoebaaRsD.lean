/- The document's own reader: numbers that are mostly small. -/
import Derived.Test.YtdbgcbbfnjoebaaRsC
namespace Go.Proofs.Ytdbgcbbfnjoebaa
open Go.RowKit

end Go.Proofs.Ytdbgcbbfnjoebaa
