/- The document's own reader is made. -/
import Derived.Test.YtinjkffkkmbioabRsD
namespace Go.Proofs.Ytinjkffkkmbioab
open Go.RowKit

/-- The state as the record is laid. -/
def rawS : St := { rng := 128, val := 0, last := 0, front := 0, raw := 0, cnt := 9, bad := false }

/-- Where the bytes lie, or, where there are none, anywhere. -/
def homeOf (n g p : Nat) : Nat := if 0 < n then g else p

end Go.Proofs.Ytinjkffkkmbioab
