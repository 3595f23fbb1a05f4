/- The document's own reader: going on; to choose, to take; flags; how much was read. -/
import Derived.Test.YtinjkffkkmbioabRsO
namespace Go.Proofs.Ytinjkffkkmbioab
open Go.RowKit

theorem ret_u64 {a b : Int} (h : a = b) : Ending.returned (.int .u64 a) = Ending.returned (.int .u64 b) := by rw [h]

theorem cast_part' (E a b : Nat) (h : b ≤ a) : ((E * (a - b) : Nat) : Int) = (E : Int) * ((a : Int) - (b : Int)) := by
  rw [Int.natCast_mul, Int.ofNat_sub h]

end Go.Proofs.Ytinjkffkkmbioab
