/- The document's list of clamped numbers. -/
import Derived.Test.YtjaccokmficfdabNumB
import Derived.Test.YtjaccokmficfdabMA
import Derived.OwnWalk
namespace Go.Proofs.Ytjaccokmficfdab
open Go.RowKit

def limL (lo hi : Int) (zs : List Int) : List Int := zs.map (fun z => clampI z lo hi)
theorem limL_len (lo hi : Int) (zs : List Int) : (limL lo hi zs).length = zs.length := by unfold limL; rw [List.length_map]
theorem limL_at {lo hi : Int} {zs : List Int} {j : Nat} (h : j < zs.length) : (limL lo hi zs)[j]?.getD 0 = clampI (zs[j]?.getD 0) lo hi := by
  unfold limL
  rw [List.getElem?_map, List.getElem?_eq_getElem h]
  rfl

end Go.Proofs.Ytjaccokmficfdab
