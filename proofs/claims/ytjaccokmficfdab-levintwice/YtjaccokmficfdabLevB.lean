/- What a filter leaves of a sound, and its power: the document's own Rest and Power. -/
import Derived.Test.YtjaccokmficfdabLevA
namespace Go.Proofs.Ytjaccokmficfdab
namespace Lev
open Go.RowKit

/-- The first k numbers of what is left. -/
def restTo (x a : List Int) (k : Nat) : List Int := (List.range k).map (restI x a)
theorem restTo_succ (x a : List Int) (k : Nat) : restTo x a (k + 1) = restTo x a k ++ [restI x a k] := by
  unfold restTo
  rw [List.range_succ, List.map_append]
  rfl

theorem c17L_at (a : List Int) (j : Nat) : (limL (-131072) 131072 a)[j]?.getD 0 = c17 (a[j]?.getD 0) := by
  unfold limL
  rw [List.getElem?_map]
  cases a[j]? <;> rfl

end Lev
end Go.Proofs.Ytjaccokmficfdab
