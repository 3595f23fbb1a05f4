/- Frequencies told by an index, and frequencies between two, as the document's own answer and the program's call have them. -/
import Derived.Test.YtjaccokmficfdabLsfH
namespace Go.Proofs.Ytjaccokmficfdab
open Go.RowKit

/-! ### Between two -/
def betweenL (xs ys : List Int) (v : Int) (n : Nat) : List Int := (List.range n).map fun k => betweenZ (atN xs k) (atN ys k) v
theorem betweenL_len (xs ys : List Int) (v : Int) (n : Nat) : (betweenL xs ys v n).length = n := by unfold betweenL; rw [List.length_map, List.length_range]
theorem betweenL_at {xs ys : List Int} {v : Int} {n k : Nat} (hk : k < n) : (betweenL xs ys v n)[k]?.getD 0 = clZ 0 32768 (xs[k]?.getD 0) + (clZ 0 32768 (ys[k]?.getD 0) - clZ 0 32768 (xs[k]?.getD 0)) * v / 4 := map_range_at _ _ _ hk
theorem way_in {x y v : Int} (hx : 0 ≤ x ∧ x ≤ 32768) (hy : 0 ≤ y ∧ y ≤ 32768) (hv : 0 ≤ v ∧ v ≤ 4) : -131072 ≤ (y - x) * v ∧ (y - x) * v ≤ 131072 := by
  have : v = 0 ∨ v = 1 ∨ v = 2 ∨ v = 3 ∨ v = 4 := by omega
  rcases this with rfl | rfl | rfl | rfl | rfl <;> omega

end Go.Proofs.Ytjaccokmficfdab
