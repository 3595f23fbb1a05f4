/- Two small walks of lists: are two the same; may a table of probabilities be? -/
import Derived.Test.YtgiellpepnbpcaaDoorTabsB
namespace Go.Proofs.YtgiellpepnbpcaaDoor
open Go.RowKit

/-! ### May a table be? -/
/-- Does each lie below the one ahead? -/
def falls : Int → List Int → Bool
  | _, [] => true
  | p, x :: l => if p ≤ x then false else falls x l

def goodB (zs : List Int) : Bool := decide (1 ≤ zs.length) && (decide (zs.length ≤ 256) && (decide (zs[zs.length - 1]?.getD 0 = 0) && falls 256 zs))

/-- What is ahead of the place k. -/
def aheadOf (zs : List Int) (k : Nat) : Int := if k = 0 then 256 else zs[k - 1]?.getD 0

theorem falls_drop (p : Int) (zs : List Int) (k : Nat) (h : k < zs.length) :
    falls p (zs.drop k) = if p ≤ zs[k]?.getD 0 then false else falls (zs[k]?.getD 0) (zs.drop (k + 1)) := by
  rw [List.drop_eq_getElem_cons h, List.getElem?_eq_getElem h]; rfl

theorem falls_end (p : Int) (zs : List Int) (k : Nat) (h : zs.length ≤ k) : falls p (zs.drop k) = true := by
  rw [List.drop_eq_nil_of_le h]; rfl

end Go.Proofs.YtgiellpepnbpcaaDoor
