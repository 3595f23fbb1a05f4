/- Does a filter die away: what the document's own call comes to. -/
import Derived.Test.YtjaccokmficfdabLpcI
import Derived.Test.YtjaccokmficfdabMA
namespace Go.Proofs.Ytjaccokmficfdab
open Go.RowKit

theorem NewRow.setFar {e : TypeId} {B : Nat} {w : World} {a : Option Addr} {zs : List Int} (h : NewRow e B w a zs) (h0 : 0 < zs.length) {g i : Nat} (hg : g < B) (v : Value) : NewRow e B (w.setCell ⟨g, i, .none⟩ v) a zs := by
  refine h.setOther (fun b e => ?_) v
  subst e
  have := (h.ge h0).1
  show b ≠ g
  omega
theorem clB_c17 (zs : List Int) : clB (-131072) 131072 zs = zs.map c17 := rfl

end Go.Proofs.Ytjaccokmficfdab
