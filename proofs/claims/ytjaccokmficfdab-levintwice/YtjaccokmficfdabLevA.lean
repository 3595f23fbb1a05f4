/- How much a sound is like itself: the document's own Auto. -/
import Derived.Test.YtjaccokmficfdabLevinM
import Derived.Test.YtjaccokmficfdabLimL
namespace Go.Proofs.Ytjaccokmficfdab
namespace Lev
open Go.RowKit

theorem i64_wrap {z : Int} (h1 : -9223372036854775808 ≤ z) (h2 : z ≤ 9223372036854775807) : wrap64 z = z := by unfold wrap64; omega

theorem i64k_wrap {z : Int} (h1 : -9223372036854775808 ≤ z) (h2 : z ≤ 9223372036854775807) : IntKind.i64.wrap z = z := by rw [IntKind.wrap_i64]; omega

theorem limL_16 (zs : List Int) : limL (-32768) 32767 zs = s16L zs := rfl

theorem newRow_low {e : TypeId} {B B' : Nat} {w : World} {a : Option Addr} {zs : List Int} (h : NewRow e B w a zs) (hB : B' ≤ B) : NewRow e B' w a zs := by
  rcases h with h | ⟨b, c, h1, h2, h3⟩
  · exact .inl h
  · exact .inr ⟨b, c, h1, Nat.le_trans hB h2, h3⟩

/-- The first k numbers of a sound's likeness. -/
def autoTo (zs : List Int) (k : Nat) : List Int := (List.range k).map (autoI zs)
theorem autoTo_succ (zs : List Int) (k : Nat) : autoTo zs (k + 1) = autoTo zs k ++ [autoI zs k] := by
  unfold autoTo
  rw [List.range_succ, List.map_append]
  rfl
theorem autoTo_all (zs : List Int) (o : Nat) : autoTo zs (o + 1) = autoL zs o := rfl

end Lev
end Go.Proofs.Ytjaccokmficfdab
