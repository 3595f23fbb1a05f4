/- What the document's own Pack comes to. (The ways of it are laid by wip/mkrpack.py.) -/
import Derived.Test.YtgiellpepnbpcaaDoorTocW
import Derived.Test.YtgiellpepnbpcaaDoorTocV
namespace Go.Proofs.YtgiellpepnbpcaaDoor
open Go.RowKit

/-- In the midst of putting together: bs so far, at v. -/
structure MidR (w : World) (k ch pad : Nat) (a : Option Addr) (n cap : Nat) (W : World) (v : Value) (bs : List Nat) : Prop where
  below : Below w.heap.size w W
  box : Four W w.heap.size 39 (.int .i64 (k : Nat)) (.int .i64 (ch : Nat)) (.slice a n cap) (.int .i64 (pad : Nat))
  own : Ob (w.heap.size + 1) W v bs

theorem MidR.size {w W : World} {k ch pad : Nat} {a : Option Addr} {n cap : Nat} {v : Value} {bs : List Nat} (h : MidR w k ch pad a n cap W v bs) : w.heap.size + 1 ≤ W.heap.size := h.box.lt
theorem MidR.step {w W W' : World} {k ch pad : Nat} {a : Option Addr} {n cap : Nat} {v v' : Value} {bs bs' : List Nat} (h : MidR w k ch pad a n cap W v bs) (hb : Below (w.heap.size + 1) W W') (ho : Ob (w.heap.size + 1) W' v' bs') : MidR w k ch pad a n cap W' v' bs' :=
  ⟨h.below.trans (hb.mono (by omega)), h.box.keepS hb, ho⟩

theorem ob_two (w : World) (z1 z2 : Int) (x1 x2 : Nat) (h1 : z1 = (x1 : Nat)) (h2 : z2 = (x2 : Nat)) {B : Nat} (hB : B ≤ w.heap.size) : Ob B (w.alloc (.cells #[.int .u8 z1, .int .u8 z2] 5)) (.slice (some ⟨w.heap.size, 0, none⟩) 2 2) [x1, x2] := by
  subst h1; subst h2
  exact ⟨rfl, .inr ⟨w.heap.size, 2, _, rfl, hB, heap_alloc_new w _, Nat.le_refl _, by decide, rfl, rfl⟩⟩

theorem ob_cast {B : Nat} {w : World} {v : Value} {m : Nat} {bs cs : List Nat} (h : w.ownsRow B 5 1 v m (bvals bs)) (e : bs = cs) (hm : m = cs.length) : Ob B w v cs := by
  subst e; subst hm; exact h

end Go.Proofs.YtgiellpepnbpcaaDoor
