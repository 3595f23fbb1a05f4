/- Lists that a call grows: where they lie. -/
import Derived.Test.YtjaccokmficfdaaMA
import Derived.Deep.OwnRows
import Derived.OwnWalk
namespace Go.Proofs.Ytjaccokmficfdaa
open Go.RowKit

theorem ownsRow_of_block {w w' : World} {v : Value} {n : Nat} {xs : List Value} {B : Nat} {e : TypeId} {z : Nat} (h : w.ownsRow B e z v n xs) (hb : ∀ k, v.ownBlock = some k → w'.heap[k]? = w.heap[k]?) : w'.ownsRow B e z v n xs := by
  obtain ⟨hl, h⟩ := h
  refine ⟨hl, ?_⟩
  rcases h with h | ⟨g, cap, cur, rfl, hg, hh, hrest⟩
  · exact .inl h
  · exact .inr ⟨g, cap, cur, rfl, hg, (hb g rfl).trans hh, hrest⟩

theorem ownBlock_lt {w : World} {B : Nat} {e : TypeId} {z : Nat} {v : Value} {n : Nat} {xs : List Value} (h : w.ownsRow B e z v n xs) {k : Nat} (hk : v.ownBlock = some k) : k < w.heap.size := by
  obtain ⟨_, h1 | ⟨g, cap, cur, hv, _, hh, _⟩⟩ := h
  · rw [h1.1] at hk; cases hk
  · rw [hv] at hk
    cases hk
    exact (Array.getElem?_eq_some_iff.1 hh).1

theorem grown_after {w w1 w2 : World} {row : Option Nat} (h : Below w.heap.size w w1) (hg : w1.grownBy w2 row) : w.grownBy w2 row :=
  ⟨hg.os.trans h.os, hg.tape.trans h.tape, hg.output.trans h.output, Nat.le_trans h.size hg.size, fun k hk hne => (hg.block k (Nat.lt_of_lt_of_le hk h.size) hne).trans (h.block k hk)⟩

end Go.Proofs.Ytjaccokmficfdaa
