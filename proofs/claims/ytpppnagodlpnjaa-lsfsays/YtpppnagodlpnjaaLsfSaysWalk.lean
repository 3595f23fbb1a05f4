/- The law that all is as the document says answers true, of any order, index, lists and way. -/
import Derived.Test.YtpppnagodlpnjaaLsfSaysG
import Derived.Test.YtpppnagodlpnjaaLsfSaysN
namespace Go.Proofs.Ytpppnagodlpnjaa
open Go.RowKit

theorem lsfSays.walk (order : Int) (one : Int) (a0 : Option Addr) (l0 c0 : Nat) (z0 : List Int) (a1 : Option Addr) (l1 c1 : Nat) (z1 : List Int) (a2 : Option Addr) (l2 c2 : Nat) (z2 : List Int) (v : Int) (w : World)
    (_w0 : (Lit.int .i64 order).wf = true) (_w1 : (Lit.int .i64 one).wf = true) (h0 : IsRow .i64 w a0 l0 c0 z0) (h1 : IsRow .i64 w a1 l1 c1 z1) (h2 : IsRow .i64 w a2 l2 c2 z2) (_w4 : (Lit.int .i64 v).wf = true) :
    Calls Try.prog 4 #[.int .i64 order, .agg #[.int .i64 one, .slice a0 l0 c0], .slice a1 l1 c1, .slice a2 l2 c2, .int .i64 v] w fun e w' => e = .returned (.bool true) ∧ Below w.heap.size w w' := by
  obtain ⟨hz0, hm0, _⟩ := Zs.of_isRow h0
  obtain ⟨hz1, hm1, _⟩ := Zs.of_isRow h1
  obtain ⟨hz2, hm2, _⟩ := Zs.of_isRow h2
  unfold maxLen at hm0 hm1 hm2
  by_cases hl : l1 ≤ 100 ∧ l2 ≤ 100 ∧ l0 ≤ 100
  · obtain ⟨k1, k2, k0⟩ := hl
    by_cases hg : GoodX order one (z0.take l0)
    · by_cases hb : l1 = l2 ∧ l1 ≤ 64 ∧ 0 ≤ v ∧ v ≤ 4
      · by_cases hs : (order = 10 ∨ order = 16) ∧ (l1 : Int) = order
        · exact says_gbs order one a0 l0 c0 _ a1 l1 c1 _ a2 l2 c2 _ v w hz0 hz1 hz2 k0 k1 k2 hg hb hs
        · exact says_gbn order one a0 l0 c0 _ a1 l1 c1 _ a2 l2 c2 _ v w hz0 hz1 hz2 k0 k1 k2 hg hb hs
      · by_cases hs : (order = 10 ∨ order = 16) ∧ (l1 : Int) = order
        · exact says_gns order one a0 l0 c0 _ a1 l1 c1 _ a2 l2 c2 _ v w hz0 hz1 hz2 k0 k1 k2 hg hb hs
        · exact says_gnn order one a0 l0 c0 _ a1 l1 c1 _ a2 l2 c2 _ v w hz0 hz1 hz2 k0 k1 k2 hg hb hs
    · by_cases hb : l1 = l2 ∧ l1 ≤ 64 ∧ 0 ≤ v ∧ v ≤ 4
      · by_cases hs : (order = 10 ∨ order = 16) ∧ (l1 : Int) = order
        · exact says_nbs order one a0 l0 c0 _ a1 l1 c1 _ a2 l2 c2 _ v w hz0 hz1 hz2 k0 k1 k2 hg hb hs
        · exact says_nbn order one a0 l0 c0 _ a1 l1 c1 _ a2 l2 c2 _ v w hz0 hz1 hz2 k0 k1 k2 hg hb hs
      · by_cases hs : (order = 10 ∨ order = 16) ∧ (l1 : Int) = order
        · exact says_nns order one a0 l0 c0 _ a1 l1 c1 _ a2 l2 c2 _ v w hz0 hz1 hz2 k0 k1 k2 hg hb hs
        · exact says_nnn order one a0 l0 c0 _ a1 l1 c1 _ a2 l2 c2 _ v w hz0 hz1 hz2 k0 k1 k2 hg hb hs
  · exact says_far order one a0 l0 c0 a1 l1 c1 a2 l2 c2 v w hm0 hm1 hm2 (by omega)

end Go.Proofs.Ytpppnagodlpnjaa
