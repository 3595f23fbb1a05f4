/- Frequencies kept apart, as the document's own answer has it; may an index be, by the document's own word. -/
import Derived.Test.YtjaccokmficfdabLsfD
namespace Go.Proofs.Ytjaccokmficfdab
open Go.RowKit

theorem midUp_kept {c : List Int} {i : Nat} (h : i < c.length) (he : atLeast (lastUp c i) (c[i]?.getD 0) = c[i]?.getD 0) : midUp c (i + 1) = midUp c i := by
  rw [midUp_step h, he, ← midUp_at (Nat.le_refl i) h]
  exact set_own (by rw [midUp_len]; exact h)
theorem midDn_kept {u : List Int} {j : Nat} (h : j < u.length) (he : atMost (lastDn u (j + 1)) (u[j]?.getD 0) = u[j]?.getD 0) : midDn u j = midDn u (j + 1) := by
  rw [midDn_step h, he, ← midDn_at (Nat.lt_succ_self j) (Nat.succ_le_of_lt h)]
  exact set_own (by rw [midDn_len]; exact h)
theorem upCases (was x : Int) : (x < was + 250 ∧ atLeast was x = was + 250) ∨ (was + 250 ≤ x ∧ atLeast was x = x) := by
  unfold atLeast
  by_cases h : x < was + 250
  · exact .inl ⟨h, if_pos h⟩
  · exact .inr ⟨by omega, if_neg h⟩
theorem dnCases (was x : Int) : (was - 250 < x ∧ atMost was x = was - 250) ∨ (x ≤ was - 250 ∧ atMost was x = x) := by
  unfold atMost
  by_cases h : was - 250 < x
  · exact .inl ⟨h, if_pos h⟩
  · exact .inr ⟨by omega, if_neg h⟩

end Go.Proofs.Ytjaccokmficfdab
