/- What more calls of package tabs, and of the document's own answers beside them, come to: bins, taps, frequencies; and two small walks of the laws: are two lists the same? -/
import Derived.Test.YtgiellpepnbpcaaDoorTabsB
import Derived.Deep.MidRow
namespace Go.Proofs.YtgiellpepnbpcaaDoor
open Go.RowKit

/-! ### Bins -/
def binsP (rate ms band : Int) : Int × Int :=
  if wideI ms = 0 ∨ band < 0 ∨ (edgesN rate : Int) - 1 ≤ band then (0, 0) else (wideI ms * edgesL[band.toNat]?.getD 0, wideI ms * edgesL[band.toNat + 1]?.getD 0)

theorem binsP_none {rate ms band : Int} (h : wideI ms = 0 ∨ band < 0 ∨ (edgesN rate : Int) - 1 ≤ band) : binsP rate ms band = (0, 0) := by rw [binsP, if_pos h]

theorem edge_in (i : Nat) : 0 ≤ edgesL[i]?.getD 0 ∧ edgesL[i]?.getD 0 ≤ 60 := at_list (fun x => 0 ≤ x ∧ x ≤ 60) (by decide) edgesL (by decide) i

theorem wideI_in (ms : Int) : 0 ≤ wideI ms ∧ wideI ms ≤ 8 := by
  unfold wideI
  split
  · decide
  · split <;> decide

theorem wide_mul {a b : Int} (ha : 0 ≤ a ∧ a ≤ 8) (hb : 0 ≤ b ∧ b ≤ 60) : 0 ≤ a * b ∧ a * b ≤ 480 :=
  ⟨Int.mul_nonneg ha.1 hb.1, Int.mul_le_mul ha.2 hb.2 hb.1 (by decide)⟩

theorem ms_wide (ms : Int) : (ms = 10 ∧ wideI ms = 4) ∨ (ms = 20 ∧ wideI ms = 8) ∨ (¬ ms = 10 ∧ ¬ ms = 20 ∧ wideI ms = 0) := by
  unfold wideI
  by_cases h1 : ms = 10
  · exact .inl ⟨h1, by rw [if_pos h1]⟩
  · by_cases h2 : ms = 20
    · exact .inr (.inl ⟨h2, by rw [if_neg h1, if_pos h2]⟩)
    · exact .inr (.inr ⟨h1, h2, by rw [if_neg h1, if_neg h2]⟩)

theorem ret_two {k l : IntKind} {a b c d : Int} (h : a = b) (h2 : c = d) : Ending.returned (.tuple #[.int k a, .int l c]) = .returned (.tuple #[.int k b, .int l d]) := by rw [h, h2]

theorem binsP_in {rate ms W : Int} {k : Nat} (hk : k + 1 < edgesN rate) (hw : wideI ms = W) (h : ¬ W = 0) : binsP rate ms (k : Int) = (W * edgesL[k]?.getD 0, W * edgesL[k + 1]?.getD 0) := by
  rw [binsP, if_neg (by rintro (h | h | h) <;> omega), hw]
  rfl

end Go.Proofs.YtgiellpepnbpcaaDoor
