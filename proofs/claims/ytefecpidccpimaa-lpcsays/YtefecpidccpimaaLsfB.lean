/- What the small calls of package lsf, and of the document's own answers beside them, come to: clamps, quotients, steps, lists clamped, sums of squares, lists compared. -/
import Derived.Test.YtefecpidccpimaaNumB
import Derived.Test.YtefecpidccpimaaLsfN
namespace Go.Proofs.Ytefecpidccpimaa
open Go.RowKit

theorem clampI_clZ (a lo hi : Int) (h : lo ≤ hi) : clampI a lo hi = clZ lo hi a := by
  unfold clampI clZ
  rw [if_neg (show ¬ hi < lo by omega)]

/-! ### Quotients, rounded down -/
theorem tdiv_neg {a b : Int} (ha : -4611686018427387904 ≤ a) (ha' : a ≤ 4611686018427387904) (hb : 0 < b) (h : a.tmod b < 0) : wrap64 (wrap64 (a.tdiv b) - 1) = a / b := by
  have hi := tdiv_in (b := b) ha ha'
  rw [IntWalk.wrap64_in (a.tdiv b) ⟨by omega, by omega⟩, IntWalk.wrap64_in _ ⟨by omega, by omega⟩]
  have h1 := Int.mul_tdiv_add_tmod a b
  have h3 : -b < a.tmod b := by
    have := Int.natAbs_tmod a b
    have h4 : (a.tmod b).natAbs < b.natAbs := by rw [this]; exact Nat.mod_lt _ (by omega)
    omega
  refine ((Int.ediv_emod_unique (a := a) (b := b) (r := a.tmod b + b) (q := a.tdiv b - 1) hb).2 ⟨?_, by omega, by omega⟩).1.symm
  rw [Int.mul_sub, Int.mul_one]
  omega
theorem tdiv_pos {a b : Int} (ha : -4611686018427387904 ≤ a) (ha' : a ≤ 4611686018427387904) (hb : 0 < b) (h : 0 ≤ a.tmod b) : wrap64 (a.tdiv b) = a / b := by
  have hi := tdiv_in (b := b) ha ha'
  rw [IntWalk.wrap64_in (a.tdiv b) ⟨by omega, by omega⟩]
  have h1 := Int.mul_tdiv_add_tmod a b
  have h3 : a.tmod b < b := by
    have := Int.natAbs_tmod a b
    have h4 : (a.tmod b).natAbs < b.natAbs := by rw [this]; exact Nat.mod_lt _ (by omega)
    omega
  refine ((Int.ediv_emod_unique (a := a) (b := b) (r := a.tmod b) (q := a.tdiv b) hb).2 ⟨?_, h, h3⟩).1.symm
  omega

/-! ### Steps -/
def unitI (order : Int) : Int := if order = 10 then 400 else if order = 16 then 250 else 0
theorem unitI_step {order : Int} (h : order = 10 ∨ order = 16) : unitI order = stepZ order := by
  unfold unitI stepZ
  rcases h with rfl | rfl <;> rfl

end Go.Proofs.Ytefecpidccpimaa
