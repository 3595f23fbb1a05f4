/- What the small calls of package lsf, and of the document's own answers beside them, come to: clamps, quotients, steps, lists clamped, sums of squares, lists compared. -/
import Derived.Test.YtjaccokmficfdaaNumB
import Derived.Test.YtjaccokmficfdaaLsfN
namespace Go.Proofs.Ytjaccokmficfdaa
open Go.RowKit

theorem lclamp_any (a : Int) (w : World) :
    Calls Try.prog 69 #[.int .i64 a] w fun e w' => e = .returned (.int .i64 (clZ 0 32768 a)) ∧ w' = w := by
  have HC : Hid (clZ 0 32768 a = if a < 0 then 0 else if 32768 < a then 32768 else a) := rfl
  by_cases h1 : a < 0
  · have h : clZ 0 32768 a = 0 := by rw [HC.out, if_pos h1]
    rw [h]; clear h HC
    go_enter Try.func69, Try.ntmps69
    go_wp2
    all_goals
      go_ret
      exact ⟨ret_int (by omega), rfl⟩
  · by_cases h2 : 32768 < a
    · have h : clZ 0 32768 a = 32768 := by rw [HC.out, if_neg h1, if_pos h2]
      rw [h]; clear h HC
      go_enter Try.func69, Try.ntmps69
      go_wp2
      all_goals
        go_ret
        exact ⟨ret_int (by omega), rfl⟩
    · have h : clZ 0 32768 a = a := by rw [HC.out, if_neg h1, if_neg h2]
      rw [h]; clear h HC
      go_enter Try.func69, Try.ntmps69
      go_wp2
      all_goals
        go_ret
        exact ⟨ret_int (by omega), rfl⟩

theorem clampI_clZ (a lo hi : Int) (h : lo ≤ hi) : clampI a lo hi = clZ lo hi a := by
  unfold clampI clZ
  rw [if_neg (show ¬ hi < lo by omega)]

/-! ### Quotients, rounded down -/
theorem tdiv_neg {a b : Int} (ha : -4611686018427387904 ≤ a) (ha' : a ≤ 4611686018427387904) (hb : 0 < b) (h : a.tmod b < 0) : wrap64 (wrap64 (a.tdiv b) - 1) = a / b := by
  have hi := tdiv_in (b := b) ha ha'
  rw [IntWalk.wrap64_in (a.tdiv b) ⟨by omega, by omega⟩, IntWalk.wrap64_in _ ⟨by omega, by omega⟩]
  have h1 := Int.mul_tdiv_add_tmod a b
  have h3 : -b < a.tmod b := by
    have := Int.natAbs_tmod a b
    have h4 : (a.tmod b).natAbs < b.natAbs := by rw [this]; exact Nat.mod_lt _ (by omega)
    omega
  refine ((Int.ediv_emod_unique (a := a) (b := b) (r := a.tmod b + b) (q := a.tdiv b - 1) hb).2 ⟨?_, by omega, by omega⟩).1.symm
  rw [Int.mul_sub, Int.mul_one]
  omega
theorem tdiv_pos {a b : Int} (ha : -4611686018427387904 ≤ a) (ha' : a ≤ 4611686018427387904) (hb : 0 < b) (h : 0 ≤ a.tmod b) : wrap64 (a.tdiv b) = a / b := by
  have hi := tdiv_in (b := b) ha ha'
  rw [IntWalk.wrap64_in (a.tdiv b) ⟨by omega, by omega⟩]
  have h1 := Int.mul_tdiv_add_tmod a b
  have h3 : a.tmod b < b := by
    have := Int.natAbs_tmod a b
    have h4 : (a.tmod b).natAbs < b.natAbs := by rw [this]; exact Nat.mod_lt _ (by omega)
    omega
  refine ((Int.ediv_emod_unique (a := a) (b := b) (r := a.tmod b) (q := a.tdiv b) hb).2 ⟨?_, h, h3⟩).1.symm
  omega

/-! ### Steps -/
def unitI (order : Int) : Int := if order = 10 then 400 else if order = 16 then 250 else 0
theorem unitI_step {order : Int} (h : order = 10 ∨ order = 16) : unitI order = stepZ order := by
  unfold unitI stepZ
  rcases h with rfl | rfl <;> rfl

theorem unit_any (order : Int) (w : World) :
    Calls Try.prog 59 #[.int .i64 order] w fun e w' => e = .returned (.int .i64 (unitI order)) ∧ w' = w := by
  unfold unitI
  by_cases h1 : order = 10
  · subst h1
    go_enter Try.func59, Try.ntmps59
    go_wp2
    go_ret
    exact ⟨rfl, rfl⟩
  · by_cases h2 : order = 16
    · subst h2
      go_enter Try.func59, Try.ntmps59
      go_wp2
      go_ret
      exact ⟨rfl, rfl⟩
    · rw [if_neg h1, if_neg h2]
      go_enter Try.func59, Try.ntmps59
      go_wp2
      go_ret
      exact ⟨rfl, rfl⟩

theorem rstep_any (order : Int) (w : World) :
    Calls Try.prog 54 #[.int .i64 order] w fun e w' => e = .returned (.int .i64 (stepZ order)) ∧ w' = w := by
  unfold stepZ
  by_cases h1 : order = 10
  · subst h1
    go_enter Try.func54, Try.ntmps54
    go_wp2
    go_ret
    exact ⟨rfl, rfl⟩
  · rw [if_neg h1]
    go_enter Try.func54, Try.ntmps54
    go_wp2
    go_ret
    exact ⟨rfl, rfl⟩

end Go.Proofs.Ytjaccokmficfdaa
