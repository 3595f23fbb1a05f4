/- What the document's own answers of chapter 1 (the reference) come to: logarithms, powers, roots, cosines. -/
import Derived.Test.YtamiokleolfnoaaFixR
namespace Go.Proofs.Ytamiokleolfnoaa
open Go.RowKit

/-! ### Log2 -/
theorem logIter_shift (m l : Int) (k : Nat) : logIter (m, l) k = ((logIter (m, 0) k).1, l * 2 ^ k + (logIter (m, 0) k).2) := by
  induction k with
  | zero => simp [logIter]
  | succ k ih =>
    show logStep (logIter (m, l) k) = ((logStep (logIter (m, 0) k)).1, l * 2 ^ (k + 1) + (logStep (logIter (m, 0) k)).2)
    rw [ih]
    generalize logIter (m, 0) k = q
    unfold logStep
    rw [Int.pow_succ, ← Int.mul_assoc]
    simp only
    split
    · simp only [Prod.mk.injEq, true_and]; omega
    · simp only [Prod.mk.injEq, true_and]; omega

/-! ### Exp2 -/
def rootsList : List Int := [1518500250, 1276901417, 1170923762, 1121280436, 1097253708, 1085434106, 1079572136, 1076653033]

theorem root_cell (w : World) : ∀ k : Nat, k < 8 → (w.alloc (.cells rootsArr 2)).cell? ⟨w.heap.size, k, none⟩ = some (.int .i64 (rootAt k)) := fun k hk => by
  rw [World.cell?_alloc_new]
  have h : k = 0 ∨ k = 1 ∨ k = 2 ∨ k = 3 ∨ k = 4 ∨ k = 5 ∨ k = 6 ∨ k = 7 := by omega
  rcases h with rfl | rfl | rfl | rfl | rfl | rfl | rfl | rfl <;> rfl

/-! ### Sqrt -/
theorem sqrtI_unique {a r : Int} (h0 : 0 ≤ a) (hr : 0 ≤ r) (h1 : r * r ≤ a) (h2 : a < (r + 1) * (r + 1)) : r = sqrtI a := by
  have e1 : ((r.toNat * r.toNat : Nat) : Int) = r * r := by rw [Int.natCast_mul, Int.toNat_of_nonneg hr]
  have e2 : (((r.toNat + 1) * (r.toNat + 1) : Nat) : Int) = (r + 1) * (r + 1) := by rw [Int.natCast_mul, Int.natCast_add, Int.toNat_of_nonneg hr]; rfl
  have h := isqrt_unique (n := a.toNat) (r := r.toNat) (by omega) (by omega)
  have e3 : sqrtI a = ((isqrt a.toNat : Nat) : Int) := rfl
  rw [e3, ← h]
  omega

theorem pow_range (j : Nat) (h : j ≤ 31) : 1 ≤ (2 : Int) ^ j ∧ (2 : Int) ^ j ≤ 2147483648 := by
  have g1 : (2 : Nat) ^ j ≤ 2 ^ 31 := Nat.pow_le_pow_right (by decide) h
  have g2 := Nat.two_pow_pos j
  have g3 := pow_cast j
  have g4 : (2 : Nat) ^ 31 = 2147483648 := by decide
  omega

theorem big_square {x a : Int} (ha : a ≤ 9223372036854775807) (h : 3037000499 < x) : ¬ x * x ≤ a := by
  have : (3037000500 : Int) * 3037000500 ≤ x * x := Int.mul_le_mul (by omega) (by omega) (by decide) (by omega)
  omega

theorem small_square {x : Int} (h0 : 0 ≤ x) (h : x ≤ 3037000499) : 0 ≤ x * x ∧ x * x ≤ 9223372030926249001 := by
  have h1 : x * x ≤ 3037000499 * 3037000499 := Int.mul_le_mul h h h0 (by decide)
  have h2 := Int.mul_nonneg h0 h0
  omega

theorem serStep_low (z : Int) : serStep z 0 (-296) = -296 ∧ serStep z 0 2959 = 2959 := by
  have e : mulI z 0 30 = 0 := by
    rw [mulI, if_neg (by decide), if_neg (by decide), if_neg (by decide), show cf 0 = 0 from rfl, Int.mul_zero]
    decide
  unfold serStep
  rw [e]
  decide

end Go.Proofs.Ytamiokleolfnoaa
