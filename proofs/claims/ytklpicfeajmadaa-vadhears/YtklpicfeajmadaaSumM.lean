/- Sums of products of samples of 16 bits, as plain numbers, with bounds. Nothing here is of any program. -/
import Derived.Test.YtklpicfeajmadaaFixA
namespace Go.Proofs.Ytklpicfeajmadaa

def s16 (a : Int) : Int := clampI a (-32768) 32767
theorem s16_in (a : Int) : -32768 ≤ s16 a ∧ s16 a ≤ 32767 := clampI_in _ _ _ (by decide)
theorem s16_neg {a : Int} (h1 : -16383 ≤ a) (h2 : a ≤ 16383) : s16 (-a) = -s16 a := by
  unfold s16 clampI
  rw [if_neg (by omega), if_neg (by omega), if_neg (by omega), if_neg (by omega), if_neg (by omega), if_neg (by omega)]

/-- The sum of x_n x_(n-lag), and of x_(n-lag) squared, over k numbers from f on. -/
def corrI (x : List Int) (lag f : Nat) : Nat → Int
  | 0 => 0
  | k + 1 => corrI x lag f k + s16 (x[f + k]?.getD 0) * s16 (x[f + k - lag]?.getD 0)
def enI (x : List Int) (lag f : Nat) : Nat → Int
  | 0 => 0
  | k + 1 => enI x lag f k + s16 (x[f + k - lag]?.getD 0) * s16 (x[f + k - lag]?.getD 0)

theorem prod16 {a b : Int} (h1 : -32768 ≤ a) (h2 : a ≤ 32767) (h3 : -32768 ≤ b) (h4 : b ≤ 32767) : -1073741824 ≤ a * b ∧ a * b ≤ 1073741824 := by
  have e1 : a.natAbs ≤ 32768 := by omega
  have e2 : b.natAbs ≤ 32768 := by omega
  have e3 := Nat.mul_le_mul e1 e2
  rw [← Int.natAbs_mul] at e3
  omega

theorem corrI_in (x : List Int) (lag f : Nat) : ∀ k : Nat, -((k : Int) * 1073741824) ≤ corrI x lag f k ∧ corrI x lag f k ≤ (k : Int) * 1073741824
  | 0 => by
    show -((0 : Nat) * 1073741824 : Int) ≤ 0 ∧ (0 : Int) ≤ (0 : Nat) * 1073741824
    omega
  | k + 1 => by
    have h1 := corrI_in x lag f k
    have h2 := prod16 (s16_in (x[f + k]?.getD 0)).1 (s16_in (x[f + k]?.getD 0)).2 (s16_in (x[f + k - lag]?.getD 0)).1 (s16_in (x[f + k - lag]?.getD 0)).2
    show -(((k + 1 : Nat) : Int) * 1073741824) ≤ corrI x lag f k + s16 (x[f + k]?.getD 0) * s16 (x[f + k - lag]?.getD 0) ∧ corrI x lag f k + s16 (x[f + k]?.getD 0) * s16 (x[f + k - lag]?.getD 0) ≤ ((k + 1 : Nat) : Int) * 1073741824
    omega
theorem enI_in (x : List Int) (lag f : Nat) : ∀ k : Nat, 0 ≤ enI x lag f k ∧ enI x lag f k ≤ (k : Int) * 1073741824
  | 0 => by
    show (0 : Int) ≤ 0 ∧ (0 : Int) ≤ (0 : Nat) * 1073741824
    omega
  | k + 1 => by
    have h1 := enI_in x lag f k
    have h2 := prod16 (s16_in (x[f + k - lag]?.getD 0)).1 (s16_in (x[f + k - lag]?.getD 0)).2 (s16_in (x[f + k - lag]?.getD 0)).1 (s16_in (x[f + k - lag]?.getD 0)).2
    have h3 : 0 ≤ s16 (x[f + k - lag]?.getD 0) * s16 (x[f + k - lag]?.getD 0) := by
      rcases Int.le_total 0 (s16 (x[f + k - lag]?.getD 0)) with h | h
      · exact Int.mul_nonneg h h
      · exact Int.mul_nonneg_of_nonpos_of_nonpos h h
    show 0 ≤ enI x lag f k + s16 (x[f + k - lag]?.getD 0) * s16 (x[f + k - lag]?.getD 0) ∧ enI x lag f k + s16 (x[f + k - lag]?.getD 0) * s16 (x[f + k - lag]?.getD 0) ≤ ((k + 1 : Nat) : Int) * 1073741824
    omega

theorem s16_same {a : Int} (h1 : -32768 ≤ a) (h2 : a ≤ 32767) : s16 a = a := by
  unfold s16 clampI
  rw [if_neg (by omega), if_neg (by decide), if_neg (by omega)]
theorem s16_two {a : Int} (h1 : -16383 ≤ a) (h2 : a ≤ 16383) : s16 (2 * a) = 2 * s16 a := by
  rw [s16_same (by omega) (by omega), s16_same (by omega) (by omega)]

def s16L (zs : List Int) : List Int := zs.map s16
theorem s16L_len (zs : List Int) : (s16L zs).length = zs.length := by unfold s16L; rw [List.length_map]
theorem s16L_at (zs : List Int) (j : Nat) : (s16L zs)[j]?.getD 0 = s16 (zs[j]?.getD 0) := by
  unfold s16L
  rw [List.getElem?_map]
  cases zs[j]? <;> rfl

end Go.Proofs.Ytklpicfeajmadaa
