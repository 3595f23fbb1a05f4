/- All bytes as one number: bits from the end are its lowest, what a reader goes by its highest; and where in a writer's span a number with free lowest bits lies. Nothing here is of any program. -/
import Derived.Test.YtinjkffkkmbioaaRencN
namespace Go.Proofs.Ytinjkffkkmbioaa

def numN (b : List Nat) : Nat := preN b b.length

theorem preN_div {b : List Nat} (hb : Bytes b) (m : Nat) : ∀ j, preN b (m + j) / 256 ^ j = preN b m
  | 0 => by simp
  | j + 1 => by
    have h := preN_div hb m j
    have h1 := hb (m + j)
    have e : preN b (m + (j + 1)) = 256 * preN b (m + j) + byteAt b (m + j) := rfl
    rw [e, Nat.pow_succ, Nat.mul_comm (256 ^ j), ← Nat.div_div_eq_div_mul, ← h]
    congr 1
    omega

theorem preN_past (b : List Nat) : ∀ j, preN b (b.length + j) = numN b * 256 ^ j
  | 0 => by simp [numN]
  | j + 1 => by
    have e : preN b (b.length + (j + 1)) = 256 * preN b (b.length + j) + byteAt b (b.length + j) := rfl
    have h0 : byteAt b (b.length + j) = 0 := by
      unfold byteAt
      rw [List.getElem?_eq_none (by omega)]
      rfl
    rw [e, preN_past b j, h0, Nat.pow_succ, Nat.add_zero, Nat.mul_comm 256, Nat.mul_assoc]

theorem backAt_is {b : List Nat} (hb : Bytes b) (j : Nat) : backAt b j = numN b / 256 ^ j % 256 := by
  unfold backAt
  split
  · rename_i hj
    have h1 := hb (b.length - 1 - j)
    have e1 : b.length = (b.length - 1 - j + 1) + j := by omega
    have e2 : numN b / 256 ^ j = preN b (b.length - 1 - j + 1) := by
      unfold numN
      rw [e1]
      rw [preN_div hb]
      congr 1
      omega
    have e3 : preN b (b.length - 1 - j + 1) = 256 * preN b (b.length - 1 - j) + byteAt b (b.length - 1 - j) := rfl
    rw [e2, e3]
    omega
  · rename_i hj
    have e2 : numN b / 256 ^ j = 0 := by
      have h := preN_div hb 0 b.length
      rw [Nat.zero_add] at h
      have h0 : preN b 0 = 0 := rfl
      rw [h0] at h
      have hlt : numN b < 256 ^ b.length := by
        unfold numN
        exact Nat.lt_of_div_eq_zero (Nat.pow_pos (by decide)) h
      exact Nat.div_eq_of_lt (Nat.lt_of_lt_of_le hlt (Nat.pow_le_pow_right (by decide) (by omega)))
    rw [e2]

theorem pow_256 (j : Nat) : 256 ^ j = 2 ^ (8 * j) := by
  rw [Nat.pow_mul]

theorem bitAt_is {b : List Nat} (hb : Bytes b) (p : Nat) : bitAt b p = numN b / 2 ^ p % 2 := by
  unfold bitAt
  rw [backAt_is hb, pow_256]
  have e1 : p = 8 * (p / 8) + p % 8 := by omega
  have hr : p % 8 < 8 := Nat.mod_lt _ (by decide)
  have e2 : numN b / 2 ^ p = numN b / 2 ^ (8 * (p / 8)) / 2 ^ (p % 8) := by
    rw [Nat.div_div_eq_div_mul, ← Nat.pow_add, ← e1]
  rw [e2]
  generalize numN b / 2 ^ (8 * (p / 8)) = x
  generalize p % 8 = r at hr
  have h8 : r = 0 ∨ r = 1 ∨ r = 2 ∨ r = 3 ∨ r = 4 ∨ r = 5 ∨ r = 6 ∨ r = 7 := by omega
  rcases h8 with rfl | rfl | rfl | rfl | rfl | rfl | rfl | rfl <;> omega

/-- Bits from the end are the lowest bits of all bytes. -/
theorem bitsN_is {b : List Nat} (hb : Bytes b) (at_ : Nat) : ∀ n, bitsN b at_ n = numN b / 2 ^ at_ % 2 ^ n
  | 0 => by rw [Nat.pow_zero, Nat.mod_one]; rfl
  | n + 1 => by
    have h := bitsN_is hb at_ n
    show bitsN b at_ n + bitAt b (at_ + n) * 2 ^ n = _
    rw [h, bitAt_is hb, Nat.pow_add, ← Nat.div_div_eq_div_mul, Nat.pow_succ, Nat.mod_mul, Nat.mul_comm (2 ^ n)]

/-- What a reader goes by are the highest bits of all bytes. -/
theorem codeN_in {b : List Nat} (hb : Bytes b) {k : Nat} (h : 1 + k ≤ b.length) : codeN b k = numN b / 2 ^ (8 * (b.length - (1 + k)) + 1) := by
  unfold codeN numN
  have e1 : b.length = 1 + k + (b.length - (1 + k)) := by omega
  have h1 := preN_div hb (1 + k) (b.length - (1 + k))
  rw [← e1] at h1
  rw [← h1, pow_256, Nat.div_div_eq_div_mul, Nat.pow_succ]

theorem codeN_out {b : List Nat} {k : Nat} (h : b.length ≤ k) : codeN b k = numN b * 2 ^ (8 * (k - b.length) + 7) := by
  unfold codeN
  have e1 : 1 + k = b.length + (k - b.length + 1) := by omega
  rw [e1, preN_past, pow_256, show 8 * (k - b.length + 1) = 8 * (k - b.length) + 7 + 1 by omega, Nat.pow_succ, ← Nat.mul_assoc]
  exact Nat.mul_div_cancel _ (by decide)

/-! ### A block of numbers with free lowest bits in a span -/
/-- The first number of the span from which on 2^m numbers, all alike but for their lowest m bits, lie. -/
def firstE (low m : Nat) : Nat := (low + 2 ^ m - 1) / 2 ^ m * 2 ^ m

theorem firstE_in {low rng m : Nat} (h : 2 * 2 ^ m ≤ rng) : low ≤ firstE low m ∧ firstE low m + 2 ^ m ≤ low + rng := by
  have p := Nat.two_pow_pos m
  have h1 := Nat.div_add_mod (low + 2 ^ m - 1) (2 ^ m)
  have h2 := Nat.mod_lt (low + 2 ^ m - 1) p
  unfold firstE
  rw [Nat.mul_comm]
  generalize 2 ^ m * ((low + 2 ^ m - 1) / 2 ^ m) = q at *
  omega

/-- A span that a reader may stand in leaves as many lowest bits free as Tell leaves out. -/
theorem free_bits {r : Nat} (h : 2 ≤ lenN r) : 2 * 2 ^ (lenN r - 2) ≤ r := by
  have hr : r ≠ 0 := by
    intro h0
    rw [h0] at h
    simp [lenN] at h
  have e : lenN r = r.log2 + 1 := if_neg hr
  have h1 : 2 ^ r.log2 ≤ r := Nat.log2_self_le hr
  rw [e] at h ⊢
  have e2 : r.log2 = (r.log2 + 1 - 2) + 1 := by omega
  rw [e2, Nat.pow_succ] at h1
  omega

theorem block_in {b : List Nat} {e : Sp} {m : Nat} (h : 2 * 2 ^ m ≤ e.rng) (hc : codeN b e.k / 2 ^ m = firstE e.low m / 2 ^ m) : In b e := by
  obtain ⟨h1, h2⟩ := firstE_in (low := e.low) h
  have p := Nat.two_pow_pos m
  have d1 := Nat.div_add_mod (codeN b e.k) (2 ^ m)
  have d2 := Nat.mod_lt (codeN b e.k) p
  have e1 : firstE e.low m / 2 ^ m * 2 ^ m = firstE e.low m := by
    unfold firstE
    rw [Nat.mul_div_cancel _ p]
  rw [hc, Nat.mul_comm, e1] at d1
  unfold In
  omega

end Go.Proofs.Ytinjkffkkmbioaa
