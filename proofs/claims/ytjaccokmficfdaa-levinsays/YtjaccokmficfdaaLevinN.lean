/- The filter that foretells a sound, step by step; a sound of which each sample is a part of the one ahead. Nothing here is of any program. -/
import Derived.Test.YtjaccokmficfdaaLevinM
namespace Go.Proofs.Ytjaccokmficfdaa
namespace Lev

def r0Z (r : List Int) : Int := r[0]?.getD 0
def dblL (r : List Int) : List Int := r.map fun v => clampI (v * 2) (-1125899906842624) 1125899906842624
def hlfL (r : List Int) : List Int := r.map fun v => v / 2
def upN : Nat → List Int → List Int
  | 0, r => r
  | n + 1, r => if r0Z r < 536870912 then upN n (dblL r) else r
def dnN : Nat → List Int → List Int
  | 0, r => r
  | n + 1, r => if r0Z r < 1073741824 then r else dnN n (hlfL r)
theorem upN_step {n : Nat} {r : List Int} (h : r0Z r < 536870912) : upN (n + 1) r = upN n (dblL r) := if_pos h
theorem upN_stop {n : Nat} {r : List Int} (h : ¬ r0Z r < 536870912) : upN n r = r := by
  cases n with
  | zero => rfl
  | succ n => exact if_neg h
theorem dnN_step {n : Nat} {r : List Int} (h : ¬ r0Z r < 1073741824) : dnN (n + 1) r = dnN n (hlfL r) := if_neg h
theorem dnN_stop {n : Nat} {r : List Int} (h : r0Z r < 1073741824) : dnN n r = r := by
  cases n with
  | zero => rfl
  | succ n => exact if_pos h
theorem dblL_len (r : List Int) : (dblL r).length = r.length := by unfold dblL; rw [List.length_map]
theorem hlfL_len (r : List Int) : (hlfL r).length = r.length := by unfold hlfL; rw [List.length_map]
theorem dblL_at {r : List Int} {i : Nat} (h : i < r.length) : (dblL r)[i]?.getD 0 = clampI (r[i]?.getD 0 * 2) (-1125899906842624) 1125899906842624 := by
  unfold dblL
  rw [List.getElem?_map, List.getElem?_eq_getElem h]
  rfl
theorem hlfL_at (r : List Int) (i : Nat) : (hlfL r)[i]?.getD 0 = r[i]?.getD 0 / 2 := by
  unfold hlfL
  rw [List.getElem?_map]
  cases r[i]? <;> rfl

/-- What is within 2^50 stays so. -/
def Wide (r : List Int) : Prop := ∀ i : Nat, -1125899906842624 ≤ r[i]?.getD 0 ∧ r[i]?.getD 0 ≤ 1125899906842624
theorem dblL_wide (r : List Int) : Wide (dblL r) := fun i => by
  by_cases h : i < r.length
  · rw [dblL_at h]
    exact clampI_in _ _ _ (by decide)
  · rw [List.getElem?_eq_none (by rw [dblL_len]; omega)]
    decide
theorem hlfL_wide {r : List Int} (h : Wide r) : Wide (hlfL r) := fun i => by
  rw [hlfL_at]
  have := h i
  omega
def c41L (r : List Int) : List Int := r.map fun v => clampI v (-2199023255552) 2199023255552
theorem c41L_len (r : List Int) : (c41L r).length = r.length := by unfold c41L; rw [List.length_map]
theorem c41L_at {r : List Int} {i : Nat} (h : i < r.length) : (c41L r)[i]?.getD 0 = clampI (r[i]?.getD 0) (-2199023255552) 2199023255552 := by
  unfold c41L
  rw [List.getElem?_map, List.getElem?_eq_getElem h]
  rfl
theorem c41L_wide (r : List Int) : Wide (c41L r) := fun i => by
  by_cases h : i < r.length
  · rw [c41L_at h]
    have := clampI_in (r[i]?.getD 0) (-2199023255552) 2199023255552 (by decide)
    omega
  · rw [List.getElem?_eq_none (by rw [c41L_len]; omega)]
    decide

/-- Doubled often enough; not more often than that. -/
theorem up_done : ∀ (n : Nat) (r : List Int), 0 < r.length → 1 ≤ r0Z r → (536870912 : Int) ≤ r0Z r * 2 ^ n → r0Z r ≤ 1125899906842624 → Wide r → (536870912 ≤ r0Z (upN n r) ∧ r0Z (upN n r) ≤ 1125899906842624) ∧ Wide (upN n r) ∧ (upN n r).length = r.length
  | 0, r, _, _, h, h2, hw => by
    rw [Int.pow_zero, Int.mul_one] at h
    exact ⟨⟨h, h2⟩, hw, rfl⟩
  | n + 1, r, h0, h1, h, h2, hw => by
    by_cases hs : r0Z r < 536870912
    · rw [upN_step hs]
      have e : r0Z (dblL r) = r0Z r * 2 := by
        unfold r0Z at *
        rw [dblL_at h0]
        unfold clampI
        rw [if_neg (by omega), if_neg (by decide), if_neg (by omega)]
      have := up_done n (dblL r) (by rw [dblL_len]; exact h0) (by omega) (by rw [e, Int.mul_assoc, Int.mul_comm 2, ← Int.pow_succ]; exact h) (by omega) (dblL_wide r)
      rw [dblL_len] at this
      exact this
    · rw [upN_stop hs]
      exact ⟨⟨by omega, h2⟩, hw, rfl⟩
theorem dn_done : ∀ (n : Nat) (r : List Int), 536870912 ≤ r0Z r → r0Z r < 1073741824 * 2 ^ n → Wide r → (536870912 ≤ r0Z (dnN n r) ∧ r0Z (dnN n r) < 1073741824) ∧ Wide (dnN n r) ∧ (dnN n r).length = r.length
  | 0, r, h, h2, hw => by
    rw [Int.pow_zero, Int.mul_one] at h2
    exact ⟨⟨h, h2⟩, hw, rfl⟩
  | n + 1, r, h, h2, hw => by
    by_cases hs : r0Z r < 1073741824
    · rw [dnN_stop hs]
      exact ⟨⟨h, hs⟩, hw, rfl⟩
    · rw [dnN_step hs]
      have e : r0Z (hlfL r) = r0Z r / 2 := hlfL_at r 0
      rw [Int.pow_succ] at h2
      have := dn_done n (hlfL r) (by omega) (by omega) (hlfL_wide hw)
      rw [hlfL_len] at this
      exact this
def normL (r : List Int) : List Int := dnN 40 (upN 40 (c41L r))
theorem norm_done {r : List Int} (h0 : 0 < r.length) (h1 : 1 ≤ r0Z r) : (536870912 ≤ r0Z (normL r) ∧ r0Z (normL r) < 1073741824) ∧ Wide (normL r) ∧ (normL r).length = r.length := by
  have e : r0Z (c41L r) = clampI (r0Z r) (-2199023255552) 2199023255552 := c41L_at h0
  have h2 := clampI_in (r0Z r) (-2199023255552) 2199023255552 (by decide)
  have h3 : 1 ≤ r0Z (c41L r) := by
    rw [e]
    unfold clampI
    split
    · omega
    · split
      · omega
      · split <;> omega
  obtain ⟨a1, a2, a3⟩ := up_done 40 (c41L r) (by rw [c41L_len]; exact h0) h3 (by rw [show (2 : Int) ^ 40 = 1099511627776 from by decide]; omega) (by omega) (c41L_wide r)
  obtain ⟨b1, b2, b3⟩ := dn_done 40 (upN 40 (c41L r)) a1.1 (by rw [show (2 : Int) ^ 40 = 1099511627776 from by decide]; omega) a2
  exact ⟨b1, b2, by unfold normL; rw [b3, a3, c41L_len]⟩

/-- The first one a little more. -/
def moreL (r : List Int) : List Int := r.set 0 (r0Z r + r0Z r / 1024 + 1)

/-! ### One number of the filter more -/
def sumT (a r : List Int) (m : Nat) : Nat → Int
  | 0 => r[m + 1]?.getD 0
  | i + 1 => sumT a r m i - mulI (a[i]?.getD 0) (r[m - i]?.getD 0) 24
def turnK (a r : List Int) (e : Int) (m : Nat) : Int := clampI (divI (sumT a r m m) e 24) (-16760438) 16760438
def nextAt (a : List Int) (k : Int) (m i : Nat) : Int := clampI (a[i]?.getD 0 - mulI k (a[m - 1 - i]?.getD 0) 24) (-2147483648) 2147483648
def nextA (a : List Int) (k : Int) (m : Nat) : List Int := (List.range m).map (nextAt a k m) ++ [k]
def nextEn (e k : Int) : Int := if mulI e (16777216 - mulI k k 24) 24 < 1 then 1 else mulI e (16777216 - mulI k k 24) 24
def levN (r : List Int) : Nat → List Int × Int
  | 0 => ([], r0Z r)
  | m + 1 => (nextA (levN r m).1 (turnK (levN r m).1 r (levN r m).2 m) m, nextEn (levN r m).2 (turnK (levN r m).1 r (levN r m).2 m))
theorem turnK_in (a r : List Int) (e : Int) (m : Nat) : -16760438 ≤ turnK a r e m ∧ turnK a r e m ≤ 16760438 := clampI_in _ _ _ (by decide)
theorem nextA_len (a : List Int) (k : Int) (m : Nat) : (nextA a k m).length = m + 1 := by unfold nextA; rw [List.length_append, List.length_map, List.length_range]; rfl
theorem levN_len (r : List Int) : ∀ m, (levN r m).1.length = m
  | 0 => rfl
  | _ + 1 => nextA_len _ _ _
theorem mul24_in (a b : Int) : -274877906945 ≤ mulI a b 24 ∧ mulI a b 24 ≤ 274877906945 := by
  rw [mul24_is]
  have h := prod_le (cf_in a) (cf_in b)
  omega
theorem sumT_in {a r : List Int} (h : Wide r) (m : Nat) : ∀ i : Nat, -(1125899906842624 + (i : Int) * 274877906945) ≤ sumT a r m i ∧ sumT a r m i ≤ 1125899906842624 + (i : Int) * 274877906945
  | 0 => by
    have := h (m + 1)
    show -(1125899906842624 + ((0 : Nat) : Int) * 274877906945) ≤ r[m + 1]?.getD 0 ∧ r[m + 1]?.getD 0 ≤ 1125899906842624 + ((0 : Nat) : Int) * 274877906945
    omega
  | i + 1 => by
    have h1 := sumT_in (a := a) h m i
    have h2 := mul24_in (a[i]?.getD 0) (r[m - i]?.getD 0)
    show -(1125899906842624 + ((i + 1 : Nat) : Int) * 274877906945) ≤ sumT a r m i - mulI (a[i]?.getD 0) (r[m - i]?.getD 0) 24 ∧ sumT a r m i - mulI (a[i]?.getD 0) (r[m - i]?.getD 0) 24 ≤ 1125899906842624 + ((i + 1 : Nat) : Int) * 274877906945
    omega
theorem nextEn_in {e k : Int} (h1 : 1 ≤ e) (h2 : e ≤ 2147483648) (hk : -16760438 ≤ k ∧ k ≤ 16760438) : 1 ≤ nextEn e k ∧ nextEn e k ≤ e := by
  have hkk := prod_le hk hk
  have hk0 := sq_nonneg k
  have e1 : mulI k k 24 = (k * k + 8388608) / 16777216 := by rw [mul24_is, cf_same (by omega) (by omega)]
  have d1 : 0 ≤ 16777216 - mulI k k 24 ∧ 16777216 - mulI k k 24 ≤ 16777216 := by
    rw [e1]
    omega
  unfold nextEn
  generalize 16777216 - mulI k k 24 = d at *
  rw [mul24_is, cf_same (a := e) (by omega) (by omega), cf_same (a := d) (by omega) (by omega)]
  have h3 : e * d ≤ e * 16777216 := Int.mul_le_mul_of_nonneg_left d1.2 (by omega)
  split <;> omega
theorem levN_en {r : List Int} (h : 1 ≤ r0Z r ∧ r0Z r ≤ 2147483648) : ∀ m, 1 ≤ (levN r m).2 ∧ (levN r m).2 ≤ 2147483648
  | 0 => h
  | m + 1 => by
    have h1 := levN_en h m
    have h2 := nextEn_in h1.1 h1.2 (turnK_in (levN r m).1 r (levN r m).2 m)
    exact ⟨h2.1, Int.le_trans h2.2 h1.2⟩

def solveZ (r : List Int) : List Int :=
  if r0Z r < 1 then List.replicate (r.length - 1) 0 else fitZ ((levN (moreL (normL r)) (r.length - 1)).1.map fun v => mulI v 1 12)
theorem solveZ_stable {r : List Int} (h : r.length ≤ 33) : stableZ (solveZ r) = true := by
  unfold solveZ
  split
  · exact stableZ_zero (by omega)
  · exact fitZ_stable (by rw [List.length_map, levN_len]; omega)
theorem solveZ_len {r : List Int} (h : r.length ≤ 33) : (solveZ r).length = r.length - 1 := by
  unfold solveZ
  split
  · exact List.length_replicate
  · rw [fitZ_len (by rw [List.length_map, levN_len]; omega), List.length_map, levN_len]

end Lev
end Go.Proofs.Ytjaccokmficfdaa
