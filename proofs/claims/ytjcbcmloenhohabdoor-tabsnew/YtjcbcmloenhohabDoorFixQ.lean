/- The cosines of package fix in a quarter turn, reckoned by plain products that the kernel runs through. -/
import Derived.Test.YtjcbcmloenhohabDoorFixC
namespace Go.Proofs.YtjcbcmloenhohabDoor
open Go.RowKit

/-! ### A property of all numbers of a span, by halves -/
def span (p : Nat → Bool) : Nat → Nat → Bool
  | 0, b => p b
  | n + 1, b => span p n b && span p n (b + 2 ^ n)

theorem span_all {p : Nat → Bool} : ∀ {n b : Nat}, span p n b = true → ∀ k, b ≤ k → k < b + 2 ^ n → p k = true
  | 0, b, h, k, h1, h2 => by
    have e : k = b := by simp at h2; omega
    rw [e]; exact h
  | n + 1, b, h, k, h1, h2 => by
    simp only [span, Bool.and_eq_true] at h
    rw [Nat.pow_succ] at h2
    by_cases hk : k < b + 2 ^ n
    · exact span_all h.1 k h1 hk
    · exact span_all h.2 k (by omega) (by omega)

def m30 (a b : Int) : Int := (a * b + 536870912) / 1073741824
def arcN (a : Nat) : Nat := (a * 1686629713 + 8192) / 16384
def lowS (z : Int) : Int := 1073741824 + m30 z (-536870912 + m30 z (44739243 + m30 z (-1491308 + m30 z (26631 + m30 z (-296)))))
def highS (z : Int) : Int := 1073741824 + m30 z (-178956971 + m30 z (8947849 + m30 z (-213044 + m30 z 2959)))
def qLowN (a : Nat) : Int := (fun (x : Int) => (lowS (m30 x x) + 16384) / 32768) (arcN a : Int)
def qHighN (b : Nat) : Int := (fun (x : Int) => (m30 x (highS (m30 x x)) + 16384) / 32768) (arcN b : Int)


theorem cf_id {a : Int} (h1 : -2147483648 ≤ a) (h2 : a ≤ 2147483648) : cf a = a := by
  unfold cf clampI
  rw [if_neg (by omega), if_neg (by omega), if_neg (by omega)]

theorem mul_m30 {a b : Int} (h1 : -2147483648 ≤ a) (h2 : a ≤ 2147483648) (h3 : -2147483648 ≤ b) (h4 : b ≤ 2147483648) : mulI a b 30 = m30 a b := by
  rw [mulI, if_neg (by decide), if_neg (by decide), if_neg (by decide), cf_id h1 h2, cf_id h3 h4]
  rfl

theorem m30_in {z s : Int} (B : Int) (hz : 0 ≤ z) (hz2 : z ≤ 1073741824) (h1 : -B ≤ s) (h2 : s ≤ B) : -(B + 1) ≤ m30 z s ∧ m30 z s ≤ B + 1 := by
  have k1 : z * s ≤ 1073741824 * B := by
    have a1 : z * s ≤ z * B := Int.mul_le_mul_of_nonneg_left h2 hz
    have a2 : z * B ≤ 1073741824 * B := Int.mul_le_mul_of_nonneg_right hz2 (by omega)
    omega
  have k2 : -(1073741824 * B) ≤ z * s := by
    have a1 : z * (-B) ≤ z * s := Int.mul_le_mul_of_nonneg_left h1 hz
    have a2 : z * B ≤ 1073741824 * B := Int.mul_le_mul_of_nonneg_right hz2 (by omega)
    rw [Int.mul_neg] at a1
    omega
  unfold m30
  omega

theorem arc_nat {a : Nat} (h : a ≤ 16384) : mulI (a : Int) 1686629713 14 = (arcN a : Int) := by
  rw [mulI, if_neg (by decide), if_neg (by decide), if_neg (by decide), cf_id (by omega) (by omega), cf_id (by decide) (by decide)]
  have e1 : (2 : Int) ^ ((14 : Int).toNat - 1) = 8192 := rfl
  have e2 : (2 : Int) ^ (14 : Int).toNat = 16384 := rfl
  rw [e1, e2]
  unfold arcN
  omega

theorem mul15 {s : Int} (h1 : -2147483648 ≤ s) (h2 : s ≤ 2147483648) : mulI s 1 15 = (s + 16384) / 32768 := by
  rw [mulI, if_neg (by decide), if_neg (by decide), if_neg (by decide), cf_id h1 h2, show cf 1 = 1 from rfl, Int.mul_one]
  rfl

theorem arcN_in {a : Nat} (h : a ≤ 8192) : arcN a ≤ 1073741824 := by unfold arcN; omega

theorem sq30_in {x : Int} (h : 0 ≤ x) (h2 : x ≤ 1073741824) : 0 ≤ m30 x x ∧ m30 x x ≤ 1073741824 := by
  have k1 : 0 ≤ x * x := Int.mul_nonneg h h
  have k2 : x * x ≤ 1073741824 * 1073741824 := Int.mul_le_mul h2 h2 h (by decide)
  unfold m30
  omega

theorem ser_low_is {z : Int} (h : 0 ≤ z) (h2 : z ≤ 1073741824) : serI z serLow = lowS z ∧ -2147483648 ≤ lowS z ∧ lowS z ≤ 2147483648 := by
  have b0 := m30_in 0 h h2 (s := 0) (by decide) (by decide)
  have e0 : m30 z 0 = 0 := by unfold m30; rw [Int.mul_zero]; rfl
  have b1 := m30_in 296 h h2 (s := -296) (by decide) (by decide)
  have b2 := m30_in 26928 h h2 (s := 26631 + m30 z (-296)) (by omega) (by omega)
  have b3 := m30_in 1518237 h h2 (s := -1491308 + m30 z (26631 + m30 z (-296))) (by omega) (by omega)
  have b4 := m30_in 46257481 h h2 (s := 44739243 + m30 z (-1491308 + m30 z (26631 + m30 z (-296)))) (by omega) (by omega)
  have b5 := m30_in 583128394 h h2 (s := -536870912 + m30 z (44739243 + m30 z (-1491308 + m30 z (26631 + m30 z (-296))))) (by omega) (by omega)
  refine ⟨?_, ?_, ?_⟩
  · show serStep z (serStep z (serStep z (serStep z (serStep z (serStep z 0 (-296)) 26631) (-1491308)) 44739243) (-536870912)) 1073741824 = lowS z
    unfold serStep
    rw [mul_m30 (b := 0) (by omega) (by omega) (by decide) (by decide), e0, Int.add_zero]
    rw [mul_m30 (b := -296) (by omega) (by omega) (by decide) (by decide)]
    rw [mul_m30 (b := 26631 + m30 z (-296)) (by omega) (by omega) (by omega) (by omega)]
    rw [mul_m30 (b := -1491308 + m30 z (26631 + m30 z (-296))) (by omega) (by omega) (by omega) (by omega)]
    rw [mul_m30 (b := 44739243 + m30 z (-1491308 + m30 z (26631 + m30 z (-296)))) (by omega) (by omega) (by omega) (by omega)]
    rw [mul_m30 (b := -536870912 + m30 z (44739243 + m30 z (-1491308 + m30 z (26631 + m30 z (-296))))) (by omega) (by omega) (by omega) (by omega)]
    rfl
  · unfold lowS; omega
  · unfold lowS; omega

theorem ser_high_is {z : Int} (h : 0 ≤ z) (h2 : z ≤ 1073741824) : serI z serHigh = highS z ∧ -2147483648 ≤ highS z ∧ highS z ≤ 2147483648 := by
  have e0 : m30 z 0 = 0 := by unfold m30; rw [Int.mul_zero]; rfl
  have b1 := m30_in 2959 h h2 (s := 2959) (by decide) (by decide)
  have b2 := m30_in 216004 h h2 (s := -213044 + m30 z 2959) (by omega) (by omega)
  have b3 := m30_in 9163854 h h2 (s := 8947849 + m30 z (-213044 + m30 z 2959)) (by omega) (by omega)
  have b4 := m30_in 188120826 h h2 (s := -178956971 + m30 z (8947849 + m30 z (-213044 + m30 z 2959))) (by omega) (by omega)
  refine ⟨?_, ?_, ?_⟩
  · show serStep z (serStep z (serStep z (serStep z (serStep z 0 2959) (-213044)) 8947849) (-178956971)) 1073741824 = highS z
    unfold serStep
    rw [mul_m30 (b := 0) (by omega) (by omega) (by decide) (by decide), e0, Int.add_zero]
    rw [mul_m30 (b := 2959) (by omega) (by omega) (by decide) (by decide)]
    rw [mul_m30 (b := -213044 + m30 z 2959) (by omega) (by omega) (by omega) (by omega)]
    rw [mul_m30 (b := 8947849 + m30 z (-213044 + m30 z 2959)) (by omega) (by omega) (by omega) (by omega)]
    rw [mul_m30 (b := -178956971 + m30 z (8947849 + m30 z (-213044 + m30 z 2959))) (by omega) (by omega) (by omega) (by omega)]
    rfl
  · unfold highS; omega
  · unfold highS; omega

theorem quarter_low {a : Nat} (h : a ≤ 8192) : quarterI (a : Int) = qLowN a := by
  have hx := arcN_in h
  have hz := sq30_in (x := (arcN a : Int)) (by omega) (by omega)
  obtain ⟨e, g1, g2⟩ := ser_low_is hz.1 hz.2
  rw [quarterI, if_pos (by omega), arc_nat (by omega), mul_m30 (by omega) (by omega) (by omega) (by omega), e, mul15 g1 g2]
  rfl

theorem quarter_high {b : Nat} (h : b < 8192) : quarterI (16384 - (b : Int)) = qHighN b := by
  have hx := arcN_in (a := b) (by omega)
  have hz := sq30_in (x := (arcN b : Int)) (by omega) (by omega)
  obtain ⟨e, g1, g2⟩ := ser_high_is hz.1 hz.2
  have hm := m30_in 2147483646 (z := (arcN b : Int)) (s := highS (m30 (arcN b) (arcN b))) (by omega) (by omega)
  have eb : (16384 : Int) - (16384 - (b : Int)) = (b : Int) := by omega
  have g3 : -2147483646 ≤ highS (m30 (arcN b) (arcN b)) ∧ highS (m30 (arcN b) (arcN b)) ≤ 2147483646 := by
    have b1 := m30_in 2959 hz.1 hz.2 (s := 2959) (by decide) (by decide)
    have b2 := m30_in 216004 hz.1 hz.2 (s := -213044 + m30 (m30 (arcN b) (arcN b)) 2959) (by omega) (by omega)
    have b3 := m30_in 9163854 hz.1 hz.2 (s := 8947849 + m30 (m30 (arcN b) (arcN b)) (-213044 + m30 (m30 (arcN b) (arcN b)) 2959)) (by omega) (by omega)
    have b4 := m30_in 188120826 hz.1 hz.2 (s := -178956971 + m30 (m30 (arcN b) (arcN b)) (8947849 + m30 (m30 (arcN b) (arcN b)) (-213044 + m30 (m30 (arcN b) (arcN b)) 2959))) (by omega) (by omega)
    unfold highS; omega
  have hm2 := hm g3.1 g3.2
  rw [quarterI, if_neg (by omega), eb, arc_nat (by omega), mul_m30 (a := (arcN b : Int)) (b := (arcN b : Int)) (by omega) (by omega) (by omega) (by omega), e, mul_m30 (a := (arcN b : Int)) (by omega) (by omega) g1 g2, mul15 (by omega) (by omega)]
  rfl

/-! ### Sines of the first quarter turn -/
def sN (x : Nat) : Int := bif Nat.ble 8192 x then qLowN (16384 - x) else qHighN x

theorem sN_is {x : Nat} (h : x ≤ 16384) : sinI (x : Int) = sN x := by
  have e : sinI (x : Int) = quarterI (16384 - (x : Int)) := by
    have e1 : (x : Int) % 65536 = x := Int.emod_eq_of_lt (by omega) (by omega)
    unfold sinI cosI halfI
    rw [e1]
    have e2 : (if 32768 < ((x : Int) - 16384) % 65536 then 65536 - ((x : Int) - 16384) % 65536 else ((x : Int) - 16384) % 65536) = 16384 - (x : Int) := by
      split <;> omega
    rw [e2, if_neg (by omega)]
  rw [e]
  unfold sN
  by_cases h8 : 8192 ≤ x
  · rw [Nat.ble_eq_true_of_le h8, cond_true]
    have := quarter_low (a := 16384 - x) (by omega)
    rw [← this]
    congr 1
    omega
  · have hb : Nat.ble 8192 x = false := by
      cases hh : Nat.ble 8192 x
      · rfl
      · exact absurd (Nat.le_of_ble_eq_true hh) h8
    rw [hb, cond_false]
    exact quarter_high (by omega)

end Go.Proofs.YtjcbcmloenhohabDoor
