/- The circle: what the cosines of package fix are at every angle, run through by the kernel over a quarter turn and carried round. -/
import Derived.Test.YtadbnbgjgabkdaaDoorFixC
import Derived.Test.YtadbnbgjgabkdaaDoorFixN
namespace Go.Proofs.YtadbnbgjgabkdaaDoor
open Go.RowKit

def m30 (a b : Int) : Int := (a * b + 536870912) / 1073741824
def arcN (a : Nat) : Nat := (a * 1686629713 + 8192) / 16384
def lowS (z : Int) : Int := 1073741824 + m30 z (-536870912 + m30 z (44739243 + m30 z (-1491308 + m30 z (26631 + m30 z (-296)))))
def highS (z : Int) : Int := 1073741824 + m30 z (-178956971 + m30 z (8947849 + m30 z (-213044 + m30 z 2959)))
def qLowN (a : Nat) : Int := (fun (x : Int) => (lowS (m30 x x) + 16384) / 32768) (arcN a : Int)
def qHighN (b : Nat) : Int := (fun (x : Int) => (m30 x (highS (m30 x x)) + 16384) / 32768) (arcN b : Int)
def circ (a : Nat) : Bool := (fun (c s : Int) => Nat.ble (c * c + s * s - 1073741824).natAbs 262144 && Nat.ble c.natAbs 32768 && Nat.ble s.natAbs 32768) (qLowN a) (qHighN a)

theorem circ_all : span circ 13 0 = true := by decide +kernel
theorem circ_mid : (Nat.ble (qLowN 8192 * qLowN 8192 + qLowN 8192 * qLowN 8192 - 1073741824).natAbs 262144 && Nat.ble (qLowN 8192).natAbs 32768) = true := by decide +kernel
theorem high_nought : qHighN 0 = 0 := by decide +kernel

theorem cf_id {a : Int} (h1 : -2147483648 ≤ a) (h2 : a ≤ 2147483648) : cf a = a := by
  unfold cf clampI
  rw [if_neg (by omega), if_neg (by omega), if_neg (by omega)]

theorem mul_m30 {a b : Int} (h1 : -2147483648 ≤ a) (h2 : a ≤ 2147483648) (h3 : -2147483648 ≤ b) (h4 : b ≤ 2147483648) : mulI a b 30 = m30 a b := by
  rw [mulI, if_neg (by decide), if_neg (by decide), if_neg (by decide), cf_id h1 h2, cf_id h3 h4]
  rfl

theorem m30_in {z s : Int} (B : Int) (hz : 0 ≤ z) (hz2 : z ≤ 1073741824) (h1 : -B ≤ s) (h2 : s ≤ B) : -(B + 1) ≤ m30 z s ∧ m30 z s ≤ B + 1 := by
  have k1 : z * s ≤ 1073741824 * B := by
    have a1 : z * s ≤ z * B := Int.mul_le_mul_of_nonneg_left h2 hz
    have a2 : z * B ≤ 1073741824 * B := Int.mul_le_mul_of_nonneg_right hz2 (by omega)
    omega
  have k2 : -(1073741824 * B) ≤ z * s := by
    have a1 : z * (-B) ≤ z * s := Int.mul_le_mul_of_nonneg_left h1 hz
    have a2 : z * B ≤ 1073741824 * B := Int.mul_le_mul_of_nonneg_right hz2 (by omega)
    rw [Int.mul_neg] at a1
    omega
  unfold m30
  omega

theorem arc_nat {a : Nat} (h : a ≤ 16384) : mulI (a : Int) 1686629713 14 = (arcN a : Int) := by
  rw [mulI, if_neg (by decide), if_neg (by decide), if_neg (by decide), cf_id (by omega) (by omega), cf_id (by decide) (by decide)]
  have e1 : (2 : Int) ^ ((14 : Int).toNat - 1) = 8192 := rfl
  have e2 : (2 : Int) ^ (14 : Int).toNat = 16384 := rfl
  rw [e1, e2]
  unfold arcN
  omega

theorem mul15 {s : Int} (h1 : -2147483648 ≤ s) (h2 : s ≤ 2147483648) : mulI s 1 15 = (s + 16384) / 32768 := by
  rw [mulI, if_neg (by decide), if_neg (by decide), if_neg (by decide), cf_id h1 h2, show cf 1 = 1 from rfl, Int.mul_one]
  rfl

theorem arcN_in {a : Nat} (h : a ≤ 8192) : arcN a ≤ 1073741824 := by unfold arcN; omega

theorem sq30_in {x : Int} (h : 0 ≤ x) (h2 : x ≤ 1073741824) : 0 ≤ m30 x x ∧ m30 x x ≤ 1073741824 := by
  have k1 : 0 ≤ x * x := Int.mul_nonneg h h
  have k2 : x * x ≤ 1073741824 * 1073741824 := Int.mul_le_mul h2 h2 h (by decide)
  unfold m30
  omega

theorem ser_low_is {z : Int} (h : 0 ≤ z) (h2 : z ≤ 1073741824) : serI z serLow = lowS z ∧ -2147483648 ≤ lowS z ∧ lowS z ≤ 2147483648 := by
  have b0 := m30_in 0 h h2 (s := 0) (by decide) (by decide)
  have e0 : m30 z 0 = 0 := by unfold m30; rw [Int.mul_zero]; rfl
  have b1 := m30_in 296 h h2 (s := -296) (by decide) (by decide)
  have b2 := m30_in 26928 h h2 (s := 26631 + m30 z (-296)) (by omega) (by omega)
  have b3 := m30_in 1518237 h h2 (s := -1491308 + m30 z (26631 + m30 z (-296))) (by omega) (by omega)
  have b4 := m30_in 46257481 h h2 (s := 44739243 + m30 z (-1491308 + m30 z (26631 + m30 z (-296)))) (by omega) (by omega)
  have b5 := m30_in 583128394 h h2 (s := -536870912 + m30 z (44739243 + m30 z (-1491308 + m30 z (26631 + m30 z (-296))))) (by omega) (by omega)
  refine ⟨?_, ?_, ?_⟩
  · show serStep z (serStep z (serStep z (serStep z (serStep z (serStep z 0 (-296)) 26631) (-1491308)) 44739243) (-536870912)) 1073741824 = lowS z
    unfold serStep
    rw [mul_m30 (b := 0) (by omega) (by omega) (by decide) (by decide), e0, Int.add_zero]
    rw [mul_m30 (b := -296) (by omega) (by omega) (by decide) (by decide)]
    rw [mul_m30 (b := 26631 + m30 z (-296)) (by omega) (by omega) (by omega) (by omega)]
    rw [mul_m30 (b := -1491308 + m30 z (26631 + m30 z (-296))) (by omega) (by omega) (by omega) (by omega)]
    rw [mul_m30 (b := 44739243 + m30 z (-1491308 + m30 z (26631 + m30 z (-296)))) (by omega) (by omega) (by omega) (by omega)]
    rw [mul_m30 (b := -536870912 + m30 z (44739243 + m30 z (-1491308 + m30 z (26631 + m30 z (-296))))) (by omega) (by omega) (by omega) (by omega)]
    rfl
  · unfold lowS; omega
  · unfold lowS; omega

theorem ser_high_is {z : Int} (h : 0 ≤ z) (h2 : z ≤ 1073741824) : serI z serHigh = highS z ∧ -2147483648 ≤ highS z ∧ highS z ≤ 2147483648 := by
  have e0 : m30 z 0 = 0 := by unfold m30; rw [Int.mul_zero]; rfl
  have b1 := m30_in 2959 h h2 (s := 2959) (by decide) (by decide)
  have b2 := m30_in 216004 h h2 (s := -213044 + m30 z 2959) (by omega) (by omega)
  have b3 := m30_in 9163854 h h2 (s := 8947849 + m30 z (-213044 + m30 z 2959)) (by omega) (by omega)
  have b4 := m30_in 188120826 h h2 (s := -178956971 + m30 z (8947849 + m30 z (-213044 + m30 z 2959))) (by omega) (by omega)
  refine ⟨?_, ?_, ?_⟩
  · show serStep z (serStep z (serStep z (serStep z (serStep z 0 2959) (-213044)) 8947849) (-178956971)) 1073741824 = highS z
    unfold serStep
    rw [mul_m30 (b := 0) (by omega) (by omega) (by decide) (by decide), e0, Int.add_zero]
    rw [mul_m30 (b := 2959) (by omega) (by omega) (by decide) (by decide)]
    rw [mul_m30 (b := -213044 + m30 z 2959) (by omega) (by omega) (by omega) (by omega)]
    rw [mul_m30 (b := 8947849 + m30 z (-213044 + m30 z 2959)) (by omega) (by omega) (by omega) (by omega)]
    rw [mul_m30 (b := -178956971 + m30 z (8947849 + m30 z (-213044 + m30 z 2959))) (by omega) (by omega) (by omega) (by omega)]
    rfl
  · unfold highS; omega
  · unfold highS; omega

theorem quarter_low {a : Nat} (h : a ≤ 8192) : quarterI (a : Int) = qLowN a := by
  have hx := arcN_in h
  have hz := sq30_in (x := (arcN a : Int)) (by omega) (by omega)
  obtain ⟨e, g1, g2⟩ := ser_low_is hz.1 hz.2
  rw [quarterI, if_pos (by omega), arc_nat (by omega), mul_m30 (by omega) (by omega) (by omega) (by omega), e, mul15 g1 g2]
  rfl

theorem quarter_high {b : Nat} (h : b < 8192) : quarterI (16384 - (b : Int)) = qHighN b := by
  have hx := arcN_in (a := b) (by omega)
  have hz := sq30_in (x := (arcN b : Int)) (by omega) (by omega)
  obtain ⟨e, g1, g2⟩ := ser_high_is hz.1 hz.2
  have hm := m30_in 2147483646 (z := (arcN b : Int)) (s := highS (m30 (arcN b) (arcN b))) (by omega) (by omega)
  have eb : (16384 : Int) - (16384 - (b : Int)) = (b : Int) := by omega
  have g3 : -2147483646 ≤ highS (m30 (arcN b) (arcN b)) ∧ highS (m30 (arcN b) (arcN b)) ≤ 2147483646 := by
    have b1 := m30_in 2959 hz.1 hz.2 (s := 2959) (by decide) (by decide)
    have b2 := m30_in 216004 hz.1 hz.2 (s := -213044 + m30 (m30 (arcN b) (arcN b)) 2959) (by omega) (by omega)
    have b3 := m30_in 9163854 hz.1 hz.2 (s := 8947849 + m30 (m30 (arcN b) (arcN b)) (-213044 + m30 (m30 (arcN b) (arcN b)) 2959)) (by omega) (by omega)
    have b4 := m30_in 188120826 hz.1 hz.2 (s := -178956971 + m30 (m30 (arcN b) (arcN b)) (8947849 + m30 (m30 (arcN b) (arcN b)) (-213044 + m30 (m30 (arcN b) (arcN b)) 2959))) (by omega) (by omega)
    unfold highS; omega
  have hm2 := hm g3.1 g3.2
  rw [quarterI, if_neg (by omega), eb, arc_nat (by omega), mul_m30 (a := (arcN b : Int)) (b := (arcN b : Int)) (by omega) (by omega) (by omega) (by omega), e, mul_m30 (a := (arcN b : Int)) (by omega) (by omega) g1 g2, mul15 (by omega) (by omega)]
  rfl

/-- At every angle of a quarter turn: on the circle, and not beyond it. -/
def OnCircle (c s : Int) : Prop := (c * c + s * s - 1073741824 ≤ 262144 ∧ -262144 ≤ c * c + s * s - 1073741824) ∧ (-32768 ≤ c ∧ c ≤ 32768) ∧ (-32768 ≤ s ∧ s ≤ 32768)

theorem abs_in {x : Int} {n : Nat} (h : Nat.ble x.natAbs n = true) : -(n : Int) ≤ x ∧ x ≤ n := by
  have := Nat.le_of_ble_eq_true h
  omega

theorem on_low {a : Nat} (h : a < 8192) : OnCircle (quarterI (a : Int)) (quarterI (16384 - (a : Int))) := by
  have hc := span_all circ_all a (Nat.zero_le _) (by omega)
  rw [quarter_low (by omega), quarter_high h]
  unfold circ at hc
  simp only [Bool.and_eq_true] at hc
  obtain ⟨⟨h1, h2⟩, h3⟩ := hc
  have g1 := abs_in h1
  have g2 := abs_in h2
  have g3 := abs_in h3
  exact ⟨⟨g1.2, g1.1⟩, g2, g3⟩

theorem OnCircle.swap {c s : Int} (h : OnCircle c s) : OnCircle s c := by
  obtain ⟨⟨h1, h2⟩, h3, h4⟩ := h
  exact ⟨⟨by omega, by omega⟩, h4, h3⟩

theorem on_quarter {x : Int} (h : 0 ≤ x) (h2 : x ≤ 16384) : OnCircle (quarterI x) (quarterI (16384 - x)) := by
  have hx : x < 8192 ∨ x = 8192 ∨ 8192 < x := by omega
  rcases hx with hx | hx | hx
  · have := on_low (a := x.toNat) (by omega)
    rwa [Int.toNat_of_nonneg h] at this
  · subst hx
    have e : quarterI 8192 = qLowN 8192 := quarter_low (a := 8192) (Nat.le_refl _)
    have hc := circ_mid
    simp only [Bool.and_eq_true] at hc
    have g1 := abs_in hc.1
    have g2 := abs_in hc.2
    rw [show (16384 : Int) - 8192 = 8192 from rfl, e]
    exact ⟨⟨g1.2, g1.1⟩, g2, g2⟩
  · have h3 := on_low (a := (16384 - x).toNat) (by omega)
    rw [Int.toNat_of_nonneg (by omega), show (16384 : Int) - (16384 - x) = x by omega] at h3
    exact h3.swap

theorem quarter_end : quarterI 16384 = 0 := by
  have := quarter_high (b := 0) (by decide)
  rw [high_nought] at this
  exact this

/-! ### Round the circle -/
def foldI (q : Int) : Int := if 32768 < q then 65536 - q else q

theorem cosI_fold (a : Int) : cosI a = halfI (foldI (a % 65536)) := rfl

theorem foldI_in {q : Int} (h : 0 ≤ q) (h2 : q < 65536) : 0 ≤ foldI q ∧ foldI q ≤ 32768 := by
  unfold foldI; split <;> omega

theorem halfI_flip {x : Int} (_h : 0 ≤ x) (_h2 : x ≤ 32768) : halfI (32768 - x) = -halfI x := by
  unfold halfI
  have hx : x < 16384 ∨ x = 16384 ∨ 16384 < x := by omega
  rcases hx with hx | hx | hx
  · rw [if_pos (by omega), if_neg (by omega), show (32768 : Int) - (32768 - x) = x by omega]
  · subst hx
    rw [if_neg (by decide), if_neg (by decide), show (32768 : Int) - 16384 = 16384 from rfl, quarter_end]
    rfl
  · rw [if_neg (by omega), if_pos (by omega)]
    omega

theorem cosI_mod {a b : Int} (h : a % 65536 = b % 65536) : cosI a = cosI b := by rw [cosI_fold, cosI_fold, h]
theorem cosI_neg (a : Int) : cosI (-a) = cosI a := by
  rw [cosI_fold, cosI_fold]
  have e : foldI ((-a) % 65536) = foldI (a % 65536) := by unfold foldI; split <;> split <;> omega
  rw [e]
theorem cosI_turn (a : Int) : cosI (a + 65536) = cosI a := cosI_mod (by omega)
theorem cosI_half (a : Int) : cosI (a + 32768) = -cosI a := by
  rw [cosI_fold, cosI_fold]
  have hf := foldI_in (q := a % 65536) (by omega) (by omega)
  have e : foldI ((a + 32768) % 65536) = 32768 - foldI (a % 65536) := by unfold foldI; split <;> split <;> omega
  rw [e, halfI_flip hf.1 hf.2]
theorem sinI_is (a : Int) : sinI a = cosI (a - 16384) := cosI_mod (by omega)
theorem sinI_quarter (a : Int) : sinI (a + 16384) = cosI a := by rw [sinI_is]; exact cosI_mod (by omega)
theorem sinI_neg (a : Int) : sinI (-a) = -sinI a := by
  rw [sinI_is, sinI_is, ← cosI_half, ← cosI_neg]
  exact cosI_mod (by omega)

theorem halfI_circle {x : Int} (h : 0 ≤ x) (h2 : x ≤ 32768) : ∃ y, 0 ≤ y ∧ y ≤ 16384 ∧ (halfI x = quarterI y ∨ halfI x = -quarterI y) ∧ (y = x ∨ y = 32768 - x) := by
  unfold halfI
  split
  · exact ⟨32768 - x, by omega, by omega, .inr rfl, .inr rfl⟩
  · exact ⟨x, by omega, by omega, .inl rfl, .inl rfl⟩

theorem on_all (a : Int) : OnCircle (cosI a) (sinI a) := by
  have hq : 0 ≤ a % 65536 ∧ a % 65536 < 65536 := by omega
  rw [sinI_is, cosI_fold, cosI_fold]
  have f1 := foldI_in hq.1 hq.2
  have f2 := foldI_in (q := (a - 16384) % 65536) (by omega) (by omega)
  obtain ⟨y, y1, y2, y3, y4⟩ := halfI_circle f1.1 f1.2
  obtain ⟨z, z1, z2, z3, z4⟩ := halfI_circle f2.1 f2.2
  have e : z = 16384 - y := by
    unfold foldI at y4 z4
    split at y4 <;> split at z4 <;> omega
  subst e
  obtain ⟨⟨o1, o2⟩, o3, o4⟩ := on_quarter y1 y2
  have sq : ∀ u v : Int, (u = v ∨ u = -v) → u * u = v * v := fun u v h => by
    rcases h with rfl | rfl
    · rfl
    · rw [Int.neg_mul_neg]
  refine ⟨?_, ?_, ?_⟩
  · rw [sq _ _ y3, sq _ _ z3]; exact ⟨o1, o2⟩
  · rcases y3 with h | h <;> rw [h] <;> omega
  · rcases z3 with h | h <;> rw [h] <;> omega

end Go.Proofs.YtadbnbgjgabkdaaDoor
