/- How a window rises, for every length and place: out of what the kernel ran through. -/
import Derived.Test.YtjcbcmloenhohabDoorTabsH
import Derived.Test.YtjcbcmloenhohabDoorTabsV
namespace Go.Proofs.YtjcbcmloenhohabDoor
open Go.RowKit

theorem winB_out {a b c d : Int} (h : winB a b c d = true) :
    ((-524288 ≤ a * a + c * c - 1073741824 ∧ a * a + c * c - 1073741824 ≤ 524288) ∧ (-524288 ≤ b * b + c * c - 1073741824 ∧ b * b + c * c - 1073741824 ≤ 524288)) ∧ a ≤ b ∧ d ≤ c ∧ (0 ≤ a ∧ a ≤ 32768) ∧ 0 ≤ c ∧ c ≤ 32768 := by
  unfold winB at h
  simp only [Bool.and_eq_true] at h
  obtain ⟨h1, h2, h3, h4, h5, h6⟩ := h
  have g1 := Nat.le_of_ble_eq_true h1
  have g2 := Nat.le_of_ble_eq_true h2
  have g3 := Nat.le_of_ble_eq_true h3
  have g4 := Nat.le_of_ble_eq_true h4
  have g5 := Nat.le_of_ble_eq_true h5
  have g6 := Nat.le_of_ble_eq_true h6
  omega

theorem winP_all {x : Nat} (h : x < 8192) : winB (hN x) (hN (x + 1)) (hN (16384 - x)) (hN (16383 - x)) = true := by
  have hx : x < 2048 ∨ (2048 ≤ x ∧ x < 4096) ∨ (4096 ≤ x ∧ x < 6144) ∨ (6144 ≤ x ∧ x < 8192) := by omega
  rcases hx with hx | hx | hx | hx
  · exact span_all win_a x (by omega) (by omega)
  · exact span_all win_b x (by omega) (by omega)
  · exact span_all win_c x (by omega) (by omega)
  · exact span_all win_d x (by omega) (by omega)

/-- One step of the angle. -/
theorem hN_step {x : Nat} (h : x < 16384) : hN x ≤ hN (x + 1) := by
  by_cases hx : x < 8192
  · exact (winB_out (winP_all hx)).2.1
  · have h1 := (winB_out (winP_all (x := 16383 - x) (by omega))).2.2.1
    rw [show 16384 - (16383 - x) = x + 1 by omega, show 16383 - (16383 - x) = x by omega] at h1
    exact h1

theorem hN_mono (x d : Nat) (h : x + d ≤ 16384) : hN x ≤ hN (x + d) := by
  induction d with
  | zero => exact Int.le_refl _
  | succ d ih => exact Int.le_trans (ih (by omega)) (hN_step (x := x + d) (by omega))

theorem mid_out : (-524288 ≤ hN 8192 * hN 8192 + hN 8192 * hN 8192 - 1073741824 ∧ hN 8192 * hN 8192 + hN 8192 * hN 8192 - 1073741824 ≤ 524288) ∧ 0 ≤ hN 8192 ∧ hN 8192 ≤ 32768 := by
  have h := win_m
  simp only [Bool.and_eq_true] at h
  have g1 := Nat.le_of_ble_eq_true h.1
  have g2 := Nat.le_of_ble_eq_true h.2
  omega

theorem hN_in {x : Nat} (h : x ≤ 16384) : 0 ≤ hN x ∧ hN x ≤ 32768 := by
  have hx : x < 8192 ∨ x = 8192 ∨ 8192 < x := by omega
  rcases hx with hx | hx | hx
  · exact (winB_out (winP_all hx)).2.2.2.1
  · subst hx; exact mid_out.2
  · have h1 := (winB_out (winP_all (x := 16384 - x) (by omega))).2.2.2.2
    rw [show 16384 - (16384 - x) = x by omega] at h1
    exact h1

def Near (s : Int) : Prop := -524288 ≤ s - 1073741824 ∧ s - 1073741824 ≤ 524288

theorem near_low {x : Nat} (h : x < 8192) : Near (hN x * hN x + hN (16384 - x) * hN (16384 - x)) ∧ Near (hN (x + 1) * hN (x + 1) + hN (16384 - x) * hN (16384 - x)) := by
  have h1 := (winB_out (winP_all h)).1
  exact ⟨h1.1, h1.2⟩

theorem near_all {x y : Nat} (h : x + y = 16384 ∨ x + y = 16385) (hx : x ≤ 16384) (hy : y ≤ 16384) : Near (hN x * hN x + hN y * hN y) := by
  rcases h with h | h
  · have hc : x < 8192 ∨ x = 8192 ∨ y < 8192 := by omega
    rcases hc with hc | hc | hc
    · have h1 := (near_low hc).1
      rw [show 16384 - x = y by omega] at h1
      exact h1
    · have e : y = 8192 := by omega
      subst hc; subst e
      exact mid_out.1
    · have h1 := (near_low hc).1
      rw [show 16384 - y = x by omega, Int.add_comm] at h1
      exact h1
  · have hc : x < 8193 ∨ y < 8193 := by omega
    rcases hc with hc | hc
    · have h1 := (near_low (x := x - 1) (by omega)).2
      rw [show x - 1 + 1 = x by omega, show 16384 - (x - 1) = y by omega] at h1
      exact h1
    · have h1 := (near_low (x := y - 1) (by omega)).2
      rw [show y - 1 + 1 = y by omega, show 16384 - (y - 1) = x by omega, Int.add_comm] at h1
      exact h1

/-! ### From lengths and places to angles -/
def angN (l k : Nat) : Nat := ((2 * k + 1) * 16384 / l + 1) / 2

theorem angN_le {l k : Nat} (h : k < l) : angN l k ≤ 16384 := by
  have h1 : (2 * k + 1) * 16384 / l < 32769 := Nat.div_lt_of_lt_mul (by rw [Nat.mul_comm l]; omega)
  unfold angN
  omega

theorem ang_nat (l k : Nat) : winAng (l : Int) k = (angN l k : Int) := by
  have e : (2 * (k : Int) + 1) * 16384 = (((2 * k + 1) * 16384 : Nat) : Int) := by omega
  unfold winAng angN
  rw [e, ← Int.natCast_ediv]
  omega

theorem sN_small {x : Nat} (h : x ≤ 16384) : -65537 ≤ sN x ∧ sN x ≤ 65537 := by
  rw [← sN_is h]; exact sinI_in _

theorem sN_up {x : Nat} (h : x ≤ 16384) : -32768 ≤ sN x ∧ sN x ≤ 32768 := by
  have h1 : Nat.ble (sN x).natAbs 32768 = true := by
    by_cases hx : x = 16384
    · subst hx; exact sin_end
    · exact span_all sin_top x (Nat.zero_le _) (by omega)
  have := Nat.le_of_ble_eq_true h1
  omega

theorem winAt_is {l k : Nat} (h : k < l) : winAt (l : Int) k = hN (angN l k) := by
  have ha := angN_le h
  unfold winAt hN
  rw [ang_nat, sN_is ha]
  have hs := sN_up ha
  generalize sN (angN l k) = s at hs
  have e : cf s = s := cf_id (by omega) (by omega)
  have h4 : (s * s).natAbs ≤ 32768 * 32768 := by rw [Int.natAbs_mul]; exact Nat.mul_le_mul (by omega) (by omega)
  have h5 : 0 ≤ s * s := by
    rcases Int.le_total 0 s with h | h
    · exact Int.mul_nonneg h h
    · exact Int.mul_nonneg_of_nonpos_of_nonpos h h
  unfold winUp upN
  have h3 : mulI s s 15 = (s * s + 16384) / 32768 := by
    rw [mulI, if_neg (by decide), if_neg (by decide), if_neg (by decide), e]; rfl
  rw [h3]
  have hx : (((s * s + 16384) / 32768 + 1) / 2).toNat ≤ 16384 := by omega
  rw [← sN_is hx]
  congr 1
  omega

theorem two_quot {l A B : Nat} (h0 : 0 < l) (h : A + B = l * 32768) : A / l + B / l = 32768 ∨ A / l + B / l = 32767 := by
  have hA := Nat.div_add_mod A l
  have hB := Nat.div_add_mod B l
  have r1 := Nat.mod_lt A h0
  have r2 := Nat.mod_lt B h0
  have hs : l * (A / l + B / l) + (A % l + B % l) = l * 32768 := by
    rw [Nat.mul_add]; omega
  have h1 : A / l + B / l ≤ 32768 := Nat.le_of_mul_le_mul_left (by omega) h0
  have h2 : 32768 < A / l + B / l + 2 := by
    refine Nat.lt_of_mul_lt_mul_left (a := l) ?_
    rw [Nat.mul_add l (A / l + B / l) 2]
    omega
  omega

theorem halves {p q : Nat} (h : p + q = 32768 ∨ p + q = 32767) : (p + 1) / 2 + (q + 1) / 2 = 16384 ∨ (p + 1) / 2 + (q + 1) / 2 = 16385 := by omega

theorem ang_mirror {l k : Nat} (h : k < l) : angN l k + angN l (l - 1 - k) = 16384 ∨ angN l k + angN l (l - 1 - k) = 16385 :=
  halves (two_quot (by omega) (by
    have e : l - 1 - k + k + 1 = l := by omega
    rw [← Nat.add_mul, show 2 * k + 1 + (2 * (l - 1 - k) + 1) = l * 2 by omega, Nat.mul_assoc]))

theorem ang_mono (l k : Nat) : angN l k ≤ angN l (k + 1) := by
  have h1 : (2 * k + 1) * 16384 / l ≤ (2 * (k + 1) + 1) * 16384 / l := Nat.div_le_div_right (by omega)
  unfold angN
  omega

end Go.Proofs.YtjcbcmloenhohabDoor
