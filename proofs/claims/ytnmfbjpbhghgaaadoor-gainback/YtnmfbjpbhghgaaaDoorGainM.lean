/- Loudness as plain numbers: it rises; the nearest of all 64. Nothing here is of any program but the table of powers that text FixC names. -/
import Derived.Test.YtnmfbjpbhghgaaaDoorMA
namespace Go.Proofs.YtnmfbjpbhghgaaaDoor
open Go.RowKit

def loudI (g : Int) : Int := exp2I (70 * clampI g 0 63)

theorem loud_run : ((List.range 63).all fun k => decide (loudI (k : Nat) ≤ loudI ((k + 1 : Nat) : Int))) = true := by decide +kernel
theorem loud_0 : loudI 0 = 1 := by decide +kernel
theorem loud_63 : loudI 63 = 153360 := by decide +kernel

theorem loud_step {k : Nat} (h : k < 63) : loudI (k : Nat) ≤ loudI ((k + 1 : Nat) : Int) :=
  of_decide_eq_true (List.all_eq_true.1 loud_run k (List.mem_range.2 h))

theorem loud_nat {j : Nat} : ∀ {k : Nat}, j ≤ k → k ≤ 63 → loudI (j : Nat) ≤ loudI (k : Nat)
  | 0, h, _ => by obtain rfl : j = 0 := by omega
                  exact Int.le_refl _
  | k + 1, h, h1 => by
    rcases Nat.lt_or_ge k j with h2 | h2
    · obtain rfl : j = k + 1 := by omega
      exact Int.le_refl _
    · exact Int.le_trans (loud_nat h2 (by omega)) (loud_step (by omega))

theorem loud_clamp (g : Int) : loudI g = loudI ((clampI g 0 63).toNat : Nat) ∧ (clampI g 0 63).toNat ≤ 63 := by
  have h := clampI_in g 0 63 (by decide)
  have e : clampI (((clampI g 0 63).toNat : Nat) : Int) 0 63 = clampI g 0 63 := by
    generalize clampI g 0 63 = c at h
    unfold clampI
    rw [if_neg (by omega), if_neg (by decide), if_neg (by omega)]
    omega
  exact ⟨by unfold loudI; rw [e], by omega⟩

theorem clampI_mono {a b : Int} (h : a ≤ b) : clampI a 0 63 ≤ clampI b 0 63 := by
  unfold clampI
  repeat' split
  all_goals omega

theorem loud_mono {a b : Int} (h : a ≤ b) : loudI a ≤ loudI b := by
  obtain ⟨e1, h1⟩ := loud_clamp a
  obtain ⟨e2, h2⟩ := loud_clamp b
  have := clampI_mono h
  rw [e1, e2]
  exact loud_nat (by omega) h2

theorem loud_in (g : Int) : 1 ≤ loudI g ∧ loudI g ≤ 153360 := by
  obtain ⟨e, h⟩ := loud_clamp g
  rw [e, ← loud_0, ← loud_63]
  exact ⟨loud_nat (Nat.zero_le _) h, loud_nat h (Nat.le_refl _)⟩

/-! ### The nearest -/
def distI (v a : Int) : Int := if v < a then a - v else v - a

def closeN (v : Int) : Nat → Nat
  | 0 => 0
  | k + 1 => if distI v (loudI ((k + 1 : Nat) : Int)) < distI v (loudI (closeN v k : Nat)) then k + 1 else closeN v k

def nearestI (v : Int) : Int := (closeN v 63 : Nat)

theorem closeN_le (v : Int) : ∀ k, closeN v k ≤ k
  | 0 => Nat.le_refl _
  | k + 1 => by
    unfold closeN
    split
    · exact Nat.le_refl _
    · exact Nat.le_succ_of_le (closeN_le v k)

theorem closeN_min (v : Int) : ∀ k j, j ≤ k → distI v (loudI (closeN v k : Nat)) ≤ distI v (loudI (j : Nat)) ∧ (j < closeN v k → distI v (loudI (closeN v k : Nat)) < distI v (loudI (j : Nat)))
  | 0, j, h => by
    obtain rfl : j = 0 := by omega
    exact ⟨Int.le_refl _, fun h => absurd h (Nat.not_lt_zero _)⟩
  | k + 1, j, h => by
    by_cases hc : distI v (loudI ((k + 1 : Nat) : Int)) < distI v (loudI (closeN v k : Nat))
    · have e : closeN v (k + 1) = k + 1 := by rw [closeN, if_pos hc]
      rw [e]
      rcases Nat.lt_or_ge k j with h2 | h2
      · obtain rfl : j = k + 1 := by omega
        exact ⟨Int.le_refl _, fun h => absurd h (Nat.lt_irrefl _)⟩
      · have := (closeN_min v k j h2).1
        exact ⟨by omega, fun _ => by omega⟩
    · have e : closeN v (k + 1) = closeN v k := by rw [closeN, if_neg hc]
      rw [e]
      rcases Nat.lt_or_ge k j with h2 | h2
      · obtain rfl : j = k + 1 := by omega
        have := closeN_le v k
        exact ⟨by omega, fun h => by omega⟩
      · exact closeN_min v k j h2

theorem dist_clamp (v a b : Int) (ha : 1 ≤ a ∧ a ≤ 153360) (hb : 1 ≤ b ∧ b ≤ 153360) : distI (clampI v 1 153360) a < distI (clampI v 1 153360) b ↔ distI v a < distI v b := by
  unfold distI clampI
  repeat' split
  all_goals omega

theorem closeN_clamp (v : Int) : ∀ k, closeN (clampI v 1 153360) k = closeN v k
  | 0 => rfl
  | k + 1 => by
    have ih := closeN_clamp v k
    unfold closeN
    rw [ih]
    have h := dist_clamp v _ _ (loud_in ((k + 1 : Nat) : Int)) (loud_in (closeN v k : Nat))
    by_cases hc : distI v (loudI ((k + 1 : Nat) : Int)) < distI v (loudI (closeN v k : Nat))
    · rw [if_pos hc, if_pos (h.2 hc)]
    · rw [if_neg hc, if_neg (fun x => hc (h.1 x))]

theorem nearest_in (v : Int) : 0 ≤ nearestI v ∧ nearestI v ≤ 63 := by
  have := closeN_le v 63
  unfold nearestI
  omega

theorem nearest_min (v : Int) {j : Nat} (h : j ≤ 63) : distI v (loudI (nearestI v)) ≤ distI v (loudI (j : Nat)) ∧ ((j : Int) < nearestI v → distI v (loudI (nearestI v)) < distI v (loudI (j : Nat))) := by
  obtain ⟨h1, h2⟩ := closeN_min v 63 j h
  exact ⟨h1, fun h => h2 (by unfold nearestI at h; omega)⟩

theorem dist_zero {v a : Int} (h : distI v a ≤ 0) : a = v := by
  unfold distI at h
  split at h <;> omega

theorem nearest_loud (b : Int) : loudI (nearestI (loudI b)) = loudI b := by
  obtain ⟨e, h⟩ := loud_clamp b
  refine dist_zero (Int.le_trans (nearest_min (loudI b) h).1 ?_)
  rw [← e]
  unfold distI
  rw [if_neg (by omega)]
  omega

end Go.Proofs.YtnmfbjpbhghgaaaDoor
