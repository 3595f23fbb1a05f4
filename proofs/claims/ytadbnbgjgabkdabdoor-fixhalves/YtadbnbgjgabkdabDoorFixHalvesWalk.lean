/- The law of halves answers true, in whatever memory where the roots lie as laid. -/
import Derived.Test.YtadbnbgjgabkdabDoorFixE
namespace Go.Proofs.YtadbnbgjgabkdabDoor
open Go.RowKit

theorem cf_same {a : Int} (h1 : -2147483648 ≤ a) (h2 : a ≤ 2147483648) : cf a = a := by
  unfold cf clampI
  rw [if_neg (by omega), if_neg (by omega), if_neg (by omega)]

theorem pow30_in (s : Int) (h1 : 1 ≤ s) (h2 : s ≤ 30) : (2 : Int) ^ s.toNat = 2 * 2 ^ (s.toNat - 1) ∧ 1 ≤ (2 : Int) ^ (s.toNat - 1) ∧ (2 : Int) ^ (s.toNat - 1) ≤ 536870912 := by
  have h3 : (2 : Nat) ^ (s.toNat - 1) ≤ 2 ^ 29 := Nat.pow_le_pow_right (by decide) (by omega)
  have h4 := pow_cast (s.toNat - 1)
  have h5 : (2 : Nat) ^ 29 = 536870912 := by decide
  have h6 := Nat.two_pow_pos (s.toNat - 1)
  refine ⟨?_, by omega, by omega⟩
  obtain ⟨n, hn⟩ : ∃ n, s.toNat = n + 1 := ⟨s.toNat - 1, by omega⟩
  rw [hn, Int.pow_succ, Int.mul_comm]
  rfl

/-- A rounded product is within a half of the exact one. -/
theorem half_laws {a b s : Int} (h1 : -1073741824 ≤ a) (h2 : a ≤ 1073741824) (h3 : -1073741824 ≤ b) (h4 : b ≤ 1073741824) (h5 : 1 ≤ s) (h6 : s ≤ 30) :
    2 * (mulI a b s * 2 ^ s.toNat) - 2 * (a * b) ≤ 2 ^ s.toNat ∧ -(2 ^ s.toNat) < 2 * (mulI a b s * 2 ^ s.toNat) - 2 * (a * b) := by
  have e : mulI a b s = (a * b + 2 ^ (s.toNat - 1)) / 2 ^ s.toNat := by
    rw [mulI, if_neg (by omega), if_neg (by omega), if_neg (by omega), cf_same (by omega) (by omega), cf_same (by omega) (by omega)]
  rw [e]
  obtain ⟨g1, g2, g3⟩ := pow30_in s h5 h6
  rw [g1]
  generalize (2 : Int) ^ (s.toNat - 1) = P at *
  generalize a * b = n
  have k1 := Int.ediv_mul_le (n + P) (show 2 * P ≠ 0 by omega)
  have k2 := Int.lt_ediv_add_one_mul_self (n + P) (show 0 < 2 * P by omega)
  rw [Int.add_mul, Int.one_mul] at k2
  omega

theorem sq30 {a b : Int} (h1 : -1073741824 ≤ a) (h2 : a ≤ 1073741824) (h3 : -1073741824 ≤ b) (h4 : b ≤ 1073741824) : -1152921504606846976 ≤ a * b ∧ a * b ≤ 1152921504606846976 := by
  have h : (a * b).natAbs ≤ 1073741824 * 1073741824 := by
    rw [Int.natAbs_mul]
    exact Nat.mul_le_mul (by omega) (by omega)
  omega

theorem fixHalves.walk (a b s : Int) (w : World) (_wa : (Lit.int .i64 a).wf = true) (_wb : (Lit.int .i64 b).wf = true) (_ws : (Lit.int .i64 s).wf = true) (hr : RootsAt w) :
    Calls Tryd.prog 3 #[.int .i64 a, .int .i64 b, .int .i64 s] w fun e w' => e = .returned (.bool true) ∧ Below w.heap.size w w' := by
  have hc : (a < -1073741824) ∨ (-1073741824 ≤ a ∧ 1073741824 < a) ∨ ((-1073741824 ≤ a ∧ a ≤ 1073741824) ∧ b < -1073741824) ∨ ((-1073741824 ≤ a ∧ a ≤ 1073741824) ∧ -1073741824 ≤ b ∧ 1073741824 < b) ∨
      ((-1073741824 ≤ a ∧ a ≤ 1073741824) ∧ (-1073741824 ≤ b ∧ b ≤ 1073741824) ∧ s < 1) ∨ ((-1073741824 ≤ a ∧ a ≤ 1073741824) ∧ (-1073741824 ≤ b ∧ b ≤ 1073741824) ∧ 1 ≤ s ∧ 30 < s) ∨
      ((-1073741824 ≤ a ∧ a ≤ 1073741824) ∧ (-1073741824 ≤ b ∧ b ≤ 1073741824) ∧ 1 ≤ s ∧ s ≤ 30) := by omega
  rcases hc with h1 | ⟨h1, h2⟩ | ⟨⟨h1, h2⟩, h3⟩ | ⟨⟨h1, h2⟩, h3, h4⟩ | ⟨⟨h1, h2⟩, ⟨h3, h4⟩, h5⟩ | ⟨⟨h1, h2⟩, ⟨h3, h4⟩, h5, h6⟩ | ⟨⟨h1, h2⟩, ⟨h3, h4⟩, h5, h6⟩
  iterate 6
    · go_enter Tryd.func3, Tryd.ntmps3
      go_wp2_with (go_at_call 5; refine (awake_any _ hr).mono ?_; rintro e w0 ⟨rfl, hw0⟩)
      go_ret
      exact ⟨rfl, hw0⟩
  · obtain ⟨g1, g2⟩ := half_laws h1 h2 h3 h4 h5 h6
    obtain ⟨g3, g4, g5⟩ := pow30_in s h5 h6
    have g6 := sq30 h1 h2 h3 h4
    have g7 : 1 ≤ (2 : Int) ^ s.toNat ∧ (2 : Int) ^ s.toNat ≤ 1073741824 := by omega
    clear g3 g4 g5
    generalize hP : (2 : Int) ^ s.toNat = P at *
    generalize hD : mulI a b s = D at *
    have hD' : Hid (mulI a b s = D) := hD
    clear hD
    generalize hX : D * P = X at *
    generalize hY : a * b = Y at *
    have g8 : 2 * (X - Y) ≤ P := by omega
    have g9 : -P < 2 * (X - Y) := by omega
    clear g1 g2
    go_enter Tryd.func3, Tryd.ntmps3
    go_wp2_with (first
      | (go_at_call 5; refine (awake_any _ hr).mono ?_; rintro e w0 ⟨rfl, hw0⟩)
      | (go_at_call 6; refine (mul_any _ _ _ _).mono ?_; rw [hD'.out]; rintro e w' ⟨rfl, rfl⟩))
    go_ret
    exact ⟨rfl, hw0⟩
end Go.Proofs.YtadbnbgjgabkdabDoor
