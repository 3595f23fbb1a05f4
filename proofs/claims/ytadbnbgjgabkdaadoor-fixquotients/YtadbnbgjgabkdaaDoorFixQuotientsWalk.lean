/- The law of quotients answers true, in whatever memory where the roots lie as laid. -/
import Derived.Test.YtadbnbgjgabkdaaDoorFixE
namespace Go.Proofs.YtadbnbgjgabkdaaDoor
open Go.RowKit

theorem cf_same {a : Int} (h1 : -2147483648 ≤ a) (h2 : a ≤ 2147483648) : cf a = a := by
  unfold cf clampI
  rw [if_neg (by omega), if_neg (by omega), if_neg (by omega)]

theorem pow30_in (s : Int) (h1 : 0 ≤ s) (h2 : s ≤ 30) : 1 ≤ (2 : Int) ^ s.toNat ∧ (2 : Int) ^ s.toNat ≤ 1073741824 := by
  have h3 : (2 : Nat) ^ s.toNat ≤ 2 ^ 30 := Nat.pow_le_pow_right (by decide) (by omega)
  have h4 := pow_cast s.toNat
  have h5 : (2 : Nat) ^ 30 = 1073741824 := by decide
  have h6 := Nat.two_pow_pos s.toNat
  omega

theorem div_laws {a b s : Int} (h1 : -2147483648 ≤ a) (h2 : a ≤ 2147483648) (h3 : 1 ≤ b) (h4 : b ≤ 2147483648) (h5 : 0 ≤ s) (h6 : s ≤ 30) :
    divI a b s * b ≤ a * 2 ^ s.toNat ∧ a * 2 ^ s.toNat < divI a b s * b + b := by
  have e : divI a b s = a * 2 ^ s.toNat / b := by
    rw [divI, if_neg (by omega), if_neg (by omega), if_neg (by omega), cf_same h1 h2, cf_same (by omega) h4, Int.fdiv_eq_ediv_of_nonneg _ (by omega)]
  rw [e]
  generalize a * 2 ^ s.toNat = n
  have g1 := Int.ediv_mul_le n (show b ≠ 0 by omega)
  have g2 := Int.lt_ediv_add_one_mul_self n (show 0 < b by omega)
  rw [Int.add_mul, Int.one_mul] at g2
  exact ⟨g1, g2⟩

theorem fixQuotients.walk (a b s : Int) (w : World) (_wa : (Lit.int .i64 a).wf = true) (_wb : (Lit.int .i64 b).wf = true) (_ws : (Lit.int .i64 s).wf = true) (hr : RootsAt w) :
    Calls Tryd.prog 8 #[.int .i64 a, .int .i64 b, .int .i64 s] w fun e w' => e = .returned (.bool true) ∧ Below w.heap.size w w' := by
  have hc : (a < -2147483648) ∨ (-2147483648 ≤ a ∧ 2147483648 < a) ∨ ((-2147483648 ≤ a ∧ a ≤ 2147483648) ∧ b < 1) ∨ ((-2147483648 ≤ a ∧ a ≤ 2147483648) ∧ 1 ≤ b ∧ 2147483648 < b) ∨
      ((-2147483648 ≤ a ∧ a ≤ 2147483648) ∧ (1 ≤ b ∧ b ≤ 2147483648) ∧ s < 0) ∨ ((-2147483648 ≤ a ∧ a ≤ 2147483648) ∧ (1 ≤ b ∧ b ≤ 2147483648) ∧ 0 ≤ s ∧ 30 < s) ∨
      ((-2147483648 ≤ a ∧ a ≤ 2147483648) ∧ (1 ≤ b ∧ b ≤ 2147483648) ∧ 0 ≤ s ∧ s ≤ 30) := by omega
  rcases hc with h1 | ⟨h1, h2⟩ | ⟨⟨h1, h2⟩, h3⟩ | ⟨⟨h1, h2⟩, h3, h4⟩ | ⟨⟨h1, h2⟩, ⟨h3, h4⟩, h5⟩ | ⟨⟨h1, h2⟩, ⟨h3, h4⟩, h5, h6⟩ | ⟨⟨h1, h2⟩, ⟨h3, h4⟩, h5, h6⟩
  iterate 6
    · go_enter Tryd.func8, Tryd.ntmps8
      go_wp2_with (go_at_call 9; refine (awake_any _ hr).mono ?_; rintro e w0 ⟨rfl, hw0⟩)
      go_ret
      exact ⟨rfl, hw0⟩
  · obtain ⟨g1, g2⟩ := div_laws h1 h2 h3 h4 h5 h6
    obtain ⟨g3, g4⟩ := pow30_in s h5 h6
    have g5 := prod_in (x := a) (y := 2 ^ s.toNat) ⟨h1, h2⟩ ⟨by omega, by omega⟩
    generalize hP : (2 : Int) ^ s.toNat = P at *
    have hP' : Hid ((2 : Int) ^ s.toNat = P) := hP
    generalize hD : divI a b s = D at *
    have hD' : Hid (divI a b s = D) := hD
    clear hD
    generalize hX : D * b = X at *
    generalize hY : a * P = Y at *
    have g6 : Y - X < b := by omega
    go_enter Tryd.func8, Tryd.ntmps8
    go_wp2_with (first
      | (go_at_call 9; refine (awake_any _ hr).mono ?_; rintro e w0 ⟨rfl, hw0⟩)
      | (go_at_call 12; refine (div_any _ _ _ _).mono ?_; rw [hD'.out]; rintro e w' ⟨rfl, nd, rfl⟩))
    go_ret
    exact ⟨rfl, below_drewN hw0 _⟩
end Go.Proofs.YtadbnbgjgabkdaaDoor
