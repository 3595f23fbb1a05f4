/- The law of the circle answers true, in whatever memory where the roots lie as laid. -/
import Derived.Test.YtadbnbgjgabkdaaDoorFixE
import Derived.Test.YtadbnbgjgabkdaaDoorFixK
namespace Go.Proofs.YtadbnbgjgabkdaaDoor
open Go.RowKit

set_option maxHeartbeats 1000000 in
theorem fixCircle.walk (a : Int) (w : World) (wa : (Lit.int .i64 a).wf = true) (hr : RootsAt w) :
    Calls Tryd.prog 6 #[.int .i64 a] w fun e w' => e = .returned (.bool true) ∧ Below w.heap.size w w' := by
  have ba := bounds_i64 wa
  clear wa
  obtain ⟨⟨o1, o2⟩, ⟨o3, o4⟩, o5, o6⟩ := on_all a
  have k1 := cosI_neg a
  have k2 := sinI_neg a
  have k3 := cosI_turn a
  have k4 := cosI_half a
  have k5 := sinI_quarter a
  have s1 : 0 ≤ cosI a * cosI a ∧ cosI a * cosI a ≤ 1073741824 := by
    have h := Int.natAbs_mul_self (a := cosI a)
    have h2 : (cosI a).natAbs * (cosI a).natAbs ≤ 32768 * 32768 := Nat.mul_le_mul (by omega) (by omega)
    omega
  have s2 : 0 ≤ sinI a * sinI a ∧ sinI a * sinI a ≤ 1073741824 := by
    have h := Int.natAbs_mul_self (a := sinI a)
    have h2 : (sinI a).natAbs * (sinI a).natAbs ≤ 32768 * 32768 := Nat.mul_le_mul (by omega) (by omega)
    omega
  generalize hC : cosI a = C at *
  generalize hS : sinI a = S at *
  have HC : Hid (cosI a = C) := hC
  have HS : Hid (sinI a = S) := hS
  clear hC hS
  have K1 : Hid (cosI (-a) = C) := k1
  have K2 : Hid (sinI (-a) = -S) := k2
  have K3 : Hid (cosI (a + 65536) = C) := k3
  have K4 : Hid (cosI (a + 32768) = -C) := k4
  have K5 : Hid (sinI (a + 16384) = C) := k5
  clear k1 k2 k3 k4 k5
  have hb := Below.refl w.heap.size w
  have hc : 1152921504606846976 < a ∨ (a ≤ 1152921504606846976 ∧ a < -1152921504606846976) ∨ (a ≤ 1152921504606846976 ∧ -1152921504606846976 ≤ a) := by omega
  rcases hc with h1 | ⟨h1, h2⟩ | ⟨h1, h2⟩
  all_goals
    go_enter Tryd.func6, Tryd.ntmps6
    go_wp2_with (first
      | (go_at_call 9; refine (awake_any _ hr).mono ?_; rintro e w1 ⟨rfl, hw1⟩; replace hb := hb.trans (hw1.mono hb.size); clear hw1)
      | (go_at_call 10; refine (cos_any _ _).mono ?_; (first | rw [HC.out] | rw [K1.out] | rw [K3.out] | rw [K4.out]); rintro e w1 ⟨rfl, hw1⟩; replace hb := hb.trans (hw1.mono hb.size); clear hw1)
      | (go_at_call 29; refine (sin_any _ _).mono ?_; (first | rw [HS.out] | rw [K2.out] | rw [K5.out]); rintro e w1 ⟨rfl, hw1⟩; replace hb := hb.trans (hw1.mono hb.size); clear hw1))
    go_ret
    exact ⟨rfl, hb⟩
end Go.Proofs.YtadbnbgjgabkdaaDoor
