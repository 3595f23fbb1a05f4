/- The document's own nearest loudness. -/
import Derived.Test.YtnmfbjpbhghgaaaDoorGainA
namespace Go.Proofs.YtnmfbjpbhghgaaaDoor
open Go.RowKit

theorem ret_far {a b : Int} (h : a = b) : Ending.returned (.int .u64 a) = Ending.returned (.int .u64 b) := by rw [h]

theorem far_any (v a : Int) (w : World) (hv : -9223372036854775808 ≤ v ∧ v ≤ 9223372036854775807) (ha : 1 ≤ a ∧ a ≤ 153360) :
    Calls Tryd.prog 55 #[.int .i64 v, .int .i64 a] w fun e w' => e = .returned (.int .u64 (distI v a)) ∧ w' = w := by
  obtain ⟨c, hc⟩ : ∃ c, distI v a = c := ⟨_, rfl⟩
  have HC : Hid (distI v a = c) := hc
  rw [hc]
  clear hc
  by_cases h0 : v < a
  · have e : c = a - v := by have := HC.out; unfold distI at this; rw [if_pos h0] at this; exact this.symm
    have HE : Hid (c = a - v) := e
    clear e HC
    go_enter Tryd.func55, Tryd.ntmps55
    go_wp2
    go_ret
    exact ⟨ret_far (by rw [HE.out, IntKind.wrap_u64, IntKind.wrap_u64]; omega), rfl⟩
  · have e : c = v - a := by have := HC.out; unfold distI at this; rw [if_neg h0] at this; exact this.symm
    have HE : Hid (c = v - a) := e
    clear e HC
    go_enter Tryd.func55, Tryd.ntmps55
    go_wp2
    go_ret
    exact ⟨ret_far HE.out.symm, rfl⟩

theorem dist_in {v a : Int} (hv : -9223372036854775808 ≤ v ∧ v ≤ 9223372036854775807) (ha : 1 ≤ a ∧ a ≤ 153360) : 0 ≤ distI v a ∧ distI v a ≤ 18446744073709551615 := by
  unfold distI
  split <;> omega

set_option maxRecDepth 100000 in
set_option maxHeartbeats 1600000 in
theorem rnearest_any (v : Int) (w : World) (hv : -9223372036854775808 ≤ v ∧ v ≤ 9223372036854775807) :
    Calls Tryd.prog 29 #[.int .i64 v] w fun e w' => e = .returned (.int .i64 (nearestI v)) ∧ Below w.heap.size w w' := by
  have hb := Below.refl w.heap.size w
  have HN : Hid (nearestI v = (closeN v 63 : Nat)) := rfl
  have hvd : -9223372036854775808 ≤ v ∧ v ≤ 9223372036854775807 := hv
  go_enter Tryd.func29, Tryd.ntmps29
  go_wp2
  go_loopw [3, 4] (fun b i W => Below w.heap.size w W ∧ ∃ k : Nat, 1 ≤ k ∧ k ≤ 64 ∧ i = .int .i64 k ∧ b = .int .i64 (closeN v (k - 1) : Nat)) (fun _ i _ => 64 - (intOf i).toNat)
  case atStart => exact ⟨hb, 1, by decide, by decide, rfl, rfl⟩
  case round =>
    clear hb
    obtain ⟨hb, k, hk1, hk, rfl, rfl⟩ := hrel
    by_cases hlt : k < 64
    · obtain ⟨n, rfl⟩ : ∃ n, k = n + 1 := ⟨k - 1, by omega⟩
      rw [show n + 1 - 1 = n by omega]
      have hlk := loud_in ((n + 1 : Nat) : Int)
      have hll := loud_in (closeN v n : Nat)
      obtain ⟨D1, hD1⟩ : ∃ D, distI v (loudI ((n + 1 : Nat) : Int)) = D := ⟨_, rfl⟩
      obtain ⟨D2, hD2⟩ : ∃ D, distI v (loudI (closeN v n : Nat)) = D := ⟨_, rfl⟩
      have b1 := dist_in hvd hlk
      have b2 := dist_in hvd hll
      rw [hD1] at b1
      rw [hD2] at b2
      have HD1 : Hid (distI v (loudI ((n + 1 : Nat) : Int)) = D1) := hD1
      have HD2 : Hid (distI v (loudI (closeN v n : Nat)) = D2) := hD2
      have l1 : Hid True := trivial
      have f1 : Hid True := trivial
      by_cases hc : D1 < D2
      · have HS : Hid (closeN v (n + 1) = n + 1) := by show _ = _; rw [closeN, if_pos (by rw [hD1, hD2]; exact hc)]
        clear hD1 hD2
        go_wp2_with (first
          | (go_at_call 27; clear l1; refine (rloud_any ((n + 1 : Nat) : Int) _).mono ?_; rintro e w' ⟨rfl, hb1⟩; replace hb := hb.trans (hb1.mono hb.size); clear hb1)
          | (go_at_call 27; refine (rloud_any (closeN v n : Nat) _).mono ?_; rintro e w' ⟨rfl, hb1⟩; replace hb := hb.trans (hb1.mono hb.size); clear hb1)
          | (go_at_call 55; clear f1; refine (far_any v _ _ hvd hlk).mono ?_; rw [HD1.out]; rintro e w' ⟨rfl, rfl⟩)
          | (go_at_call 55; refine (far_any v _ _ hvd hll).mono ?_; rw [HD2.out]; rintro e w' ⟨rfl, rfl⟩))
        go_roundw
        case rel => exact ⟨hb, n + 1 + 1, by omega, by omega, by go_num, by rw [show n + 1 + 1 - 1 = n + 1 by omega, HS.out]; rfl⟩
        case measure => simp [intOf]; omega
      · have HS : Hid (closeN v (n + 1) = closeN v n) := by show _ = _; rw [closeN, if_neg (by rw [hD1, hD2]; exact hc)]
        clear hD1 hD2
        go_wp2_with (first
          | (go_at_call 27; clear l1; refine (rloud_any ((n + 1 : Nat) : Int) _).mono ?_; rintro e w' ⟨rfl, hb1⟩; replace hb := hb.trans (hb1.mono hb.size); clear hb1)
          | (go_at_call 27; refine (rloud_any (closeN v n : Nat) _).mono ?_; rintro e w' ⟨rfl, hb1⟩; replace hb := hb.trans (hb1.mono hb.size); clear hb1)
          | (go_at_call 55; clear f1; refine (far_any v _ _ hvd hlk).mono ?_; rw [HD1.out]; rintro e w' ⟨rfl, rfl⟩)
          | (go_at_call 55; refine (far_any v _ _ hvd hll).mono ?_; rw [HD2.out]; rintro e w' ⟨rfl, rfl⟩))
        go_roundw
        case rel => exact ⟨hb, n + 1 + 1, by omega, by omega, by go_num, by rw [show n + 1 + 1 - 1 = n + 1 by omega, HS.out]⟩
        case measure => simp [intOf]; omega
    · obtain rfl : k = 64 := by omega
      go_wp2
      go_ret
      rw [HN.out]
      exact ⟨rfl, hb⟩

end Go.Proofs.YtnmfbjpbhghgaaaDoor
