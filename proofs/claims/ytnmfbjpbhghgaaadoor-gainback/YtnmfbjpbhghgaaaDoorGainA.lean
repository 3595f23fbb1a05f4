/- Package gain, the numbers: clamped, loudness, the nearest, what changes, the bounds of a lag; and the document's own answers. -/
import Derived.Test.YtnmfbjpbhghgaaaDoorGainM
import Derived.Test.YtnmfbjpbhghgaaaDoorMA
import Derived.BigQuiet
namespace Go.Proofs.YtnmfbjpbhghgaaaDoor
open Go.RowKit

theorem gclamp_any (v most : Int) (w : World) (hm : 0 ≤ most) :
    Calls Tryd.prog 33 #[.int .i64 v, .int .i64 most] w fun e w' => e = .returned (.int .i64 (clampI v 0 most)) ∧ w' = w := by
  obtain ⟨c, hc⟩ : ∃ c, clampI v 0 most = c := ⟨_, rfl⟩
  have HC : Hid (clampI v 0 most = c) := hc
  rw [hc]
  clear hc
  by_cases h0 : v < 0
  · have e : c = 0 := by have := HC.out; unfold clampI at this; rw [if_pos h0] at this; exact this.symm
    subst e
    go_enter Tryd.func33, Tryd.ntmps33
    go_wp2
    all_goals
      go_ret
      exact ⟨by first | rfl | (congr 2; omega), rfl⟩
  · by_cases h1 : most < v
    · have e : c = most := by have := HC.out; unfold clampI at this; rw [if_neg h0, if_neg (by omega), if_pos h1] at this; exact this.symm
      subst e
      go_enter Tryd.func33, Tryd.ntmps33
      go_wp2
      all_goals
        go_ret
        exact ⟨by first | rfl | (congr 2; omega), rfl⟩
    · have e : c = v := by have := HC.out; unfold clampI at this; rw [if_neg h0, if_neg (by omega), if_neg h1] at this; exact this.symm
      subst e
      go_enter Tryd.func33, Tryd.ntmps33
      go_wp2
      all_goals
        go_ret
        exact ⟨by first | rfl | (congr 2; omega), rfl⟩

theorem loud_any (g : Int) (w : World) (hr : RootsAt w) :
    Calls Tryd.prog 11 #[.int .i64 g] w fun e w' => e = .returned (.int .i64 (loudI g)) ∧ w' = w := by
  have HR : Hid (RootsAt w) := hr
  have hci := clampI_in g 0 63 (by decide)
  unfold loudI
  generalize hQ : clampI g 0 63 = Q at *
  have hQ' : Hid (clampI g 0 63 = Q) := hQ
  clear hQ hr
  go_enter Tryd.func11, Tryd.ntmps11
  go_wp2_with (first
    | (go_at_call 33; refine (gclamp_any _ _ _ (by decide)).mono ?_; rw [hQ'.out]; rintro e w' ⟨rfl, rfl⟩)
    | (go_at_call 32; refine (exp2_any _ _ HR.out).mono ?_; rintro e w' ⟨rfl, rfl⟩))
  go_ret
  exact ⟨rfl, rfl⟩

theorem rloud_any (g : Int) (w : World) :
    Calls Tryd.prog 27 #[.int .i64 g] w fun e w' => e = .returned (.int .i64 (loudI g)) ∧ Below w.heap.size w w' := by
  have hb := Below.refl w.heap.size w
  have hci := clampI_in g 0 63 (by decide)
  unfold loudI
  generalize hQ : clampI g 0 63 = Q at *
  have hQ' : Hid (clampI g 0 63 = Q) := hQ
  clear hQ
  go_enter Tryd.func27, Tryd.ntmps27
  go_wp2_with (first
    | (go_at_call 22; refine (rclamp_any _ _ _ _).mono ?_; rw [hQ'.out]; rintro e w' ⟨rfl, rfl⟩)
    | (go_at_call 52; refine (rexp2_any _ _).mono ?_; rintro e w' ⟨rfl, hb1⟩; replace hb := hb.trans (hb1.mono hb.size); clear hb1))
  go_ret
  exact ⟨rfl, hb⟩

theorem difference_any (a b : Int) (w : World) (ha : 1 ≤ a ∧ a ≤ 153360) (hb : 1 ≤ b ∧ b ≤ 153360) :
    Calls Tryd.prog 54 #[.int .i64 a, .int .i64 b] w fun e w' => e = .returned (.int .i64 (distI a b)) ∧ w' = w := by
  obtain ⟨c, hc⟩ : ∃ c, distI a b = c := ⟨_, rfl⟩
  have HC : Hid (distI a b = c) := hc
  rw [hc]
  clear hc
  by_cases h0 : a < b
  · have e : c = b - a := by have := HC.out; unfold distI at this; rw [if_pos h0] at this; exact this.symm
    subst e
    go_enter Tryd.func54, Tryd.ntmps54
    go_wp2
    all_goals
      go_ret
      exact ⟨by first | rfl | (congr 2; omega), rfl⟩
  · have e : c = a - b := by have := HC.out; unfold distI at this; rw [if_neg h0] at this; exact this.symm
    subst e
    go_enter Tryd.func54, Tryd.ntmps54
    go_wp2
    all_goals
      go_ret
      exact ⟨by first | rfl | (congr 2; omega), rfl⟩

set_option maxRecDepth 100000 in
theorem nearest_any (v : Int) (w : World) (hr : RootsAt w) :
    Calls Tryd.prog 28 #[.int .i64 v] w fun e w' => e = .returned (.int .i64 (nearestI v)) ∧ w' = w := by
  have HR : Hid (RootsAt w) := hr
  have L0 : Hid (loudI 0 = 1) := loud_0
  have L63 : Hid (loudI 63 = 153360) := loud_63
  have HN : Hid (nearestI v = (closeN (clampI v 1 153360) 63 : Nat)) := by show _ = _; rw [closeN_clamp]; rfl
  have hci := clampI_in v 1 153360 (by decide)
  generalize hQ : clampI v 1 153360 = Q at *
  have hQ' : Hid (clampI v 1 153360 = Q) := hQ
  clear hQ hr
  have d1 : Hid True := trivial
  go_enter Tryd.func28, Tryd.ntmps28
  go_wp2_with (first
    | (go_at_call 11; refine (loud_any 0 _ HR.out).mono ?_; rw [L0.out]; rintro e w' ⟨rfl, rfl⟩)
    | (go_at_call 11; refine (loud_any 63 _ HR.out).mono ?_; rw [L63.out]; rintro e w' ⟨rfl, rfl⟩)
    | (go_at_call 53; refine (clamp_any _ _ _ _).mono ?_; rw [hQ'.out]; rintro e w' ⟨rfl, rfl⟩)
    | (go_at_call 54; refine (difference_any Q 1 _ hci (by decide)).mono ?_; rintro e w' ⟨rfl, rfl⟩))
  go_loop [3, 4, 5] (fun b l i => ∃ k : Nat, 1 ≤ k ∧ k ≤ 64 ∧ i = .int .i64 k ∧ b = .int .i64 (closeN Q (k - 1) : Nat) ∧ l = .int .i64 (distI Q (loudI (closeN Q (k - 1) : Nat)))) (fun _ _ i => 64 - (intOf i).toNat)
  case atStart => exact ⟨1, by decide, by decide, rfl, rfl, by show _ = Value.int .i64 (distI Q (loudI ((0 : Nat) : Int))); rw [show loudI ((0 : Nat) : Int) = 1 from loud_0]⟩
  case round =>
    obtain ⟨k, hk1, hk, rfl, rfl, rfl⟩ := hrel
    by_cases hlt : k < 64
    · obtain ⟨n, rfl⟩ : ∃ n, k = n + 1 := ⟨k - 1, by omega⟩
      rw [show n + 1 - 1 = n by omega]
      have hlk := loud_in ((n + 1 : Nat) : Int)
      by_cases hc : distI Q (loudI ((n + 1 : Nat) : Int)) < distI Q (loudI (closeN Q n : Nat))
      · have HS : Hid (closeN Q (n + 1) = n + 1) := by show _ = _; rw [closeN, if_pos hc]
        obtain ⟨D1, hD1⟩ : ∃ D, distI Q (loudI ((n + 1 : Nat) : Int)) = D := ⟨_, rfl⟩
        obtain ⟨D2, hD2⟩ : ∃ D, distI Q (loudI (closeN Q n : Nat)) = D := ⟨_, rfl⟩
        rw [hD1, hD2] at hc
        rw [hD2]
        have HD1 : Hid (distI Q (loudI ((n + 1 : Nat) : Int)) = D1) := hD1
        clear hD1 hD2
        go_wp2_with (first
          | (go_at_call 11; refine (loud_any ((n + 1 : Nat) : Int) _ HR.out).mono ?_; rintro e w' ⟨rfl, rfl⟩)
          | (go_at_call 54; refine (difference_any Q _ _ hci hlk).mono ?_; rw [HD1.out]; rintro e w' ⟨rfl, rfl⟩))
        go_round
        case rel => exact ⟨n + 1 + 1, by omega, by omega, by go_num, by rw [show n + 1 + 1 - 1 = n + 1 by omega, HS.out]; rfl, by rw [show n + 1 + 1 - 1 = n + 1 by omega, HS.out, HD1.out]⟩
        case measure => simp [intOf]; omega
      · have HS : Hid (closeN Q (n + 1) = closeN Q n) := by show _ = _; rw [closeN, if_neg hc]
        obtain ⟨D1, hD1⟩ : ∃ D, distI Q (loudI ((n + 1 : Nat) : Int)) = D := ⟨_, rfl⟩
        obtain ⟨D2, hD2⟩ : ∃ D, distI Q (loudI (closeN Q n : Nat)) = D := ⟨_, rfl⟩
        rw [hD1, hD2] at hc
        rw [hD2]
        have HD1 : Hid (distI Q (loudI ((n + 1 : Nat) : Int)) = D1) := hD1
        have HD2 : Hid (distI Q (loudI (closeN Q n : Nat)) = D2) := hD2
        clear hD1 hD2
        go_wp2_with (first
          | (go_at_call 11; refine (loud_any ((n + 1 : Nat) : Int) _ HR.out).mono ?_; rintro e w' ⟨rfl, rfl⟩)
          | (go_at_call 54; refine (difference_any Q _ _ hci hlk).mono ?_; rw [HD1.out]; rintro e w' ⟨rfl, rfl⟩))
        go_round
        case rel => exact ⟨n + 1 + 1, by omega, by omega, by go_num, by rw [show n + 1 + 1 - 1 = n + 1 by omega, HS.out], by rw [show n + 1 + 1 - 1 = n + 1 by omega, HS.out, HD2.out]⟩
        case measure => simp [intOf]; omega
    · obtain rfl : k = 64 := by omega
      go_wp2
      go_ret
      rw [HN.out]
      exact ⟨rfl, rfl⟩

theorem changed_any (was s : Int) (w : World) (h0 : 0 ≤ s) (h1 : s ≤ 1000) :
    Calls Tryd.prog 50 #[.int .i64 was, .int .i64 s] w fun e w' => e = .returned (.int .i64 (clampI (clampI was 0 63 + s - 8) 0 63)) ∧ w' = w := by
  have hci := clampI_in was 0 63 (by decide)
  generalize hQ : clampI was 0 63 = Q at *
  have hQ' : Hid (clampI was 0 63 = Q) := hQ
  clear hQ
  have c1 : Hid True := trivial
  go_enter Tryd.func50, Tryd.ntmps50
  go_wp2_with (first
    | (go_at_call 33; clear c1; refine (gclamp_any _ _ _ (by decide)).mono ?_; rw [hQ'.out]; rintro e w' ⟨rfl, rfl⟩)
    | (go_at_call 33; refine (gclamp_any _ _ _ (by decide)).mono ?_; rintro e w' ⟨rfl, rfl⟩))
  go_ret
  exact ⟨rfl, rfl⟩

/-! ### Bounds of a lag -/
def leastI (rate : Int) : Int := if rate = 8000 then 16 else if rate = 16000 then 32 else 0
def mostI (rate : Int) : Int := if rate = 8000 then 144 else if rate = 16000 then 288 else 0

theorem lags_other {rate : Int} (h1 : ¬ rate = 8000) (h2 : ¬ rate = 16000) : leastI rate = 0 ∧ mostI rate = 0 := by
  unfold leastI mostI
  rw [if_neg h1, if_neg h2, if_neg h1, if_neg h2]
  exact ⟨rfl, rfl⟩

theorem lags_cases (rate : Int) : (rate = 8000 ∧ leastI rate = 16 ∧ mostI rate = 144) ∨ (rate = 16000 ∧ leastI rate = 32 ∧ mostI rate = 288) ∨ (¬ rate = 8000 ∧ ¬ rate = 16000 ∧ leastI rate = 0 ∧ mostI rate = 0) := by
  by_cases h1 : rate = 8000
  · subst h1; exact .inl ⟨rfl, rfl, rfl⟩
  · by_cases h2 : rate = 16000
    · subst h2; exact .inr (.inl ⟨rfl, rfl, rfl⟩)
    · exact .inr (.inr ⟨h1, h2, (lags_other h1 h2).1, (lags_other h1 h2).2⟩)

theorem lags_any (rate : Int) (w : World) :
    Calls Tryd.prog 10 #[.int .i64 rate] w fun e w' => e = .returned (.tuple #[.int .i64 (leastI rate), .int .i64 (mostI rate)]) ∧ w' = w := by
  by_cases h1 : rate = 8000
  · subst h1
    go_enter Tryd.func10, Tryd.ntmps10
    go_wp2
    go_ret2
    exact ⟨rfl, rfl⟩
  · by_cases h2 : rate = 16000
    · subst h2
      go_enter Tryd.func10, Tryd.ntmps10
      go_wp2
      go_ret2
      exact ⟨rfl, rfl⟩
    · rw [(lags_other h1 h2).1, (lags_other h1 h2).2]
      have g1 : (rate != 8000) = true := bne_iff_ne.2 h1
      have g2 : (rate != 16000) = true := bne_iff_ne.2 h2
      go_enter Tryd.func10, Tryd.ntmps10
      go_wp2
      go_ret2
      exact ⟨rfl, rfl⟩

theorem rlags_any (rate : Int) (w : World) :
    Calls Tryd.prog 24 #[.int .i64 rate] w fun e w' => e = .returned (.tuple #[.int .i64 (leastI rate), .int .i64 (mostI rate)]) ∧ w' = w := by
  by_cases h1 : rate = 8000
  · subst h1
    go_enter Tryd.func24, Tryd.ntmps24
    go_wp2
    go_ret2
    exact ⟨rfl, rfl⟩
  · by_cases h2 : rate = 16000
    · subst h2
      go_enter Tryd.func24, Tryd.ntmps24
      go_wp2
      go_ret2
      exact ⟨rfl, rfl⟩
    · rw [(lags_other h1 h2).1, (lags_other h1 h2).2]
      have g1 : (rate != 8000) = true := bne_iff_ne.2 h1
      have g2 : (rate != 16000) = true := bne_iff_ne.2 h2
      go_enter Tryd.func24, Tryd.ntmps24
      go_wp2
      go_ret2
      exact ⟨rfl, rfl⟩

end Go.Proofs.YtnmfbjpbhghgaaaDoor
