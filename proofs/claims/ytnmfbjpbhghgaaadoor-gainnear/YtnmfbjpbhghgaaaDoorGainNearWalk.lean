/- The number that is nearest to a loudness is no farther from it than its neighbours. -/
import Derived.Test.YtnmfbjpbhghgaaaDoorGainJ
import Derived.Test.YtnmfbjpbhghgaaaDoorGainU
namespace Go.Proofs.YtnmfbjpbhghgaaaDoor
open Go.RowKit

/-- How far, as the law reckons it. -/
theorem dist_abs (v a : Int) : (v - a < 0 → distI v a = -(v - a)) ∧ (¬ v - a < 0 → distI v a = v - a) := by
  unfold distI
  constructor
  · intro h; rw [if_pos (by omega)]; omega
  · intro h; rw [if_neg (by omega)]

set_option maxRecDepth 100000 in
set_option maxHeartbeats 6400000 in
theorem gainNear.walk (v : Int) (w : World) (_wv : (Lit.int .i64 v).wf = true) (hr : RootsAt w) :
    Calls Tryd.prog 7 #[.int .i64 v] w fun e w' => e = .returned (.bool true) ∧ Below w.heap.size w w' := by
  have hb := Below.refl w.heap.size w
  have HR : Hid (∀ W, Below w.heap.size w W → RootsAt W) := fun W hW => hr.below hW hr.size
  clear hr
  by_cases h0 : v < 0
  · go_enter Tryd.func7, Tryd.ntmps7
    go_wp2_with (first
      | (go_at_call 8; refine (awake_any _ (HR.out _ hb)).mono ?_; rintro e w1 ⟨rfl, hb1⟩; replace hb := hb.trans (hb1.mono hb.size); clear hb1))
    go_ret
    exact ⟨rfl, hb⟩
  by_cases h1 : 1099511627776 < v
  · go_enter Tryd.func7, Tryd.ntmps7
    go_wp2_with (first
      | (go_at_call 8; refine (awake_any _ (HR.out _ hb)).mono ?_; rintro e w1 ⟨rfl, hb1⟩; replace hb := hb.trans (hb1.mono hb.size); clear hb1))
    go_ret
    exact ⟨rfl, hb⟩
  have HL : Hid (∀ W, RootsAt W → ∀ x : Int, Calls Tryd.prog 11 #[.int .i64 x] W fun e w' => e = .returned (.int .i64 (loudI x)) ∧ w' = W) := fun W hW x => loud_any x W hW
  have HM : Hid (∀ j : Nat, j ≤ 63 → distI v (loudI (nearestI v)) ≤ distI v (loudI (j : Nat)) ∧ ((j : Int) < nearestI v → distI v (loudI (nearestI v)) < distI v (loudI (j : Nat)))) := fun j hj => nearest_min v hj
  have hgi := nearest_in v
  have hgl := loud_in (nearestI v)
  obtain ⟨N, hN⟩ : ∃ N, nearestI v = N := ⟨_, rfl⟩
  have HN : Hid (nearestI v = N) := hN
  rw [hN] at HM hgi hgl
  obtain ⟨A, hA⟩ : ∃ A, loudI N = A := ⟨_, rfl⟩
  have HA : Hid (loudI N = A) := hA
  rw [hA] at HM hgl
  obtain ⟨hg0, hg1⟩ := hgi
  obtain ⟨hl0, hl1⟩ := hgl
  clear hN hA
  go_enter Tryd.func7, Tryd.ntmps7
  go_wp2_with (first
    | (go_at_call 8; refine (awake_any _ (HR.out _ hb)).mono ?_; rintro e w1 ⟨rfl, hb1⟩; replace hb := hb.trans (hb1.mono hb.size); clear hb1)
    | (go_at_call 28; go_loud (refine (nearest_any v _ (HR.out _ hb)).mono ?_; rw [HN.out]; rintro e w ⟨rfl, rfl⟩)))
  go_loop [4] (fun k => ∃ j : Nat, j ≤ 64 ∧ k = .int .i64 j) (fun k => 64 - (intOf k).toNat)
  case atStart => exact ⟨0, Nat.zero_le _, rfl⟩
  case round =>
    obtain ⟨j, hj, rfl⟩ := hrel
    by_cases hlt : j < 64
    · obtain ⟨m1, m2⟩ := HM.out j (by omega)
      obtain ⟨B, hB⟩ : ∃ B, loudI (j : Nat) = B := ⟨_, rfl⟩
      have hbl := loud_in (j : Nat)
      rw [hB] at m1 m2 hbl
      obtain ⟨hb0, hb1⟩ := hbl
      have HB : Hid (loudI (j : Nat) = B) := hB
      have HD2 := dist_abs v B
      have l1 : Hid True := trivial
      clear hB
      have d1 := dist_abs v A
      by_cases sA : v - A < 0
      · by_cases sB : v - B < 0
        ·
          have HM2 : Hid (-(v - A) ≤ -(v - B) ∧ ((j : Int) < N → -(v - A) < -(v - B))) := by rw [d1.1 sA, HD2.1 sB] at m1 m2; exact ⟨m1, m2⟩
          clear d1 HD2 m1 m2
          go_wp2_with (first
            | (go_at_call 11; clear l1; go_loud (refine (HL.out _ (HR.out _ hb) N).mono ?_; rw [HA.out]; rintro e w ⟨rfl, rfl⟩))
            | (go_at_call 11; go_loud (refine (HL.out _ (HR.out _ hb) (j : Nat)).mono ?_; rw [HB.out]; rintro e w ⟨rfl, rfl⟩)))
          all_goals first
            | (exfalso; have h9 := HM2.out; omega)
            | (go_round; (case rel => exact ⟨j + 1, by omega, by go_num⟩); (case measure => simp [intOf]; omega))
        ·
          have HM2 : Hid (-(v - A) ≤ v - B ∧ ((j : Int) < N → -(v - A) < v - B)) := by rw [d1.1 sA, HD2.2 sB] at m1 m2; exact ⟨m1, m2⟩
          clear d1 HD2 m1 m2
          go_wp2_with (first
            | (go_at_call 11; clear l1; go_loud (refine (HL.out _ (HR.out _ hb) N).mono ?_; rw [HA.out]; rintro e w ⟨rfl, rfl⟩))
            | (go_at_call 11; go_loud (refine (HL.out _ (HR.out _ hb) (j : Nat)).mono ?_; rw [HB.out]; rintro e w ⟨rfl, rfl⟩)))
          all_goals first
            | (exfalso; have h9 := HM2.out; omega)
            | (go_round; (case rel => exact ⟨j + 1, by omega, by go_num⟩); (case measure => simp [intOf]; omega))
      · by_cases sB : v - B < 0
        ·
          have HM2 : Hid (v - A ≤ -(v - B) ∧ ((j : Int) < N → v - A < -(v - B))) := by rw [d1.2 sA, HD2.1 sB] at m1 m2; exact ⟨m1, m2⟩
          clear d1 HD2 m1 m2
          go_wp2_with (first
            | (go_at_call 11; clear l1; go_loud (refine (HL.out _ (HR.out _ hb) N).mono ?_; rw [HA.out]; rintro e w ⟨rfl, rfl⟩))
            | (go_at_call 11; go_loud (refine (HL.out _ (HR.out _ hb) (j : Nat)).mono ?_; rw [HB.out]; rintro e w ⟨rfl, rfl⟩)))
          all_goals first
            | (exfalso; have h9 := HM2.out; omega)
            | (go_round; (case rel => exact ⟨j + 1, by omega, by go_num⟩); (case measure => simp [intOf]; omega))
        ·
          have HM2 : Hid (v - A ≤ v - B ∧ ((j : Int) < N → v - A < v - B)) := by rw [d1.2 sA, HD2.2 sB] at m1 m2; exact ⟨m1, m2⟩
          clear d1 HD2 m1 m2
          go_wp2_with (first
            | (go_at_call 11; clear l1; go_loud (refine (HL.out _ (HR.out _ hb) N).mono ?_; rw [HA.out]; rintro e w ⟨rfl, rfl⟩))
            | (go_at_call 11; go_loud (refine (HL.out _ (HR.out _ hb) (j : Nat)).mono ?_; rw [HB.out]; rintro e w ⟨rfl, rfl⟩)))
          all_goals first
            | (exfalso; have h9 := HM2.out; omega)
            | (go_round; (case rel => exact ⟨j + 1, by omega, by go_num⟩); (case measure => simp [intOf]; omega))
    · obtain rfl : j = 64 := by omega
      go_wp2
      go_ret
      exact ⟨rfl, hb⟩

end Go.Proofs.YtnmfbjpbhghgaaaDoor
