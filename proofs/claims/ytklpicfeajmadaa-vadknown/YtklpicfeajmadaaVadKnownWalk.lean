/- The law of chapter 13's examples answers true. -/
import Derived.Test.YtklpicfeajmadaaVadJ
namespace Go.Proofs.Ytklpicfeajmadaa
open Go.RowKit Vad

theorem lv_great : levelI [1152921504606846976] = levelI [32767] := by decide +kernel
theorem lv_none : levelI [] = 0 := rfl

set_option maxRecDepth 100000 in
set_option maxHeartbeats 3200000 in
theorem vadKnown.walk (w : World) :
    Calls Try.prog 3 #[] w fun e w' => e = .returned (.bool true) ∧ Below w.heap.size w w' := by
  have hb := Below.refl w.heap.size w
  have HX : Hid (0 ≤ maxLen ∧ 1 ≤ maxLen) := by
    unfold maxLen
    exact ⟨by omega, by omega⟩
  have HG : Hid (∀ W, Grid W none 0 (fun _ => ⟨none, 0, 0, []⟩)) := fun W => ⟨fun h => absurd h (by decide), fun i hi => absurd hi (by omega), fun i hi => absurd hi (by omega)⟩
  have HT : Hid (levelI [] = 0 ∧ levelI [1152921504606846976] = levelI [32767]) := ⟨lv_none, lv_great⟩
  obtain ⟨v, hv⟩ : ∃ v, levelI [32767] = v := ⟨_, rfl⟩
  rw [hv] at HT
  have HV : Hid (levelI [32767] = v) := hv
  have y1 : Hid True := trivial
  have y2 : Hid True := trivial
  clear hv
  go_enter Try.func3, Try.ntmps3
  go_wp2_with (first
    | (go_at_call 7; go_loud (refine (awake_any w).mono ?_; rintro e w1 ⟨rfl, hb1⟩; replace hb := hb.trans (hb1.mono hb.size); clear hb1))
    | (go_at_call 8; clear y1; go_loud (refine (pLevel none 0 0 [] _ (Zs.nil _ _) (Nat.le_refl _) HX.out.1).mono ?_; rw [HT.out.1]; rintro e w2 ⟨rfl, k2, hw2⟩; replace hb := below_drewN hb k2; rw [← hw2] at hb; clear hw2))
    | (go_at_call 9; go_loud (refine (pNew _).mono ?_; rintro e w3 ⟨p, rfl, hp, hM, hb3⟩; have hwp := Nat.le_trans hb.size hp; replace hb := hb.trans (hb3.mono hb.size); clear hb3 hp))
    | (go_at_call 10; go_loud (refine (pEach p _ none 0 0 _ _ hM ok_one (HG.out _) (by omega) (fun h => absurd h (by decide)) (fun i hi => absurd hi (by omega))).mono ?_; rintro e w4 ⟨a4, c4, rfl, _, ho4⟩; replace hb := hb.trans (ho4.below hwp hb.size); clear ho4 hM))
    | (go_at_call 8; clear y2; go_loud (refine (pLevel _ 1 1 [1152921504606846976] _ (lit1 w4 1152921504606846976 rfl) (Nat.le_refl _) HX.out.2).mono ?_; rw [HT.out.2]; rintro e w5 ⟨rfl, k5, hw5⟩; replace hb := below_drewN (hb.alloc hb.size (.cells #[.int .i64 1152921504606846976] 2)) k5; rw [← hw5] at hb; clear hw5))
    | (go_at_call 8; go_loud (refine (pLevel _ 1 1 [32767] _ (lit1 w5 32767 rfl) (Nat.le_refl _) HX.out.2).mono ?_; rw [HV.out]; rintro e w6 ⟨rfl, k6, hw6⟩; replace hb := below_drewN (hb.alloc hb.size (.cells #[.int .i64 32767] 2)) k6; rw [← hw6] at hb; clear hw6)))
  go_ret
  exact ⟨rfl, hb⟩

end Go.Proofs.Ytklpicfeajmadaa
