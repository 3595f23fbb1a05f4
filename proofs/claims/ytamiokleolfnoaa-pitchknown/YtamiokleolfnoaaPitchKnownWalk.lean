/- The law of chapter 11's examples answers true. -/
import Derived.Test.YtamiokleolfnoaaPitchP
namespace Go.Proofs.Ytamiokleolfnoaa
open Go.RowKit Pit

theorem wave_three : scoreI waveL 3 = 0 := by decide +kernel
theorem nil_one : scoreI [] 1 = 0 := by decide +kernel

set_option maxRecDepth 100000 in
set_option maxHeartbeats 1600000 in
theorem pitchKnown.walk (w : World) :
    Calls Try.prog 3 #[] w fun e w' => e = .returned (.bool true) ∧ Below w.heap.size w w' := by
  have y1 : Hid True := trivial
  have y2 : Hid True := trivial
  have y3 : Hid True := trivial
  have s1 : Hid True := trivial
  have s2 : Hid True := trivial
  have x1 : Hid True := trivial
  have hb := Below.refl w.heap.size w
  go_enter Try.func3, Try.ntmps3
  go_wp2_with (first
    | (go_at_call 8; refine (awake_any _).mono ?_; rintro e w1 ⟨rfl, hb1⟩; replace hb := hb.trans (hb1.mono hb.size); clear hb1)
    | (go_at_call 10; clear y1; go_loud (refine (wave_any _).mono ?_; rintro e w2 ⟨g2, rfl, hz2, hb2⟩; replace hb := hb.trans (hb2.mono hb.size); clear hb2))
    | (go_at_call 9; clear s1; go_loud (refine (search_bad _ 4 4 1 3 1 (by decide) _ (by decide)).mono ?_; rintro e w2 ⟨rfl, rfl⟩))
    | (go_at_call 10; clear y2; go_loud (refine (wave_any _).mono ?_; rintro e w3 ⟨g3, rfl, hz3, hb3⟩; replace hb := hb.trans (hb3.mono hb.size); clear hb3))
    | (go_at_call 9; clear s2; go_loud (refine (search_bad _ 4 4 0 1 1 (by decide) _ (by decide)).mono ?_; rintro e w3 ⟨rfl, rfl⟩))
    | (go_at_call 10; clear y3; go_loud (refine (wave_any _).mono ?_; rintro e w4 ⟨g4, rfl, hz4, hb4⟩; replace hb := hb.trans (hb4.mono hb.size); clear hb4))
    | (go_at_call 9; go_loud (refine (search_bad _ 4 4 1 1 33 (by decide) _ (by decide)).mono ?_; rintro e w4 ⟨rfl, rfl⟩))
    | (go_at_call 11; clear x1; go_loud (refine (Score_any none 0 0 [] 1 _ (Zs.nil _ _) (by unfold maxLen; omega)).mono ?_; rw [nil_one]; rintro e w5 ⟨rfl, hb5⟩; replace hb := hb.trans (hb5.mono hb.size); clear hb5))
    | (go_at_call 10; go_loud (refine (wave_any _).mono ?_; rintro e w6 ⟨g6, rfl, hz6, hb6⟩; replace hb := hb.trans (hb6.mono hb.size); clear hb6))
    | (go_at_call 11; go_loud (refine (Score_any _ 4 4 waveL 3 _ hz6 (by unfold maxLen; omega)).mono ?_; rw [wave_three]; rintro e w7 ⟨rfl, hb7⟩; replace hb := hb.trans (hb7.mono hb.size); clear hb7)))
  go_ret
  exact ⟨rfl, hb⟩

end Go.Proofs.Ytamiokleolfnoaa
