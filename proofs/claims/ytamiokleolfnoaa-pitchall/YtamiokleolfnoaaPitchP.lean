/- The examples that each law of chapter 11 asks first. -/
import Derived.Test.YtamiokleolfnoaaPitchK
import Derived.Handy
namespace Go.Proofs.Ytamiokleolfnoaa
namespace Pit
open Go.RowKit

def waveL : List Int := [1000, -1000, 1000, -1000]
theorem wave_any (w : World) : Calls Try.prog 10 #[] w fun e w' => ∃ g, e = .returned (.slice (some ⟨g, 0, none⟩) 4 4) ∧ Zs w' (some ⟨g, 0, none⟩) 4 waveL ∧ Below w.heap.size w w' := by
  go_enter Try.func10, Try.ntmps10
  go_wp2
  go_ret
  exact ⟨_, rfl, zs_lit w waveL rfl rfl rfl, (Below.refl _ _).alloc (Nat.le_refl _) _⟩

theorem wave_two : scoreI waveL 2 = 1968624 := by decide +kernel
theorem wave_one : scoreI waveL 1 = 0 := by decide +kernel
theorem wave_top : topL waveL 1 2 2 = [(2, 1968624), (1, 0)] := by decide +kernel

/-- Search of a sound that lies somewhere, with the numbers as they stand in the text. -/
theorem search_ints (x : Option Addr) (n cap : Nat) (zs : List Int) (a M b d : Nat) (ai Mi bi : Int) (ha : ai = a) (hM : Mi = M) (hb : bi = b) (w : World) (hz : Zs w x n zs) (hg : goodLagsB n a M = true) (hb1 : 1 ≤ b) (hb2 : b ≤ 32) (hd : a + d = M) :
    Calls Try.prog 9 #[.slice x n cap, .int .i64 ai, .int .i64 Mi, .int .i64 bi] w fun e w' => ∃ r, e = .returned (.tuple #[.slice (some ⟨r, 0, none⟩) (min b (d + 1)) (min b (d + 1)), .int .i64 0]) ∧ SRow w.heap.size w' r (min b (d + 1)) (min b (d + 1)) (fun j => (topL zs a b (d + 1))[j]?.getD (0, 0)) ∧ Below w.heap.size w w' := by
  subst ha hM hb
  exact search_good x n cap zs a M b d w hz hg hb1 hb2 hd

set_option maxRecDepth 100000 in
set_option maxHeartbeats 1600000 in
theorem awake_any (w : World) :
    Calls Try.prog 8 #[] w fun e w' => e = .returned (.bool true) ∧ Below w.heap.size w w' := by
  have y1 : Hid True := trivial
  have HT : Hid (topL waveL 1 2 2 = [(2, 1968624), (1, 0)] ∧ scoreI waveL 2 = 1968624) := ⟨wave_top, wave_two⟩
  go_enter Try.func8, Try.ntmps8
  go_wp2_with (first
    | (go_at_call 10; clear y1; go_loud (refine (wave_any _).mono ?_; rintro e w1 ⟨g1, rfl, hz1, hb1⟩))
    | (go_at_call 9; go_loud (refine (search_ints _ 4 4 waveL 1 2 2 1 1 2 2 rfl rfl rfl _ hz1 (by decide) (by decide) (by decide) rfl).mono ?_; rintro e w2 ⟨r, rfl, hr2, hb2⟩; replace hr2 := hr2.congr (fun i _ => congrArg (fun l : List LagS => l[i]?.getD (0, 0)) HT.out.1); have hb := hb1.trans (hb2.mono hb1.size); clear hb1 hb2 hz1))
    | (go_at_call 10; go_loud (refine (wave_any _).mono ?_; rintro e w3 ⟨g3, rfl, hz3, hb3⟩; have hb4 := hb.trans (hb3.mono hb.size); replace hr2 := hr2.below hb3; clear hb3))
    | (go_at_call 11; go_loud (refine (Score_any _ 4 4 waveL 2 _ hz3 (by unfold maxLen; omega)).mono ?_; rw [HT.out.2]; rintro e w5 ⟨rfl, hb5⟩; have hb6 := hb4.trans (hb5.mono hb4.size); replace hr2 := hr2.below hb5; obtain ⟨c0, c1⟩ := hr2.cells (i := 0) (by decide); obtain ⟨c2, c3⟩ := hr2.cells (i := 1) (by decide); simp at c0 c1 c2 c3)))
  go_ret
  exact ⟨rfl, hb6⟩

end Pit
end Go.Proofs.Ytamiokleolfnoaa
