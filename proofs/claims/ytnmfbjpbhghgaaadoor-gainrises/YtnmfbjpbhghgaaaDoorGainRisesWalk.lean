/- Louder numbers are louder; the number of a loudness is that loudness'. -/
import Derived.Test.YtnmfbjpbhghgaaaDoorGainJ
import Derived.Test.YtnmfbjpbhghgaaaDoorGainU
namespace Go.Proofs.YtnmfbjpbhghgaaaDoor
open Go.RowKit

set_option maxRecDepth 100000 in
set_option maxHeartbeats 1600000 in
theorem gainRises.walk (a b : Int) (w : World) (_wa : (Lit.int .i64 a).wf = true) (_wb : (Lit.int .i64 b).wf = true) (hr : RootsAt w) :
    Calls Tryd.prog 6 #[.int .i64 a, .int .i64 b] w fun e w' => e = .returned (.bool true) ∧ Below w.heap.size w w' := by
  have hb := Below.refl w.heap.size w
  have HR : Hid (∀ W, Below w.heap.size w W → RootsAt W) := fun W hW => hr.below hW hr.size
  clear hr
  by_cases hab : b < a
  · go_enter Tryd.func6, Tryd.ntmps6
    go_wp2_with (first
      | (go_at_call 8; refine (awake_any _ (HR.out _ hb)).mono ?_; rintro e w1 ⟨rfl, hb1⟩; replace hb := hb.trans (hb1.mono hb.size); clear hb1))
    go_ret
    exact ⟨rfl, hb⟩
  · have HL : Hid (∀ W, RootsAt W → ∀ x : Int, Calls Tryd.prog 11 #[.int .i64 x] W fun e w' => e = .returned (.int .i64 (loudI x)) ∧ w' = W) := fun W hW x => loud_any x W hW
    have HN : Hid (∀ W, RootsAt W → ∀ x : Int, Calls Tryd.prog 28 #[.int .i64 x] W fun e w' => e = .returned (.int .i64 (nearestI x)) ∧ w' = W) := fun W hW x => nearest_any x W hW
    have hm := loud_mono (show a ≤ b by omega)
    have hE := nearest_loud b
    obtain ⟨B, hB⟩ : ∃ B, loudI b = B := ⟨_, rfl⟩
    obtain ⟨A, hA⟩ : ∃ A, loudI a = A := ⟨_, rfl⟩
    rw [hB] at hE hm
    rw [hA] at hm
    have HB : Hid (loudI b = B) := hB
    have HA : Hid (loudI a = A) := hA
    obtain ⟨N, hN⟩ : ∃ N, nearestI B = N := ⟨_, rfl⟩
    rw [hN] at hE
    have HNN : Hid (nearestI B = N) := hN
    have HE : Hid (loudI N = B) := hE
    have l1 : Hid True := trivial
    have l2 : Hid True := trivial
    have l3 : Hid True := trivial
    have l4 : Hid True := trivial
    clear hA hB hE hN
    go_enter Tryd.func6, Tryd.ntmps6
    go_wp2_with (first
      | (go_at_call 8; refine (awake_any _ (HR.out _ hb)).mono ?_; rintro e w1 ⟨rfl, hb1⟩; replace hb := hb.trans (hb1.mono hb.size); clear hb1)
      | (go_at_call 11; clear l1; go_loud (refine (HL.out _ (HR.out _ hb) b).mono ?_; rw [HB.out]; rintro e w ⟨rfl, rfl⟩))
      | (go_at_call 28; go_loud (refine (HN.out _ (HR.out _ hb) B).mono ?_; rw [HNN.out]; rintro e w ⟨rfl, rfl⟩))
      | (go_at_call 11; clear l2; go_loud (refine (HL.out _ (HR.out _ hb) a).mono ?_; rw [HA.out]; rintro e w ⟨rfl, rfl⟩))
      | (go_at_call 11; clear l3; go_loud (refine (HL.out _ (HR.out _ hb) b).mono ?_; rw [HB.out]; rintro e w ⟨rfl, rfl⟩))
      | (go_at_call 11; clear l4; go_loud (refine (HL.out _ (HR.out _ hb) N).mono ?_; rw [HE.out]; rintro e w ⟨rfl, rfl⟩))
      | (go_at_call 11; go_loud (refine (HL.out _ (HR.out _ hb) b).mono ?_; rw [HB.out]; rintro e w ⟨rfl, rfl⟩)))
    go_ret
    exact ⟨rfl, hb⟩

end Go.Proofs.YtnmfbjpbhghgaaaDoor
