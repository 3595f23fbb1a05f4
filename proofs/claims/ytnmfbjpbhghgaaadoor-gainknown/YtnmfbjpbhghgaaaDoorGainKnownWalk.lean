/- The law of chapter 8's examples answers true. -/
import Derived.Test.YtnmfbjpbhghgaaaDoorGainJ
import Derived.Test.YtnmfbjpbhghgaaaDoorGainU
namespace Go.Proofs.YtnmfbjpbhghgaaaDoor
open Go.RowKit

theorem loud_99 : loudI 99 = 153360 := by decide +kernel
theorem tell_initG : tellS initE = 1 := by decide +kernel

set_option maxRecDepth 100000 in
set_option maxHeartbeats 1600000 in
theorem gainKnown.walk (w : World) (hr : RootsAt w) :
    Calls Tryd.prog 3 #[] w fun e w' => e = .returned (.bool true) ∧ Below w.heap.size w w' := by
  have hb := Below.refl w.heap.size w
  have HR : Hid (∀ W, Below w.heap.size w W → RootsAt W) := fun W hW => hr.below hW hr.size
  clear hr
  have C : Hid (initE.cnt ≤ 1000) := by show _ ≤ _; decide
  have M1 : Hid (¬ MayLtp 8000 15 0) := by show ¬ MayLtp _ _ _; unfold MayLtp; decide
  have M2 : Hid (¬ MayLtp 9 99 0) := by show ¬ MayLtp _ _ _; unfold MayLtp; decide
  have l1 : Hid True := trivial
  have p1 : Hid True := trivial
  go_enter Tryd.func3, Tryd.ntmps3
  go_wp2_with (first
    | (go_at_call 8; refine (awake_any _ (HR.out _ hb)).mono ?_; rintro e w1 ⟨rfl, hb1⟩; replace hb := hb.trans (hb1.mono hb.size); clear hb1)
    | (go_at_call 9; go_loud (refine (newE_any _).mono ?_; rintro e w1 ⟨p, S, rfl, he, hS, hb1⟩; replace hb := hb.trans (hb1.mono hb.size); clear hb1 hS))
    | (go_at_call 10; go_loud (refine (lags_any 24000 _).mono ?_; rw [show leastI 24000 = 0 by decide, show mostI 24000 = 0 by decide]; rintro e w ⟨rfl, rfl⟩))
    | (go_at_call 11; clear l1; go_loud (refine (loud_any 63 _ (HR.out _ hb)).mono ?_; rw [loud_63]; rintro e w ⟨rfl, rfl⟩))
    | (go_at_call 11; go_loud (refine (loud_any 99 _ (HR.out _ hb)).mono ?_; rw [loud_99]; rintro e w ⟨rfl, rfl⟩))
    | (go_at_call 12; go_loud (refine (writeFirst_bad p 64 _ (by decide)).mono ?_; rintro e w ⟨rfl, rfl⟩))
    | (go_at_call 13; clear p1; go_loud (refine (writeLtp_bad p 8000 15 0 _ M1.out).mono ?_; rintro e w1 ⟨rfl, hb1⟩; replace he := he.keep hb1; replace hb := hb.trans (hb1.mono hb.size); clear hb1))
    | (go_at_call 13; go_loud (refine (writeLtp_bad p 9 99 0 _ M2.out).mono ?_; rintro e w1 ⟨rfl, hb1⟩; replace he := he.keep hb1; replace hb := hb.trans (hb1.mono hb.size); clear hb1))
    | (go_at_call 14; go_loud (refine (tellE_any S p initE _ he initE_inv.wide initE_inv.pre.rhigh (by have := C.out; omega)).mono ?_; rw [tell_initG]; rintro e w2 ⟨rfl, k, rfl⟩; replace hb := Below.drewN hb k))
    | (go_at_call 16; go_loud (refine (new_any 0 none 0 0 [] _ (argIn_nil _)).mono ?_; rintro e w1 ⟨pd, qd, rfl, hd, hqd, hpd, hb1⟩; replace hb := hb.trans (hb1.mono hb.size); clear hb1 hd))
    | (go_at_call 15; go_loud (refine (readLtp_none pd 5 _ (by decide)).mono ?_; rintro e w1 ⟨rfl, hb1⟩; replace hb := hb.trans (hb1.mono hb.size); clear hb1)))
  go_ret
  exact ⟨rfl, hb⟩

end Go.Proofs.YtnmfbjpbhghgaaaDoor
