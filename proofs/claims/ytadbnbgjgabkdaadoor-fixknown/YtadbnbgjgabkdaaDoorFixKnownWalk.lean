/- The law of the examples answers true, in whatever memory where the roots lie as laid. -/
import Derived.Test.YtadbnbgjgabkdaaDoorFixE
namespace Go.Proofs.YtadbnbgjgabkdaaDoor
open Go.RowKit
theorem fixKnown.walk (w : World) (hr : RootsAt w) :
    Calls Tryd.prog 3 #[] w fun e w' => e = .returned (.bool true) ∧ Below w.heap.size w w' := by
  have e1 : cosI 16384 = 0 := by decide +kernel
  have e2 : mulI 5 5 63 = 0 := by decide +kernel
  have e3 : divI 5 0 0 = 0 := by decide +kernel
  have e4 : log2I 0 = 0 := by decide +kernel
  have e5 : sqrtI (-1) = 0 := by decide +kernel
  have e6 : exp2I (-5) = 1 := by decide +kernel
  have e7 : clampI 5 3 1 = 3 := by decide +kernel
  have e8 : (Lib.bitLen (-1 : Int).toNat : Int) = 0 := by decide +kernel
  have hz := hr.size
  go_enter Tryd.func3, Tryd.ntmps3
  go_wp2_with (first
    | (go_at_call 9; refine (awake_any _ hr).mono ?_; rintro e w0 ⟨rfl, hw0⟩; have hr0 := hr.below hw0 hz)
    | (go_at_call 11; refine (mul_any _ _ _ _).mono ?_; rintro e w' ⟨rfl, rfl⟩)
    | (go_at_call 12; refine (div_any _ _ _ _).mono ?_; rintro e w' ⟨rfl, nd, rfl⟩)
    | (go_at_call 13; refine (log2_any _ _ (by decide)).mono ?_; rintro e w' ⟨rfl, rfl⟩)
    | (go_at_call 17; refine (exp2_any _ _ ?_).mono ?_; exact hr1; rintro e w' ⟨rfl, rfl⟩)
    | (go_at_call 14; refine (sqrt_any _ _ (by decide)).mono ?_; rintro e w' ⟨rfl, rfl⟩)
    | (go_at_call 10; refine (cos_any _ _).mono ?_; rintro e w1 ⟨rfl, hw1⟩; have hr1 := hr0.below hw1 hr0.size)
    | (go_at_call 16; refine (sum_none _).mono ?_; rintro e w' ⟨rfl, rfl⟩)
    | (go_at_call 15; refine (len_any _ _ (by decide)).mono ?_; rintro e w' ⟨rfl, rfl⟩)
    | (go_at_call 18; refine (clamp_any _ _ _ _).mono ?_; rintro e w' ⟨rfl, rfl⟩))
  go_ret
  exact ⟨rfl, hw0.trans (below_drewN (hw1.mono hw0.size) _)⟩
end Go.Proofs.YtadbnbgjgabkdaaDoor
