/- The law's own opening examples hold, in whatever memory where the roots lie as the program's text lays them. -/
import Derived.Test.YtadbnbgjgabkdaaDoorFixC
namespace Go.Proofs.YtadbnbgjgabkdaaDoor
open Go.RowKit

theorem sum_three (w : World) :
    Calls Tryd.prog 16 #[.slice (some ⟨w.heap.size, 0, none⟩) 3 3] (w.alloc (.cells #[.int .i64 1, .int .i64 2, .int .i64 3] 2)) fun e w' => e = .returned (.int .i64 6) ∧ w' = (w.alloc (.cells #[.int .i64 1, .int .i64 2, .int .i64 3] 2)) :=
  sum_any [1, 2, 3] w.heap.size 0 _ (by decide) (fun i hi => by
    rw [World.cell?_alloc_new]
    have h : i = 0 ∨ i = 1 ∨ i = 2 := by simp at hi; omega
    rcases h with rfl | rfl | rfl <;> rfl) 3

theorem awake_any (w : World) (hr : RootsAt w) :
    Calls Tryd.prog 9 #[] w fun e w' => e = .returned (.bool true) ∧ Below w.heap.size w w' := by
  have e1 : mulI 3 1 1 = 2 := by decide +kernel
  have e2 : mulI (-3) 1 1 = -1 := by decide +kernel
  have e3 : divI 7 2 0 = 3 := by decide +kernel
  have e4 : divI (-7) 2 0 = -4 := by decide +kernel
  have e5 : log2I 256 = 2048 := by decide +kernel
  have e6 : log2I 3 = 405 := by decide +kernel
  have e7 : exp2I 256 = 2 := by decide +kernel
  have e8 : exp2I 2048 = 256 := by decide +kernel
  have e9 : sqrtI 8 = 2 := by decide +kernel
  have e10 : cosI 0 = 32768 := by decide +kernel
  have e11 : sinI 16384 = 32768 := by decide +kernel
  have e12 : clampI 40000 (-32768) 32767 = 32767 := by decide +kernel
  have e13 : clampI 5 1 3 = 3 := by decide +kernel
  have e14 : (Lib.bitLen 5 : Int) = 3 := by decide +kernel
  go_enter Tryd.func9, Tryd.ntmps9
  go_wp2_with (first
    | (go_at_call 11; refine (mul_any _ _ _ _).mono ?_; rintro e w' ⟨rfl, rfl⟩)
    | (go_at_call 12; refine (div_any _ _ _ _).mono ?_; rintro e w' ⟨rfl, nd, rfl⟩)
    | (go_at_call 13; refine (log2_any _ _ (by decide)).mono ?_; rintro e w' ⟨rfl, rfl⟩)
    | (go_at_call 17; refine (exp2_any _ _ ?_).mono ?_; exact hr; rintro e w' ⟨rfl, rfl⟩)
    | (go_at_call 14; refine (sqrt_any _ _ (by decide)).mono ?_; rintro e w' ⟨rfl, rfl⟩)
    | (go_at_call 10; refine (cos_any _ _).mono ?_; rintro e w1 ⟨rfl, hw1⟩)
    | (go_at_call 29; refine (sin_any _ _).mono ?_; rintro e w2 ⟨rfl, hw2⟩)
    | (go_at_call 16; refine (sum_three _).mono ?_; rintro e w' ⟨rfl, rfl⟩)
    | (go_at_call 15; refine (len_any _ _ (by decide)).mono ?_; rintro e w' ⟨rfl, rfl⟩)
    | (go_at_call 20; refine (sat16_any _ _).mono ?_; rintro e w' ⟨rfl, rfl⟩)
    | (go_at_call 18; refine (clamp_any _ _ _ _).mono ?_; rintro e w' ⟨rfl, rfl⟩))
  go_ret
  have hw3 : Below w'.heap.size w' w1 := (below_drewN (Below.refl _ _) _).trans hw1
  exact ⟨rfl, (hw3.trans (hw2.mono hw3.size)).alloc (Nat.le_trans hw3.size hw2.size) _⟩
end Go.Proofs.YtadbnbgjgabkdaaDoor
