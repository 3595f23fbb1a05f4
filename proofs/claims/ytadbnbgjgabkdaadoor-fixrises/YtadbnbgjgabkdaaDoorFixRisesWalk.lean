/- The law of what rises answers true, in whatever memory where the roots lie as laid. -/
import Derived.Test.YtadbnbgjgabkdaaDoorFixE
import Derived.Test.YtadbnbgjgabkdaaDoorFixM
namespace Go.Proofs.YtadbnbgjgabkdaaDoor
open Go.RowKit

theorem fixRises.walk (a b c s : Int) (w : World) (wa : (Lit.int .i64 a).wf = true) (wb : (Lit.int .i64 b).wf = true) (_wc : (Lit.int .i64 c).wf = true) (_ws : (Lit.int .i64 s).wf = true) (hr : RootsAt w) :
    Calls Tryd.prog 7 #[.int .i64 a, .int .i64 b, .int .i64 c, .int .i64 s] w fun e w' => e = .returned (.bool true) ∧ Below w.heap.size w w' := by
  have ba := bounds_i64 wa
  have bb := bounds_i64 wb
  clear wa wb
  have hz := hr.size
  by_cases hab : b < a
  · go_enter Tryd.func7, Tryd.ntmps7
    go_wp2_with (go_at_call 9; refine (awake_any _ hr).mono ?_; rintro e w0 ⟨rfl, hw0⟩)
    go_ret
    exact ⟨rfl, hw0⟩
  · have k1 := sqrtI_mono (a := a) (b := b) (by omega)
    have k2 := log2I_mono (a := a) (b := b) (by omega) (by omega)
    have k3 := exp2I_mono (a := a) (b := b) (by omega)
    have k4 := clampI_mono (a := a) (b := b) (lo := -32768) (hi := 32767) (by omega)
    have k5 := bitLen_mono (a := a) (b := b) (by omega) (by omega)
    have hc : c < 0 ∨ (0 ≤ c ∧ s < 0) ∨ ((0 ≤ c ∧ 0 ≤ s) ∧ 62 < s) ∨ ((0 ≤ c ∧ 0 ≤ s) ∧ s ≤ 62) := by omega
    have k6 : c < 0 ∨ mulI a c s ≤ mulI b c s := by
      by_cases h : c < 0
      · exact .inl h
      · exact .inr (mulI_mono (by omega) (by omega))
    rcases hc with h1 | ⟨h1, h2⟩ | ⟨⟨h1, h2⟩, h3⟩ | ⟨⟨h1, h2⟩, h3⟩
    case' inr.inr.inr => have k7 : mulI a c s ≤ mulI b c s := by omega
    all_goals
      clear k6
      go_enter Tryd.func7, Tryd.ntmps7
      go_wp2_with (first
        | (go_at_call 9; refine (awake_any _ hr).mono ?_; rintro e w0 ⟨rfl, hw0⟩; have hr0 := hr.below hw0 hz)
        | (go_at_call 11; refine (mul_any _ _ _ _).mono ?_; rintro e w' ⟨rfl, rfl⟩)
        | (go_at_call 13; refine (log2_any _ _ ?_).mono ?_; omega; rintro e w' ⟨rfl, rfl⟩)
        | (go_at_call 17; refine (exp2_any _ _ ?_).mono ?_; exact hr0; rintro e w' ⟨rfl, rfl⟩)
        | (go_at_call 14; refine (sqrt_any _ _ ?_).mono ?_; omega; rintro e w' ⟨rfl, rfl⟩)
        | (go_at_call 15; refine (len_any _ _ ?_).mono ?_; omega; rintro e w' ⟨rfl, rfl⟩)
        | (go_at_call 20; refine (sat16_any _ _).mono ?_; rintro e w' ⟨rfl, rfl⟩))
      go_ways
      go_ret
      exact ⟨rfl, hw0⟩
end Go.Proofs.YtadbnbgjgabkdaaDoor
