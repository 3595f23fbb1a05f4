/- The law of chapter 7's examples answers true. -/
import Derived.Test.YtefecpidccpimaaLpcJ
namespace Go.Proofs.Ytefecpidccpimaa
open Go.RowKit

theorem stable_nil (w : World) : Calls Try.prog 11 #[.slice none 0 0] w fun e w' => e = .returned (.bool true) ∧ Below w.heap.size w w' := by
  refine (cstable_any none 0 0 [] w (Zs.nil _ _) (by decide)).mono ?_
  rintro e w' ⟨rfl, hb⟩
  exact ⟨rfl, hb⟩

set_option maxHeartbeats 1000000 in
theorem lpcKnown.walk (w : World) :
    Calls Try.prog 3 #[] w fun e w' => e = .returned (.bool true) ∧ Below w.heap.size w w' := by
  have hmk : ∀ W : World, (Instr.makeSlice 23 (.int .i64 33) (.int .i64 33)).run Try.prog W = .ok (.slice (some ⟨W.heap.size, 0, none⟩) 33 33) (W.alloc (.cells (madeCells #[.int .i64 0] 33) 2)) := fun W => run_make_row' (P := Try.prog) 23 2 (.int .i64 0) 8 Try.underlying23 info_int64 rfl .i64 .i64 33 (by decide) (by decide) W
  have HA : Hid (∀ W : World, Below w.heap.size w W → Below w.heap.size w (W.alloc (.cells (madeCells #[.int .i64 0] 33) 2))) := fun W h => h.alloc h.size _
  have y1 : Hid True := trivial
  go_enter Try.func3, Try.ntmps3
  go_wp2_with (first
    | (go_at_call 9; refine (awake_any _).mono ?_; rintro e w1 ⟨rfl, hB⟩)
    | (go_at_call 10; go_loud (refine (cfrom_far none 0 0 _ (by decide) (by decide)).mono ?_; rintro e w2 ⟨rfl, rfl⟩))
    | (go_at_call 11; clear y1; go_loud (refine (stable_nil _).mono ?_; rintro e w3 ⟨rfl, hb3⟩; have hB3 := hB.trans (hb3.mono hB.size); clear hb3 hB))
    | (go_at_call 11; go_loud (refine (cstable_far _ 33 33 _ (by decide)).mono ?_; rintro e w4 ⟨rfl, hw4⟩; have hB4 := HA.out _ hB3; rw [← hw4] at hB4; clear hw4 hB3))
    | (go_at_call 12; go_loud (refine (cfit_far _ 33 33 _ (by decide)).mono ?_; rintro e w5 ⟨rfl, hw5⟩; have hB5 := HA.out _ hB4; rw [← hw5] at hB5; clear hw5 hB4))
    | (go_at_call 13; go_loud (refine (chirp_far _ 33 33 _ _ (by decide)).mono ?_; rintro e w6 ⟨rfl, hw6⟩; have hB6 := HA.out _ hB5; rw [← hw6] at hB6; clear hw6 hB5))
    | (go_at_call 14; go_loud (refine (gain_far _ 33 33 _ (by decide)).mono ?_; rintro e w7 ⟨rfl, hw7⟩; have hB7 := HA.out _ hB6; rw [← hw7] at hB7; clear hw7 hB6)))
  go_ret
  exact ⟨rfl, hB7⟩

end Go.Proofs.Ytefecpidccpimaa
