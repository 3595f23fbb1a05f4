/- The law of chapter 6's examples answers true. -/
import Derived.Test.YtpppnagodlpnjaaLsfT
namespace Go.Proofs.Ytpppnagodlpnjaa
open Go.RowKit

theorem bad_11 : ¬ GoodX 11 0 [] := fun h => by rcases h.1 with h | h <;> exact absurd h (by decide)
theorem bad_16 : ¬ GoodX 10 16 [] := fun h => absurd h.2.2.1 (by decide)
theorem good_16 (w : World) : Calls Try.prog 13 #[.int .i64 10, .agg #[.int .i64 16, .slice none 0 0]] w fun e w' => e = .returned (.bool false) ∧ Below w.heap.size w w' := by
  refine (igood_any 10 16 none 0 0 [] w (Zs.nil _ _) (by decide)).mono ?_
  rintro e w' ⟨bb, rfl, hbb, hb⟩
  refine ⟨?_, hb⟩
  cases bb
  · rfl
  · exact absurd (hbb.1 rfl) bad_16

set_option maxHeartbeats 1000000 in
theorem lsfKnown.walk (w : World) :
    Calls Try.prog 3 #[] w fun e w' => e = .returned (.bool true) ∧ Below w.heap.size w w' := by
  have hmk : ∀ W : World, (Instr.makeSlice 23 (.int .i64 65) (.int .i64 65)).run Try.prog W = .ok (.slice (some ⟨W.heap.size, 0, none⟩) 65 65) (W.alloc (.cells (madeCells #[.int .i64 0] 65) 2)) := fun W => run_make_row' (P := Try.prog) 23 2 (.int .i64 0) 8 Try.underlying23 info_int64 rfl .i64 .i64 65 (by decide) (by decide) W
  have y1 : Hid True := trivial
  go_enter Try.func3, Try.ntmps3
  go_wp2_with (first
    | (go_at_call 9; refine (awake_any _).mono ?_; rintro e w1 ⟨rfl, hB⟩)
    | (go_at_call 10; go_loud (refine (decode_bad 11 0 none 0 0 [] _ (Zs.nil _ _) (by decide) bad_11).mono ?_; rintro e w2 ⟨rfl, hb2⟩; replace hB := hB.trans (hb2.mono hB.size); clear hb2))
    | (go_at_call 11; go_loud (refine (between_bad _ none 1 0 1 0 0 _ (by decide) (by decide) (by decide)).mono ?_; rintro e w3 ⟨rfl, hw3⟩; have hB3 := hB.alloc hB.size (.cells #[.int .i64 1] 2); rw [← hw3] at hB3; clear hw3 hB))
    | (go_at_call 12; go_loud (refine (search_bad 10 none 0 0 _ (by decide) (by decide)).mono ?_; rintro e w4 ⟨rfl, hb4⟩; have hB4 := hB3.trans (hb4.mono hB3.size); have hB5 := hB4.alloc hB4.size (.cells #[.int .i64 0, .slice none 0 0] 29); clear hb4 hB3 hB4))
    | (go_at_call 13; go_loud (refine (good_16 _).mono ?_; rintro e w6 ⟨rfl, hb6⟩; have hB6 := hB5.trans (hb6.mono hB5.size); clear hb6 hB5))
    | (go_at_call 14; clear y1; go_loud (refine (steady_any none 0 0 [] _ (Zs.nil _ _) (by decide)).mono ?_; rintro e w7 ⟨a7, rfl, _, hb7⟩; have hB7 := hB6.trans (hb7.mono hB6.size); clear hb7 hB6))
    | (go_at_call 14; go_loud (refine (steady_far _ 65 65 _ (by decide) (by decide)).mono ?_; rintro e w8 ⟨rfl, hw8⟩; have hB8 := hB7.alloc hB7.size (.cells (madeCells #[.int .i64 0] 65) 2); rw [← hw8] at hB8; clear hw8 hB7)))
  go_ret
  exact ⟨rfl, hB8⟩

end Go.Proofs.Ytpppnagodlpnjaa
