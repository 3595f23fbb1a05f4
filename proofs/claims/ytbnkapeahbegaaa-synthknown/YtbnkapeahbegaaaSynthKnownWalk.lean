/- The law of the examples of chapter 10 answers true. -/
import Derived.Test.YtbnkapeahbegaaaSynV
namespace Go.Proofs.Ytbnkapeahbegaaa
open Go.RowKit

theorem bad_none (p : Nat) (w : World) : Calls Try.prog 11 #[.pointer (some ⟨p, 0, none⟩), .agg #[.slice none 0 0, .int .i64 0, .int .i64 0, .int .i64 0, .int .i64 0, .int .i64 0, .int .i64 0, .int .i64 0, .slice none 0 0]] w fun e w' => e = .returned (.tuple #[.slice none 0 0, .int .i64 1]) ∧ Below w.heap.size w w' :=
  run_bad p none 0 0 [] 0 0 0 0 0 0 0 none 0 0 [] w (Zs.nil _ _) (Zs.nil _ _) (by decide) (by decide) (by decide)
theorem bad_seventeen (p : Nat) (w : World) : Calls Try.prog 11 #[.pointer (some ⟨p, 0, none⟩), .agg #[.slice (some ⟨w.heap.size, 0, none⟩) 1 1, .int .i64 0, .int .i64 0, .int .i64 0, .int .i64 0, .int .i64 0, .int .i64 0, .int .i64 0, .slice none 0 0]] (w.alloc (.cells #[.int .i64 17] 2)) fun e w' => e = .returned (.tuple #[.slice none 0 0, .int .i64 1]) ∧ Below w.heap.size w w' := by
  refine (run_bad p _ 1 1 [17] 0 0 0 0 0 0 0 none 0 0 [] _ (zs_lit w [17] rfl rfl rfl) (Zs.nil _ _) (by decide) (by decide) (by decide)).mono ?_
  rintro e w' ⟨rfl, hb⟩
  exact ⟨rfl, ((Below.refl _ w).alloc (Nat.le_refl _) _).trans (hb.mono (by simp))⟩
theorem bad_two (p : Nat) (w : World) : Calls Try.prog 11 #[.pointer (some ⟨p, 0, none⟩), .agg #[.slice (some ⟨w.heap.size, 0, none⟩) 1 1, .int .i64 0, .int .i64 2, .int .i64 0, .int .i64 0, .int .i64 0, .int .i64 0, .int .i64 0, .slice none 0 0]] (w.alloc (.cells #[.int .i64 1] 2)) fun e w' => e = .returned (.tuple #[.slice none 0 0, .int .i64 1]) ∧ Below w.heap.size w w' := by
  refine (run_bad p _ 1 1 [1] 0 2 0 0 0 0 0 none 0 0 [] _ (zs_lit w [1] rfl rfl rfl) (Zs.nil _ _) (by decide) (by decide) (by decide)).mono ?_
  rintro e w' ⟨rfl, hb⟩
  exact ⟨rfl, ((Below.refl _ w).alloc (Nat.le_refl _) _).trans (hb.mono (by simp))⟩
theorem pcm_nil (w : World) : Calls Try.prog 13 #[.slice none 0 0] w fun e w' => ∃ a', e = .returned (.slice a' 0 0) ∧ Below w.heap.size w w' := by
  refine (pcm_any none 0 0 [] w (Zs.nil _ _) (by decide)).mono ?_
  rintro e w' ⟨a', rfl, _, hb⟩
  exact ⟨a', rfl, hb⟩

set_option maxRecDepth 100000 in
set_option maxHeartbeats 2000000 in
theorem synthKnown.walk (w : World) :
    Calls Try.prog 3 #[] w fun e w' => e = .returned (.bool true) ∧ Below w.heap.size w w' := by
  have y1 : Hid True := trivial
  have y2 : Hid True := trivial
  have y3 : Hid True := trivial
  go_enter Try.func3, Try.ntmps3
  go_wp2_with (first
    | (go_at_call 9; refine (awake_any _).mono ?_; rintro e w1 ⟨rfl, hB1⟩)
    | (go_at_call 10; clear y1; refine (new_is _).mono ?_; rintro e w2 ⟨p, rfl, hp, hv2, hb2⟩; have hB2 := hB1.trans (hb2.mono hB1.size); clear hb2)
    | (go_at_call 11; clear y2; go_loud (refine (bad_none p _).mono ?_; rintro e w3 ⟨rfl, hb3⟩; have hv3 := hv2.keep hb3; have hB3 := hB2.trans (hb3.mono hB2.size); clear hv2 hB2 hb3))
    | (go_at_call 11; clear y3; go_loud (refine (bad_seventeen p _).mono ?_; rintro e w4 ⟨rfl, hb4⟩; have hv4 := hv3.keep hb4; have hB4 := hB3.trans (hb4.mono hB3.size); clear hv3 hB3 hb4))
    | (go_at_call 11; go_loud (refine (bad_two p _).mono ?_; rintro e w5 ⟨rfl, hb5⟩; have hv5 := hv4.keep hb5; have hB5 := hB4.trans (hb5.mono hB4.size); clear hv4 hB4 hb5))
    | (go_at_call 10; go_loud (refine (new_is _).mono ?_; rintro e w6 ⟨p6, rfl, hp6, hn6, hb6⟩; have hv6 := hv5.keep hb6; have hB6 := hB5.trans (hb6.mono hB5.size); clear hv5 hB5 hb6))
    | (go_at_call 12; go_loud (refine (same_yes _ _ _ _ _ hv6 hn6).mono ?_; rintro e w7 ⟨rfl, hb7⟩; have hB7 := hB6.trans (hb7.mono hB6.size); clear hv6 hB6 hb7 hn6))
    | (go_at_call 13; go_loud (refine (pcm_nil _).mono ?_; rintro e w8 ⟨a8, rfl, hb8⟩; have hB8 := hB7.trans (hb8.mono hB7.size))))
  go_ret
  exact ⟨rfl, hB8⟩

end Go.Proofs.Ytbnkapeahbegaaa
