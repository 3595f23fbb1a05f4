/- The law of chapter 5's examples answers true. -/
import Derived.Test.YtgiellpepnbpcaaDoorTocT
namespace Go.Proofs.YtgiellpepnbpcaaDoor
open Go.RowKit

theorem bs_nil (w : World) : Bs w none 0 0 [] := ⟨⟨fun x hx => (by cases hx), fun h => absurd h (by decide)⟩, rfl, fun _ => ⟨rfl, rfl⟩, Nat.le_refl _, by decide⟩
theorem frames_nil (w : World) (a : Option Addr) : FramesAt w 0 a [] := ⟨fun h => absurd h (by decide)⟩
theorem bad_none (c pad : Int) (fs : List (List Nat)) : ¬ goodI c 0 pad fs := fun h => absurd h.ch0 (by decide)
theorem cfg_no : ∀ j : Nat, j < 12 → ¬ (modeN j = 1 ∧ rateN j = 8000) := by decide
theorem num_no : ∀ j, j < 12 → ¬ isCfg 1 8000 10 j := fun j hj h => cfg_no j hj ⟨by have := h.1; omega, by have := h.2.1; omega⟩

set_option maxHeartbeats 1000000 in
theorem tocKnown.walk (w : World) (hc : CfgAt w) :
    Calls Tryd.prog 3 #[] w fun e w' => e = .returned (.bool true) ∧ Below w.heap.size w w' := by
  have HC : Hid (CfgAt w) := hc
  clear hc
  have y1 : Hid True := trivial
  go_enter Tryd.func3, Tryd.ntmps3
  go_wp2_with (first
    | (go_at_call 9; refine (awake_any _ HC.out).mono ?_; rintro e w1 ⟨rfl, hB⟩)
    | (go_at_call 10; clear y1; go_loud (refine (parse_any none 0 0 [] _ (bs_nil _) (HC.out.keep hB)).mono ?_; rintro e w2 ⟨he, hb2⟩; obtain rfl := he.elim_no rfl; replace hB := hB.trans (hb2.mono hB.size); clear he hb2))
    | (go_at_call 10; go_loud (have hB4 := (hB.alloc hB.size (.cells #[.int .i64 0, .int .i64 0, .slice none 0 0, .int .i64 0] 25)).alloc (by simp; have := hB.size; omega) (.cells #[.int .u8 96] 5); refine (parse_any _ 1 1 [96] _ (bs_lit (w2.alloc _) [96] rfl rfl (by decide) (by decide) (by simp)) (HC.out.keep hB4)).mono ?_; rintro e w3 ⟨he, hb3⟩; obtain rfl := he.elim_no rfl; replace hB := hB4.trans (hb3.mono hB4.size); clear he hb3 hB4))
    | (go_at_call 11; go_loud (have hB4 := hB.alloc hB.size (.cells #[.int .i64 0, .int .i64 0, .slice none 0 0, .int .i64 0] 25); refine (of_bad 12 (by decide) _).mono ?_; rintro e w4 ⟨rfl, hb4⟩; replace hB := hB4.trans (hb4.mono hB4.size); clear hb4 hB4))
    | (go_at_call 12; go_loud (have hB4 := hB.alloc hB.size (.cells #[.int .i64 0, .int .i64 0, .int .i64 0] 31); refine (number_no 1 8000 10 num_no _ (HC.out.keep hB4)).mono ?_; rintro e w5 ⟨rfl, hb5⟩; replace hB := hB4.trans (hb5.mono hB4.size); clear hb5 hB4))
    | (go_at_call 13; go_loud (refine (pack_bad 0 0 0 none 0 0 [] 0 _ (HC.out.keep hB) (frames_nil _ _) rfl (by decide) (bad_none _ _ _)).mono ?_; rintro e w6 ⟨rfl, hb6⟩; replace hB := hB.trans (hb6.mono hB.size); clear hb6))
    | (go_at_call 14; go_loud (refine (good_any 0 0 0 none 0 0 [] 0 _ (HC.out.keep hB) (frames_nil _ _) rfl (by decide)).mono ?_; rintro e w7 ⟨⟨bb, rfl, hb⟩, hb7⟩; obtain rfl : bb = false := (by cases bb with | false => rfl | true => exact absurd (hb.1 rfl) (bad_none _ _ _)); replace hB := hB.trans (hb7.mono hB.size); clear hb hb7)))
  go_ret
  exact ⟨rfl, hB⟩

end Go.Proofs.YtgiellpepnbpcaaDoor
