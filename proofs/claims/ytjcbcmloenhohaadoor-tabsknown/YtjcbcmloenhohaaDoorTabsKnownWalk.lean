/- The law of the examples of package tabs answers true, in whatever memory where the two variables lie as laid. -/
import Derived.Test.YtjcbcmloenhohaaDoorTabsK
namespace Go.Proofs.YtjcbcmloenhohaaDoor
open Go.RowKit

theorem icdf_good : ∀ k, k < 9 → goodB (icdfT k) = true := by decide

theorem good_two (w : World) (a b : Int) (x : Bool) (hx : goodB [a, b] = x) :
    Calls Tryd.prog 10 #[.slice (some ⟨w.heap.size, 0, none⟩) 2 2] (w.alloc (.cells #[.int .i64 a, .int .i64 b] 3)) fun e w' => e = .returned (.bool x) ∧ w' = w.alloc (.cells #[.int .i64 a, .int .i64 b] 3) := by
  rw [← hx]
  exact good_new [a, b] 2 _ _ _ 3 _ (newRow_alloc w [a, b] 3) rfl (by decide)

theorem good_one (w : World) (a : Int) (x : Bool) (hx : goodB [a] = x) (g : Nat) (hg : g = w.heap.size) :
    Calls Tryd.prog 10 #[.slice (some ⟨g, 0, none⟩) 1 1] (w.alloc (.cells #[.int .i64 a] 3)) fun e w' => e = .returned (.bool x) ∧ w' = w.alloc (.cells #[.int .i64 a] 3) := by
  subst hg
  rw [← hx]
  exact good_new [a] 1 _ _ _ 3 _ (newRow_alloc w [a] 3) rfl (by decide)

set_option maxHeartbeats 1000000 in
theorem tabsKnown.walk (w : World) (hr : EdgesAt w ∧ TapsAt w) :
    Calls Tryd.prog 3 #[] w fun e w' => e = .returned (.bool true) ∧ Below w.heap.size w w' := by
  obtain ⟨he, ht⟩ := hr
  have e1 : (icdfL 9).length = 0 := by rw [icdfL_far (by decide)]; rfl
  have e2 : edgesN 1 = 0 := by decide
  have e3 : (lsfL 11 0).length = 0 := by decide
  have e4 : tapsV 8 = .agg #[.int .i64 0, .int .i64 0, .int .i64 0, .int .i64 0, .int .i64 0] := tapsV_far (by decide)
  have e5 : rateB 12000 = false := by decide
  have e6 : ∀ W : World, (binOp .eql 28 (.agg #[.int .i64 0, .int .i64 0, .int .i64 0, .int .i64 0, .int .i64 0]) (.agg #[.int .i64 0, .int .i64 0, .int .i64 0, .int .i64 0, .int .i64 0])).run Tryd.prog W = .ok (.bool true) W := fun W => by kernel_rfl
  have hb := Below.refl w.heap.size w
  go_enter Tryd.func3, Tryd.ntmps3
  go_wp2_with (go_at_call 9; refine (awake_any _ he ht).mono ?_; rintro e w1 ⟨rfl, hw1⟩; replace hb := hb.trans (hw1.mono hb.size); clear hw1)
  go_loopw [1] (fun k W => Below w.heap.size w W ∧ ∃ m : Nat, m ≤ 9 ∧ k = .int .i64 m) (fun k _ => 9 - (intOf k).toNat)
  case atStart => exact ⟨hb, 0, Nat.zero_le _, rfl⟩
  case round =>
    clear hb
    obtain ⟨hb, m, hm, rfl⟩ := hrel
    by_cases hlt : m < 9
    · have eg : goodB (icdfL (m : Int)) = true := by
        rw [icdfL, if_neg (by omega)]; exact icdf_good m hlt
      have hlen := icdfL_len (m : Int)
      go_wp2_with (first
        | (go_at_call 11; refine (icdf_any _ _).mono ?_; rintro e w2 ⟨a2, c2, rfl, hn2, hb2⟩; replace hb := hb.trans (hb2.mono hb.size); clear hb2)
        | (go_at_call 10; refine (good_new (icdfL (m : Int)) _ _ _ _ _ _ hn2 rfl (by omega)).mono ?_; rw [eg]; rintro e w' ⟨rfl, rfl⟩))
      go_roundw
      case rel => exact ⟨hb, m + 1, by omega, by go_num⟩
      case measure => simp [intOf]; omega
    · have f1 : Hid True := trivial
      have f2 : Hid True := trivial
      have f3 : Hid True := trivial
      go_wp2_with (first
        | (go_at_call 11; refine (icdf_any _ _).mono ?_; rintro e w2 ⟨a2, c2, rfl, hn2, hb2⟩; replace hb := hb.trans (hb2.mono hb.size); clear hb2 hn2)
        | (go_at_call 10; clear f1; refine (good_none _ _ _).mono ?_; rintro e w' ⟨rfl, rfl⟩)
        | (go_at_call 10; clear f2; refine (good_two _ 256 0 false (by decide)).mono ?_; rintro e w' ⟨rfl, rfl⟩; replace hb := hb.alloc hb.size (.cells #[.int .i64 256, .int .i64 0] 3))
        | (go_at_call 10; clear f3; refine (good_one _ 0 true (by decide) _ ?_).mono ?_; simp; rintro e w' ⟨rfl, rfl⟩; replace hb := hb.alloc hb.size (.cells #[.int .i64 0] 3))
        | (go_at_call 12; refine (edges_any _ _ (he.keep hb)).mono ?_; rintro e w3 ⟨a3, c3, rfl, hn3, hb3⟩; replace hb := hb.trans (hb3.mono hb.size); clear hb3 hn3)
        | (go_at_call 13; refine (lsf_any _ _ _).mono ?_; rintro e w5 ⟨a5, c5, rfl, hn5, hb5⟩; replace hb := hb.trans (hb5.mono hb.size); clear hb5 hn5)
        | (go_at_call 14; refine (taps_any _ _ (ht.keep hb)).mono ?_; rintro e w6 ⟨rfl, hb6⟩; replace hb := hb.trans (hb6.mono hb.size); clear hb6)
        | (go_at_call 15; refine (rate_any _ _).mono ?_; rintro e w' ⟨rfl, rfl⟩))
      go_ret
      exact ⟨rfl, hb⟩

end Go.Proofs.YtjcbcmloenhohaaDoor
