/- The law of chapter 12's examples answers true. -/
import Derived.Test.YtjaccokmficfdaaLevJ
namespace Go.Proofs.Ytjaccokmficfdaa
open Go.RowKit Lev

theorem solve_nought : solveZ [0, 5] = [0] := by decide +kernel
theorem power_none : powI [] = 0 := by decide +kernel
theorem found_none : foundZ [] 16 = 0 := by
  have h : ∀ i, leftZ [] 16 i = 0 := fun _ => rfl
  have h2 : ∀ n, bestN (leftZ [] 16) n = 0 := by
    intro n
    induction n with
    | zero => rfl
    | succ n ih =>
      rw [bestN_step, ih, h, h, if_neg (by decide)]
  exact h2 16

set_option maxRecDepth 100000 in
set_option maxHeartbeats 3200000 in
theorem levinKnown.walk (w : World) :
    Calls Try.prog 3 #[] w fun e w' => e = .returned (.bool true) ∧ Below w.heap.size w w' := by
  have HT : Hid (solveZ [0, 5] = [0] ∧ powI [] = 0 ∧ foundZ [] 16 = 0) := ⟨solve_nought, power_none, found_none⟩
  have hb := Below.refl w.heap.size w
  obtain ⟨C, hC⟩ : ∃ C, madeCells #[.int .i64 0] 961 = C := ⟨_, rfl⟩
  have hmk : ∀ W : World, (Instr.makeSlice 23 (.int .i64 961) (.int .i64 961)).run Try.prog W = .ok (.slice (some ⟨W.heap.size, 0, none⟩) 961 961) (W.alloc (.cells C 2)) := fun W => by
    rw [← hC]
    exact run_make_row' (P := Try.prog) 23 2 (.int .i64 0) 8 Try.underlying23 info_int64 rfl .i64 .i64 961 (by decide) (by decide) W
  have HMZ : Hid (∀ W : World, Zs (W.alloc (.cells C 2)) (some ⟨W.heap.size, 0, none⟩) 961 (List.replicate 961 0)) := fun W => by
    rw [← hC]
    exact zs_made W 961 rfl
  have HX : Hid (961 ≤ maxLen ∧ 0 ≤ maxLen ∧ 1 ≤ maxLen) := by
    unfold maxLen
    exact ⟨by omega, by omega, by omega⟩
  have y1 : Hid True := trivial
  have y2 : Hid True := trivial
  clear hC
  go_enter Try.func3, Try.ntmps3
  go_wp2_with (first
    | (go_at_call 9; go_loud (refine (awake_any w).mono ?_; rintro e w1 ⟨rfl, hb1⟩; replace hb := hb.trans (hb1.mono hb.size); clear hb1))
    | (go_at_call 10; go_loud (refine (pAuto_no none 0 0 0 [] _ (Zs.nil _ _) HX.out.2.1 (by decide)).mono ?_; rintro e w2 ⟨rfl, hb2⟩; replace hb := hb.trans (hb2.mono hb.size); clear hb2))
    | (go_at_call 11; clear y1; go_loud (refine (pSolve_no _ 1 1 [1] _ (lit1 w2 1 rfl) HX.out.2.2 (by decide)).mono ?_; rintro e w3 ⟨rfl, hb3⟩; replace hb := (hb.alloc hb.size (.cells #[.int .i64 1] 2)).trans (hb3.mono (by rw [World.size_alloc]; exact Nat.le_succ_of_le hb.size)); clear hb3))
    | (go_at_call 11; go_loud (refine (pSolve_yes _ 2 2 1 [0, 5] _ (lit2 w3 0 5 rfl) rfl (by decide) (by decide)).mono ?_; rw [HT.out.1]; rintro e w4 ⟨a4, c4, rfl, hr4, hb4⟩; replace hb := (hb.alloc hb.size (.cells #[.int .i64 0, .int .i64 5] 2)).trans (hb4.mono (by rw [World.size_alloc]; exact Nat.le_succ_of_le hb.size)); clear hb4))
    | (go_at_call 12; go_loud (refine (pRest_no _ none 961 961 0 0 _ [] _ (HMZ.out w4) (Zs.nil _ _) HX.out.1 HX.out.2.1 (by decide)).mono ?_; rintro e w5 ⟨rfl, hb5⟩; replace hr4 := (hr4.alloc (.cells C 2)).keep hb5; replace hb := (hb.alloc hb.size (.cells C 2)).trans (hb5.mono (by rw [World.size_alloc]; exact Nat.le_succ_of_le hb.size)); clear hb5))
    | (go_at_call 13; clear y2; go_loud (refine (pBest_no none 0 0 11 [] _ (Zs.nil _ _) HX.out.2.1 (by decide)).mono ?_; rintro e w6 ⟨rfl, hb6⟩; replace hr4 := hr4.keep hb6; replace hb := hb.trans (hb6.mono hb.size); clear hb6))
    | (go_at_call 13; go_loud (refine (pBest_int none 0 0 16 16 rfl [] _ (Zs.nil _ _) (by decide) (.inr rfl)).mono ?_; rw [HT.out.2.2]; rintro e w7 ⟨rfl, hb7⟩; replace hr4 := hr4.keep hb7; replace hb := hb.trans (hb7.mono hb.size); clear hb7))
    | (go_at_call 14; go_loud (refine (zsame_any _ _ 1 _ 1 [0] _ ((Zs.of_new hr4 rfl).alloc _) (lit1 w7 0 rfl) (by decide)).mono ?_; rintro e w8 ⟨rfl, k8, hw8⟩; replace hb := below_drewN (hb.alloc hb.size (.cells #[.int .i64 0] 2)) k8; rw [← hw8] at hb; clear hw8))
    | (go_at_call 15; go_loud (refine (pPower none 0 0 [] _ (Zs.nil _ _) HX.out.2.1 (Nat.le_refl _)).mono ?_; rw [HT.out.2.1]; rintro e w9 ⟨rfl, hb9⟩; replace hb := hb.trans (hb9.mono hb.size); clear hb9)))
  go_ret
  exact ⟨rfl, hb⟩

end Go.Proofs.Ytjaccokmficfdaa
