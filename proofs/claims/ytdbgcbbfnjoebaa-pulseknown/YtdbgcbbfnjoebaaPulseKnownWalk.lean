/- The law of chapter 9's examples answers true. -/
import Derived.Test.YtdbgcbbfnjoebaaPulseV
namespace Go.Proofs.Ytdbgcbbfnjoebaa
open Go.RowKit

theorem tell_initP : tellS initE = 1 := by decide +kernel
theorem good_zeros : goodL (List.replicate 16 0) = true := by decide +kernel
theorem good_17 : goodL ((List.replicate 16 0).set 0 17) = false := by decide +kernel

set_option maxRecDepth 100000 in
set_option maxHeartbeats 3200000 in
theorem pulseKnown.walk (w : World) :
    Calls Try.prog 3 #[] w fun e w' => e = .returned (.bool true) ∧ Below w.heap.size w w' := by
  have hb := Below.refl w.heap.size w
  obtain ⟨C, hC⟩ : ∃ C, madeCells #[.int .i64 0] 16 = C := ⟨_, rfl⟩
  have hmk : ∀ W : World, (Instr.makeSlice 23 (.int .i64 16) (.int .i64 16)).run Try.prog W = .ok (.slice (some ⟨W.heap.size, 0, none⟩) 16 16) (W.alloc (.cells C 2)) := fun W => by
    rw [← hC]
    exact run_make_row' (P := Try.prog) 23 2 (.int .i64 0) 8 Try.underlying23 info_int64 rfl .i64 .i64 16 (by decide) (by decide) W
  have hmk2 : ∀ W : World, (Instr.makeSlice 23 (.int .i64 481) (.int .i64 481)).run Try.prog W = .ok (.slice (some ⟨W.heap.size, 0, none⟩) 481 481) (W.alloc (.cells (madeCells #[.int .i64 0] 481) 2)) := fun W =>
    run_make_row' (P := Try.prog) 23 2 (.int .i64 0) 8 Try.underlying23 info_int64 rfl .i64 .i64 481 (by decide) (by decide) W
  obtain ⟨C2, hC2⟩ : ∃ C, madeCells #[.int .i64 0] 481 = C := ⟨_, rfl⟩
  rw [hC2] at hmk2
  have HROW : Hid (∀ (W : World) (g : Nat), g = W.heap.size → NewRow 2 g (W.alloc (.cells C 2)) (some ⟨g, 0, none⟩) (List.replicate 16 0)) := fun W g hg => by
    rw [hg, ← hC]
    exact NewRow.made W 16
  have CI : Hid (initE.cnt ≤ 1000) := by show _ ≤ _; decide
  have g1 : Hid True := trivial
  have g2 : Hid True := trivial
  clear hC hC2
  go_enter Try.func3, Try.ntmps3
  go_wp2_with (first
    | (go_at_call 9; refine (awake_any _).mono ?_; rintro e w1 ⟨rfl, hb1⟩; replace hb := hb.trans (hb1.mono hb.size); clear hb1)
    | (go_at_call 11; go_loud (refine (new_any 0 none 0 0 [] _ (argIn_nil _)).mono ?_; rintro e w2 ⟨pd, qd, rfl, hd, hqd, hpd, hb2⟩; have hrow := (HROW.out w1 _ rfl).keep hb2; have hbA := (hb.alloc hb.size (.cells C 2)).trans (hb2.mono (by rw [World.size_alloc]; exact Nat.le_succ_of_le hb.size)); clear hb2 hd))
    | (go_at_call 10; go_loud (refine (read_bad pd 15 _ rfl).mono ?_; rintro e w3 ⟨rfl, rfl⟩))
    | (go_at_call 12; go_loud (refine (newE_any _).mono ?_; rintro e w4 ⟨p, S, rfl, he, hS, hb4⟩; have hSg : ¬ S w1.heap.size := (fun h => by have := hS _ h; have := (hrow.ge (by decide)).2; omega); replace hrow := hrow.keep hb4; have hbB := hbA.trans (hb4.mono hbA.size); have hc0 := hrow.cellAt (i := 0) (by decide); have hf0 := hrow.frozenAt (by decide) 0; have HRS : Hid (NewRow 2 w1.heap.size (w4.setCell ⟨w1.heap.size, 0, none⟩ (.int .i64 17)) (some ⟨w1.heap.size, 0, none⟩) ((List.replicate 16 0).set 0 17)) := hrow.set 0 17; have HES : Hid (Wd S p initE (w4.setCell ⟨w1.heap.size, 0, none⟩ (.int .i64 17))) := he.but ((But.refl _ w4).set 0 _) hSg; have HBS : Hid (Below w.heap.size w (w4.setCell ⟨w1.heap.size, 0, none⟩ (.int .i64 17))) := hbB.setCell hb.size _; clear hb4 hS he hrow hbA))
    | (go_at_call 13; clear g1; go_loud (refine (pgood_any _ 16 16 (List.replicate 16 0) _ (Zs.of_new (HROW.out (w4.setCell ⟨w1.heap.size, 0, none⟩ (.int .i64 17)) _ (by simp)) rfl) (by decide)).mono ?_; rw [good_zeros]; rintro e w5 ⟨rfl, rfl⟩))
    | (go_at_call 13; clear g2; go_loud (refine (good_bad none 0 0 _ rfl).mono ?_; rintro e w5 ⟨rfl, rfl⟩))
    | (go_at_call 13; go_loud (refine (pgood_any _ 16 16 ((List.replicate 16 0).set 0 17) _ (Zs.of_new (HRS.out.alloc _) rfl) (by decide)).mono ?_; rw [good_17]; rintro e w5 ⟨rfl, rfl⟩))
    | (go_at_call 14; go_loud (refine (write_bad p _ 16 16 ((List.replicate 16 0).set 0 17) _ (Zs.of_new (HRS.out.alloc _) rfl) (by decide) good_17).mono ?_; rintro e w5 ⟨rfl, rfl⟩))
    | (go_at_call 15; go_loud (refine (tellE_any S p initE _ (HES.out.keep ((Below.refl _ _).alloc (Nat.le_refl _) _)) initE_inv.wide initE_inv.pre.rhigh (by have := CI.out; omega)).mono ?_; rw [tell_initP]; rintro e w5 ⟨rfl, k5, rfl⟩))
    | (go_at_call 16; go_loud (refine (fewer_far _ 481 481 3 _ (by decide)).mono ?_; rintro e w5 ⟨rfl, rfl⟩)))
  go_ret
  have h1 := HBS.out.alloc HBS.out.size (.cells C 2)
  have h2 := below_drewN h1 k5
  exact ⟨rfl, h2.alloc h2.size _⟩

end Go.Proofs.Ytdbgcbbfnjoebaa
