/- What is written is read; what comes next is the nearest that can be told: whatever is handed in. -/
import Derived.Test.YtnmfbjpbhghgaaaDoorGainBackWalk
namespace Go.Proofs.YtnmfbjpbhghgaaaDoor
open Go.RowKit

set_option maxRecDepth 100000 in
set_option maxHeartbeats 1600000 in
theorem gainBack.other (a0 : Option Addr) (len cap : Nat) (zs : List Int) (rate lag taps : Int) (w : World) (h0 : RowAt w a0 len zs) (hlen : len ≤ 30) (hl1 : 1 ≤ len) (z0 : Int) (hz : zs[0]?.getD 0 = z0) (hz0 : z0 < 0 ∨ 63 < z0) (hr : RootsAt w) :
    Calls Tryd.prog 5 #[.slice a0 len cap, .int .i64 rate, .agg #[.int .i64 lag, .int .i64 taps]] w fun e w' => e = .returned (.bool true) ∧ Below w.heap.size w w' := by
  have hb := (Below.refl w.heap.size w).alloc (Nat.le_refl _) (.cells #[.int .i64 lag, .int .i64 taps] 32)
  have HR : Hid (∀ W, Below w.heap.size w W → RootsAt W) := fun W hW => hr.below hW hr.size
  obtain ⟨b0, o0, rfl, _, hc0⟩ := h0.2 (by omega)
  have hx0 := hc0 0 (by omega)
  have hb0 := World.block_lt_of_cell? w _ hx0
  rw [hz, Nat.add_zero] at hx0
  have HX : Hid (∀ W, Below w.heap.size w W → W.cell? ⟨b0, o0, none⟩ = some (.int .i64 z0)) := fun W hW => (hW.cell (p := ⟨b0, o0, none⟩) hb0).trans hx0
  have HBAD : Hid (∀ p W, Calls Tryd.prog 12 #[.pointer (some ⟨p, 0, none⟩), .int .i64 z0] W fun e w' => e = .returned (.int .i64 1) ∧ w' = W) := fun p W => writeFirst_bad p z0 W (by omega)
  have hl0 : ((len : Int) == 0) = false := beq_eq_false_iff_ne.2 (by omega)
  have hlI : (len : Int) ≤ 30 := by omega
  have hix : (0 : Int) < (len : Int) := by omega
  clear h0 hc0 hr hx0 hz hb0
  rcases hz0 with hz0 | hz0
  · have x0 := HX.out _ hb
    go_enter Tryd.func5, Tryd.ntmps5
    go_wp2_with (first
      | (go_at_call 8; refine (awake_any _ (HR.out _ hb)).mono ?_; rintro e w1 ⟨rfl, hb1⟩; replace hb := hb.trans (hb1.mono hb.size); replace x0 := HX.out _ hb; clear hb1)
      | (go_at_call 9; go_loud (refine (newE_any _).mono ?_; rintro e w1 ⟨p, S, rfl, he, hS, hb1⟩; replace hb := hb.trans (hb1.mono hb.size); replace x0 := HX.out _ hb; clear hb1 he hS))
      | (go_at_call 12; go_loud (refine (HBAD.out _ _).mono ?_; rintro e w9 ⟨rfl, rfl⟩)))
    go_ret
    exact ⟨rfl, hb⟩
  · have hnz : ¬ z0 < 0 := by omega
    have x0 := HX.out _ hb
    go_enter Tryd.func5, Tryd.ntmps5
    go_wp2_with (first
      | (go_at_call 8; refine (awake_any _ (HR.out _ hb)).mono ?_; rintro e w1 ⟨rfl, hb1⟩; replace hb := hb.trans (hb1.mono hb.size); replace x0 := HX.out _ hb; clear hb1)
      | (go_at_call 9; go_loud (refine (newE_any _).mono ?_; rintro e w1 ⟨p, S, rfl, he, hS, hb1⟩; replace hb := hb.trans (hb1.mono hb.size); replace x0 := HX.out _ hb; clear hb1 he hS))
      | (go_at_call 12; go_loud (refine (HBAD.out _ _).mono ?_; rintro e w9 ⟨rfl, rfl⟩)))
    go_ret
    exact ⟨rfl, hb⟩

set_option maxRecDepth 100000 in
set_option maxHeartbeats 1600000 in
theorem gainBack.walk (a0 : Option Addr) (len cap : Nat) (z : List Int) (rate lag taps : Int) (w : World) (h0 : IsRow .i64 w a0 len cap z) (_w1 : (Lit.int .i64 rate).wf = true) (_w2 : (Lit.int .i64 lag).wf = true) (_w3 : (Lit.int .i64 taps).wf = true) (hr : RootsAt w) :
    Calls Tryd.prog 5 #[.slice a0 len cap, .int .i64 rate, .agg #[.int .i64 lag, .int .i64 taps]] w fun e w' => e = .returned (.bool true) ∧ Below w.heap.size w w' := by
  have hl := row_len h0
  by_cases hlen : len ≤ 30
  · by_cases hl1 : 1 ≤ len
    · have hrow := (row_at h0).1
      obtain ⟨z0, gs, hzs⟩ : ∃ z0 gs, z.take len = z0 :: gs := by
        cases h : z.take len with
        | nil => have := hrow.1; rw [h] at this; simp at this; omega
        | cons a l => exact ⟨a, l, rfl⟩
      have hwf : ∀ i, i < len → -9223372036854775808 ≤ (z.take len)[i]?.getD 0 ∧ (z.take len)[i]?.getD 0 ≤ 9223372036854775807 := fun i hi => by
        rcases h0 with ⟨_, rfl, _, _⟩ | ⟨x, _, _, _, _, _, hw⟩
        · omega
        · have hlt : i < (z.take len).length := by rw [hrow.1]; exact hi
          rw [List.getElem?_eq_getElem hlt]
          exact bounds_i64 (hw _ (List.mem_of_mem_take (List.getElem_mem hlt)))
      by_cases hz0 : 0 ≤ z0 ∧ z0 ≤ 63
      · by_cases hm : MayLtp rate lag taps
        · exact gainBack.good a0 len cap _ rate lag taps w hrow hlen hl1 z0 gs hzs hz0 hwf hr hm
        · exact gainBack.bad a0 len cap _ rate lag taps w hrow hlen hl1 z0 gs hzs hz0 hwf hr hm
      · exact gainBack.other a0 len cap _ rate lag taps w hrow hlen hl1 z0 (by rw [hzs]; rfl) (by omega) hr
    · obtain rfl : len = 0 := by omega
      have hb := (Below.refl w.heap.size w).alloc (Nat.le_refl _) (.cells #[.int .i64 lag, .int .i64 taps] 32)
      have HR : Hid (∀ W, Below w.heap.size w W → RootsAt W) := fun W hW => hr.below hW hr.size
      clear hr h0 hl hlen hl1
      go_enter Tryd.func5, Tryd.ntmps5
      go_wp2_with (go_at_call 8; refine (awake_any _ (HR.out _ hb)).mono ?_; rintro e w1 ⟨rfl, hb1⟩; replace hb := hb.trans (hb1.mono hb.size); clear hb1)
      go_ret
      exact ⟨rfl, hb⟩
  · have hb := (Below.refl w.heap.size w).alloc (Nat.le_refl _) (.cells #[.int .i64 lag, .int .i64 taps] 32)
    have HR : Hid (∀ W, Below w.heap.size w W → RootsAt W) := fun W hW => hr.below hW hr.size
    have hlI : (30 : Int) < (len : Int) := by omega
    clear hr h0 hl hlen
    go_enter Tryd.func5, Tryd.ntmps5
    go_wp2_with (go_at_call 8; refine (awake_any _ (HR.out _ hb)).mono ?_; rintro e w1 ⟨rfl, hb1⟩; replace hb := hb.trans (hb1.mono hb.size); clear hb1)
    go_ret
    exact ⟨rfl, hb⟩

end Go.Proofs.YtnmfbjpbhghgaaaDoor
