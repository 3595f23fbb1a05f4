/- The law of configs answers true. (The ways of it are laid by wip/mkconfigs.py.) -/
import Derived.Test.YtgiellpepnbpcaaDoorTocCfgs
namespace Go.Proofs.YtgiellpepnbpcaaDoor
open Go.RowKit

theorem neq_cfg (W : World) (a b c : Int) : (binOp .neq 31 (.agg #[.int .i64 a, .int .i64 b, .int .i64 c]) (.agg #[.int .i64 a, .int .i64 b, .int .i64 c])).run Tryd.prog W = .ok (.bool false) W := by
  simp [go_sem]

/-- Block g holds these three numbers. -/
def Row3 (w : World) (g : Nat) (x y z : Int) : Prop := ∃ t, w.heap[g]? = some (.cells #[.int .i64 x, .int .i64 y, .int .i64 z] t (0, 0))
theorem Row3.lt {w : World} {g : Nat} {x y z : Int} (h : Row3 w g x y z) : g < w.heap.size := by obtain ⟨t, h⟩ := h; exact (Array.getElem?_eq_some_iff.1 h).1
theorem Row3.keep {w w' : World} {g : Nat} {x y z : Int} (h : Row3 w g x y z) (hb : Below w.heap.size w w') : Row3 w' g x y z := by
  have hl := h.lt
  obtain ⟨t, h⟩ := h
  exact ⟨t, (hb.block g hl).trans h⟩
theorem Row3.alloc {w : World} {g : Nat} {x y z : Int} (h : Row3 w g x y z) (o : Obj) : Row3 (w.alloc o) g x y z := h.keep ((Below.refl _ _).alloc (Nat.le_refl _) o)
theorem Row3.cells {w : World} {g : Nat} {x y z : Int} (h : Row3 w g x y z) : w.cell? ⟨g, 0, none⟩ = some (.int .i64 x) ∧ w.cell? ⟨g, 1, none⟩ = some (.int .i64 y) ∧ w.cell? ⟨g, 2, none⟩ = some (.int .i64 z) := by
  obtain ⟨t, h⟩ := h
  exact ⟨cell_of_row w g 0 _ t _ h, cell_of_row w g 1 _ t _ h, cell_of_row w g 2 _ t _ h⟩
theorem Row3.cellsA {w : World} {g : Nat} {x y z : Int} (h : Row3 w g x y z) : (∀ o, (w.alloc o).cell? ⟨g, 0, none⟩ = some (.int .i64 x)) ∧ (∀ o, (w.alloc o).cell? ⟨g, 1, none⟩ = some (.int .i64 y)) ∧ ∀ o, (w.alloc o).cell? ⟨g, 2, none⟩ = some (.int .i64 z) :=
  ⟨fun o => (h.alloc o).cells.1, fun o => (h.alloc o).cells.2.1, fun o => (h.alloc o).cells.2.2⟩
theorem row3_new (w : World) (x y z : Int) (t : TypeId) : Row3 (w.alloc (.cells #[.int .i64 x, .int .i64 y, .int .i64 z] t)) w.heap.size x y z := ⟨t, heap_alloc_new w _⟩

set_option maxHeartbeats 4000000 in
theorem configs_gf (n : Nat) (x y z : Int) (w : World) (hc : CfgAt w) (hn : n < 12) (m : Nat) (hm : m < 12) (hm2 : isCfg x y z m) :
    Calls Tryd.prog 6 #[.int .i64 (n : Nat), .agg #[.int .i64 x, .int .i64 y, .int .i64 z]] w fun e w' => e = .returned (.bool true) ∧ Below w.heap.size w w' := by
  have HC : Hid (CfgAt w) := hc
  have HB0 : Hid (∀ o, Below w.heap.size w (w.alloc o)) := fun o => (Below.refl _ _).alloc (Nat.le_refl _) o
  have HN : Hid (n < 12) := hn
  have hn11 : n ≤ 11 := by omega
  have b0 : ((n : Int) < 0) = False := eq_false (by omega)
  have b1 : ((11 : Int) < n) = False := eq_false (by omega)
  have hneq := fun W => neq_cfg W (modeN n) (rateN n) (msN n)
  clear hc hn
  have HM : Hid (m < 12 ∧ isCfg x y z m) := ⟨hm, hm2⟩
  have HU : Hid (∀ j, j < 12 → j ≠ m → ¬ isCfg x y z j) := fun j hj hne hcj => hne (by
    obtain ⟨a1, a2, a3⟩ := hm2
    obtain ⟨c1, c2, c3⟩ := hcj
    exact cfg_apart j hj m hm (by omega) (by omega) (by omega))
  have hm11 : m ≤ 11 := by omega
  clear hm hm2
  go_enter Tryd.func6, Tryd.ntmps6
  go_wp2_with (first
    | (go_at_call 9; go_loud (refine (awake_any _ (HC.out.keep (HB0.out _))).mono ?_; rintro e w1 ⟨rfl, hb1⟩; have hR := (row3_new w x y z 31).keep hb1; have hB := boxed hb1; clear hb1))
    | (go_at_call 11; go_loud (refine (of_good n HN.out _ (HC.out.keep hB)).mono ?_; rintro e w2 ⟨rfl, hb2⟩; replace hR := hR.keep hb2; replace hB := hB.trans (hb2.mono hB.size); clear hb2)))
  have hK := row3_new w2 (modeN n) (rateN n) (msN n) 31
  have hQ := hR.alloc (.cells #[.int .i64 (modeN n), .int .i64 (rateN n), .int .i64 (msN n)] 31)
  have hB2 := hB.alloc hB.size (.cells #[.int .i64 (modeN n), .int .i64 (rateN n), .int .i64 (msN n)] 31)
  clear hR hB
  generalize hW5 : w2.alloc (.cells #[.int .i64 (modeN n), .int .i64 (rateN n), .int .i64 (msN n)] 31) = w5 at *
  generalize hg : w2.heap.size = g at *
  clear hW5 hg
  have HS : Hid (∀ W, Below w5.heap.size w5 W → W.cell? ⟨g, 0, none⟩ = some (.int .i64 (modeN n)) ∧ W.cell? ⟨g, 1, none⟩ = some (.int .i64 (rateN n)) ∧ W.cell? ⟨g, 2, none⟩ = some (.int .i64 (msN n))) := fun W hW => (hK.keep hW).cells
  have hb := (Below.refl w5.heap.size w5).drew
  have hS0 := HS.out _ hb
  go_region_held3 (fun W => W.cell? ⟨g, 0, none⟩ = some (.int .i64 (modeN n)) ∧ W.cell? ⟨g, 1, none⟩ = some (.int .i64 (rateN n)) ∧ W.cell? ⟨g, 2, none⟩ = some (.int .i64 (msN n))) (assumption) (first
    | (go_at_call 19; go_loud (refine (rmode_any n HN.out _).mono ?_; rintro e w6 ⟨rfl, rfl⟩))
    | (go_at_call 20; go_loud (refine (rrate_any n HN.out _).mono ?_; rintro e w6 ⟨rfl, hb6⟩; replace hb := hb.trans (hb6.mono hb.size); clear hb6; have hS1 := HS.out _ hb))
    | (go_at_call 21; go_loud (refine (rms_any n HN.out _).mono ?_; rintro e w7 ⟨rfl, rfl⟩)))
  all_goals
    have hR := hQ.keep hb
    have hB := hB2.trans (hb.mono hB2.size)
    obtain ⟨q0, q1, q2⟩ := hR.cells
    go_wp2_with (first
      | (go_at_call 12; go_loud (refine (number_is m HM.out.1 x y z HM.out.2 _ (HC.out.keep hB)).mono ?_; rintro e w4 ⟨rfl, hb4⟩; replace hR := hR.keep hb4; replace hB := hB.trans (hb4.mono hB.size); clear hb4)))
    go_loopw [9] (fun i W => ∃ j : Nat, j ≤ 12 ∧ i = .int .i64 j ∧ Hid (Below w.heap.size w W ∧ Row3 W w.heap.size x y z ∧ j ≤ m)) (fun i _ => 12 - (intOf i).toNat)
    case atStart => exact ⟨0, Nat.zero_le _, rfl, hB, hR, Nat.zero_le _⟩
    case round =>
      clear hB hR
      obtain ⟨j, hj, rfl, HR⟩ := hrel
      by_cases hlt : j < 12
      · have b5 : ((j : Int) < 12) = True := eq_true (by omega)
        have HJ : Hid (j < 12) := hlt
        have HS2 : Hid (∀ W, Below wr.heap.size wr W → W.cell? ⟨w.heap.size, 0, none⟩ = some (.int .i64 x) ∧ W.cell? ⟨w.heap.size, 1, none⟩ = some (.int .i64 y) ∧ W.cell? ⟨w.heap.size, 2, none⟩ = some (.int .i64 z)) := fun W hW => (HR.out.2.1.keep hW).cells
        have hbw := (Below.refl wr.heap.size wr).drew
        have hSa := HS2.out _ hbw
        by_cases hjm : j = m
        · have heq : ∀ W, (binOp .eql 31 (.agg #[.int .i64 x, .int .i64 y, .int .i64 z]) (.agg #[.int .i64 (modeN j), .int .i64 (rateN j), .int .i64 (msN j)])).run Tryd.prog W = .ok (.bool true) W := fun W => by
            rw [eql_cfg, hjm, decide_eq_true (show x = (modeN m : Int) ∧ y = (rateN m : Int) ∧ z = (msN m : Int) from HM.out.2)]
          have hb9 : ((m : Int) == (j : Int)) = true := beq_iff_eq.2 (by omega)
          clear hlt hjm
          go_wp2
          go_region_held3 (fun W => W.cell? ⟨w.heap.size, 0, none⟩ = some (.int .i64 x) ∧ W.cell? ⟨w.heap.size, 1, none⟩ = some (.int .i64 y) ∧ W.cell? ⟨w.heap.size, 2, none⟩ = some (.int .i64 z)) (assumption) (first
            | (go_at_call 19; go_loud (refine (rmode_any j HJ.out _).mono ?_; rintro e w6 ⟨rfl, rfl⟩))
            | (go_at_call 20; go_loud (refine (rrate_any j HJ.out _).mono ?_; rintro e w6 ⟨rfl, hb6⟩; replace hbw := hbw.trans (hb6.mono hbw.size); clear hb6; have hSb := HS2.out _ hbw))
            | (go_at_call 21; go_loud (refine (rms_any j HJ.out _).mono ?_; rintro e w7 ⟨rfl, rfl⟩)))
          all_goals
            go_wp2
            go_ret
            exact ⟨rfl, HR.out.1.trans (hbw.mono HR.out.1.size)⟩
        · have hne := HU.out j hlt hjm
          have heq : ∀ W, (binOp .eql 31 (.agg #[.int .i64 x, .int .i64 y, .int .i64 z]) (.agg #[.int .i64 (modeN j), .int .i64 (rateN j), .int .i64 (msN j)])).run Tryd.prog W = .ok (.bool false) W := fun W => by
            rw [eql_cfg, decide_eq_false (show ¬ (x = (modeN j : Int) ∧ y = (rateN j : Int) ∧ z = (msN j : Int)) from hne)]
          have HJM : Hid (j + 1 ≤ m) := by have := HR.out.2.2; show _ ≤ _; omega
          clear hlt hjm hne
          go_wp2
          go_region_held3 (fun W => W.cell? ⟨w.heap.size, 0, none⟩ = some (.int .i64 x) ∧ W.cell? ⟨w.heap.size, 1, none⟩ = some (.int .i64 y) ∧ W.cell? ⟨w.heap.size, 2, none⟩ = some (.int .i64 z)) (assumption) (first
            | (go_at_call 19; go_loud (refine (rmode_any j HJ.out _).mono ?_; rintro e w6 ⟨rfl, rfl⟩))
            | (go_at_call 20; go_loud (refine (rrate_any j HJ.out _).mono ?_; rintro e w6 ⟨rfl, hb6⟩; replace hbw := hbw.trans (hb6.mono hbw.size); clear hb6; have hSb := HS2.out _ hbw))
            | (go_at_call 21; go_loud (refine (rms_any j HJ.out _).mono ?_; rintro e w7 ⟨rfl, rfl⟩)))
          all_goals
            go_wp2
            go_roundw
            case rel => exact ⟨j + 1, HJ.out, by go_num, HR.out.1.trans (hbw.mono HR.out.1.size), HR.out.2.1.keep hbw, HJM.out⟩
            case measure => have := HJ.out; simp [intOf]; omega
      · obtain rfl : j = 12 := by omega
        exact absurd HR.out.2.2 (by omega)

set_option maxHeartbeats 4000000 in
theorem configs_gn (n : Nat) (x y z : Int) (w : World) (hc : CfgAt w) (hn : n < 12) (hm2 : ∀ j, j < 12 → ¬ isCfg x y z j) :
    Calls Tryd.prog 6 #[.int .i64 (n : Nat), .agg #[.int .i64 x, .int .i64 y, .int .i64 z]] w fun e w' => e = .returned (.bool true) ∧ Below w.heap.size w w' := by
  have HC : Hid (CfgAt w) := hc
  have HB0 : Hid (∀ o, Below w.heap.size w (w.alloc o)) := fun o => (Below.refl _ _).alloc (Nat.le_refl _) o
  have HN : Hid (n < 12) := hn
  have hn11 : n ≤ 11 := by omega
  have b0 : ((n : Int) < 0) = False := eq_false (by omega)
  have b1 : ((11 : Int) < n) = False := eq_false (by omega)
  have hneq := fun W => neq_cfg W (modeN n) (rateN n) (msN n)
  clear hc hn
  have HU : Hid (∀ j, j < 12 → ¬ isCfg x y z j) := hm2
  clear hm2
  go_enter Tryd.func6, Tryd.ntmps6
  go_wp2_with (first
    | (go_at_call 9; go_loud (refine (awake_any _ (HC.out.keep (HB0.out _))).mono ?_; rintro e w1 ⟨rfl, hb1⟩; have hR := (row3_new w x y z 31).keep hb1; have hB := boxed hb1; clear hb1))
    | (go_at_call 11; go_loud (refine (of_good n HN.out _ (HC.out.keep hB)).mono ?_; rintro e w2 ⟨rfl, hb2⟩; replace hR := hR.keep hb2; replace hB := hB.trans (hb2.mono hB.size); clear hb2)))
  have hK := row3_new w2 (modeN n) (rateN n) (msN n) 31
  have hQ := hR.alloc (.cells #[.int .i64 (modeN n), .int .i64 (rateN n), .int .i64 (msN n)] 31)
  have hB2 := hB.alloc hB.size (.cells #[.int .i64 (modeN n), .int .i64 (rateN n), .int .i64 (msN n)] 31)
  clear hR hB
  generalize hW5 : w2.alloc (.cells #[.int .i64 (modeN n), .int .i64 (rateN n), .int .i64 (msN n)] 31) = w5 at *
  generalize hg : w2.heap.size = g at *
  clear hW5 hg
  have HS : Hid (∀ W, Below w5.heap.size w5 W → W.cell? ⟨g, 0, none⟩ = some (.int .i64 (modeN n)) ∧ W.cell? ⟨g, 1, none⟩ = some (.int .i64 (rateN n)) ∧ W.cell? ⟨g, 2, none⟩ = some (.int .i64 (msN n))) := fun W hW => (hK.keep hW).cells
  have hb := (Below.refl w5.heap.size w5).drew
  have hS0 := HS.out _ hb
  go_region_held3 (fun W => W.cell? ⟨g, 0, none⟩ = some (.int .i64 (modeN n)) ∧ W.cell? ⟨g, 1, none⟩ = some (.int .i64 (rateN n)) ∧ W.cell? ⟨g, 2, none⟩ = some (.int .i64 (msN n))) (assumption) (first
    | (go_at_call 19; go_loud (refine (rmode_any n HN.out _).mono ?_; rintro e w6 ⟨rfl, rfl⟩))
    | (go_at_call 20; go_loud (refine (rrate_any n HN.out _).mono ?_; rintro e w6 ⟨rfl, hb6⟩; replace hb := hb.trans (hb6.mono hb.size); clear hb6; have hS1 := HS.out _ hb))
    | (go_at_call 21; go_loud (refine (rms_any n HN.out _).mono ?_; rintro e w7 ⟨rfl, rfl⟩)))
  all_goals
    have hR := hQ.keep hb
    have hB := hB2.trans (hb.mono hB2.size)
    obtain ⟨q0, q1, q2⟩ := hR.cells
    go_wp2_with (first
      | (go_at_call 12; go_loud (refine (number_no x y z HU.out _ (HC.out.keep hB)).mono ?_; rintro e w4 ⟨rfl, hb4⟩; replace hR := hR.keep hb4; replace hB := hB.trans (hb4.mono hB.size); clear hb4)))
    go_loopw [9] (fun i W => ∃ j : Nat, j ≤ 12 ∧ i = .int .i64 j ∧ Hid (Below w.heap.size w W ∧ Row3 W w.heap.size x y z)) (fun i _ => 12 - (intOf i).toNat)
    case atStart => exact ⟨0, Nat.zero_le _, rfl, hB, hR⟩
    case round =>
      clear hB hR
      obtain ⟨j, hj, rfl, HR⟩ := hrel
      by_cases hlt : j < 12
      · have b5 : ((j : Int) < 12) = True := eq_true (by omega)
        have HJ : Hid (j < 12) := hlt
        have HS2 : Hid (∀ W, Below wr.heap.size wr W → W.cell? ⟨w.heap.size, 0, none⟩ = some (.int .i64 x) ∧ W.cell? ⟨w.heap.size, 1, none⟩ = some (.int .i64 y) ∧ W.cell? ⟨w.heap.size, 2, none⟩ = some (.int .i64 z)) := fun W hW => (HR.out.2.keep hW).cells
        have hbw := (Below.refl wr.heap.size wr).drew
        have hSa := HS2.out _ hbw
        have hne := HU.out j hlt
        have heq : ∀ W, (binOp .eql 31 (.agg #[.int .i64 x, .int .i64 y, .int .i64 z]) (.agg #[.int .i64 (modeN j), .int .i64 (rateN j), .int .i64 (msN j)])).run Tryd.prog W = .ok (.bool false) W := fun W => by
          rw [eql_cfg, decide_eq_false (show ¬ (x = (modeN j : Int) ∧ y = (rateN j : Int) ∧ z = (msN j : Int)) from hne)]
        clear hlt hne
        go_wp2
        go_region_held3 (fun W => W.cell? ⟨w.heap.size, 0, none⟩ = some (.int .i64 x) ∧ W.cell? ⟨w.heap.size, 1, none⟩ = some (.int .i64 y) ∧ W.cell? ⟨w.heap.size, 2, none⟩ = some (.int .i64 z)) (assumption) (first
          | (go_at_call 19; go_loud (refine (rmode_any j HJ.out _).mono ?_; rintro e w6 ⟨rfl, rfl⟩))
          | (go_at_call 20; go_loud (refine (rrate_any j HJ.out _).mono ?_; rintro e w6 ⟨rfl, hb6⟩; replace hbw := hbw.trans (hb6.mono hbw.size); clear hb6; have hSb := HS2.out _ hbw))
          | (go_at_call 21; go_loud (refine (rms_any j HJ.out _).mono ?_; rintro e w7 ⟨rfl, rfl⟩)))
        all_goals
          go_wp2
          go_roundw
          case rel => exact ⟨j + 1, HJ.out, by go_num, HR.out.1.trans (hbw.mono HR.out.1.size), HR.out.2.keep hbw⟩
          case measure => have := HJ.out; simp [intOf]; omega
      · obtain rfl : j = 12 := by omega
        go_wp2
        go_ret
        exact ⟨rfl, HR.out.1⟩

set_option maxHeartbeats 4000000 in
theorem configs_bf (n : Int) (x y z : Int) (w : World) (hc : CfgAt w) (hn : n < 0 ∨ 11 < n) (m : Nat) (hm : m < 12) (hm2 : isCfg x y z m) :
    Calls Tryd.prog 6 #[.int .i64 n, .agg #[.int .i64 x, .int .i64 y, .int .i64 z]] w fun e w' => e = .returned (.bool true) ∧ Below w.heap.size w w' := by
  have HC : Hid (CfgAt w) := hc
  have HB0 : Hid (∀ o, Below w.heap.size w (w.alloc o)) := fun o => (Below.refl _ _).alloc (Nat.le_refl _) o
  have HN : Hid (n < 0 ∨ 11 < n) := hn
  have hcs : n < 0 ∨ (¬ n < 0 ∧ 11 < n) := by omega
  clear hc hn
  have HM : Hid (m < 12 ∧ isCfg x y z m) := ⟨hm, hm2⟩
  have HU : Hid (∀ j, j < 12 → j ≠ m → ¬ isCfg x y z j) := fun j hj hne hcj => hne (by
    obtain ⟨a1, a2, a3⟩ := hm2
    obtain ⟨c1, c2, c3⟩ := hcj
    exact cfg_apart j hj m hm (by omega) (by omega) (by omega))
  have hm11 : m ≤ 11 := by omega
  clear hm hm2
  rcases hcs with hcs | ⟨hcs1, hcs⟩
  all_goals
    go_enter Tryd.func6, Tryd.ntmps6
    go_wp2_with (first
      | (go_at_call 9; go_loud (refine (awake_any _ (HC.out.keep (HB0.out _))).mono ?_; rintro e w1 ⟨rfl, hb1⟩; have hR := (row3_new w x y z 31).keep hb1; have hB := boxed hb1; clear hb1))
      | (go_at_call 11; go_loud (refine (of_bad n HN.out _).mono ?_; rintro e w2 ⟨rfl, hb2⟩; replace hR := (hR.keep hb2).alloc (.cells #[.int .i64 0, .int .i64 0, .int .i64 0] 31); obtain ⟨q0, q1, q2⟩ := hR.cells; replace hB := (hB.trans (hb2.mono hB.size)).alloc (by have h8 := hB.size; have h9 := hb2.size; omega) (.cells #[.int .i64 0, .int .i64 0, .int .i64 0] 31); clear hb2))
      | (go_at_call 12; go_loud (refine (number_is m HM.out.1 x y z HM.out.2 _ (HC.out.keep hB)).mono ?_; rintro e w4 ⟨rfl, hb4⟩; replace hR := hR.keep hb4; replace hB := hB.trans (hb4.mono hB.size); clear hb4)))
    go_loopw [9] (fun i W => ∃ j : Nat, j ≤ 12 ∧ i = .int .i64 j ∧ Hid (Below w.heap.size w W ∧ Row3 W w.heap.size x y z ∧ j ≤ m)) (fun i _ => 12 - (intOf i).toNat)
    case atStart => exact ⟨0, Nat.zero_le _, rfl, hB, hR, Nat.zero_le _⟩
    case round =>
      clear hB hR
      obtain ⟨j, hj, rfl, HR⟩ := hrel
      by_cases hlt : j < 12
      · have b5 : ((j : Int) < 12) = True := eq_true (by omega)
        have HJ : Hid (j < 12) := hlt
        have HS2 : Hid (∀ W, Below wr.heap.size wr W → W.cell? ⟨w.heap.size, 0, none⟩ = some (.int .i64 x) ∧ W.cell? ⟨w.heap.size, 1, none⟩ = some (.int .i64 y) ∧ W.cell? ⟨w.heap.size, 2, none⟩ = some (.int .i64 z)) := fun W hW => (HR.out.2.1.keep hW).cells
        have hbw := (Below.refl wr.heap.size wr).drew
        have hSa := HS2.out _ hbw
        by_cases hjm : j = m
        · have heq : ∀ W, (binOp .eql 31 (.agg #[.int .i64 x, .int .i64 y, .int .i64 z]) (.agg #[.int .i64 (modeN j), .int .i64 (rateN j), .int .i64 (msN j)])).run Tryd.prog W = .ok (.bool true) W := fun W => by
            rw [eql_cfg, hjm, decide_eq_true (show x = (modeN m : Int) ∧ y = (rateN m : Int) ∧ z = (msN m : Int) from HM.out.2)]
          have hb9 : ((m : Int) == (j : Int)) = true := beq_iff_eq.2 (by omega)
          clear hlt hjm
          go_wp2
          go_region_held3 (fun W => W.cell? ⟨w.heap.size, 0, none⟩ = some (.int .i64 x) ∧ W.cell? ⟨w.heap.size, 1, none⟩ = some (.int .i64 y) ∧ W.cell? ⟨w.heap.size, 2, none⟩ = some (.int .i64 z)) (assumption) (first
            | (go_at_call 19; go_loud (refine (rmode_any j HJ.out _).mono ?_; rintro e w6 ⟨rfl, rfl⟩))
            | (go_at_call 20; go_loud (refine (rrate_any j HJ.out _).mono ?_; rintro e w6 ⟨rfl, hb6⟩; replace hbw := hbw.trans (hb6.mono hbw.size); clear hb6; have hSb := HS2.out _ hbw))
            | (go_at_call 21; go_loud (refine (rms_any j HJ.out _).mono ?_; rintro e w7 ⟨rfl, rfl⟩)))
          all_goals
            go_wp2
            go_ret
            exact ⟨rfl, HR.out.1.trans (hbw.mono HR.out.1.size)⟩
        · have hne := HU.out j hlt hjm
          have heq : ∀ W, (binOp .eql 31 (.agg #[.int .i64 x, .int .i64 y, .int .i64 z]) (.agg #[.int .i64 (modeN j), .int .i64 (rateN j), .int .i64 (msN j)])).run Tryd.prog W = .ok (.bool false) W := fun W => by
            rw [eql_cfg, decide_eq_false (show ¬ (x = (modeN j : Int) ∧ y = (rateN j : Int) ∧ z = (msN j : Int)) from hne)]
          have HJM : Hid (j + 1 ≤ m) := by have := HR.out.2.2; show _ ≤ _; omega
          clear hlt hjm hne
          go_wp2
          go_region_held3 (fun W => W.cell? ⟨w.heap.size, 0, none⟩ = some (.int .i64 x) ∧ W.cell? ⟨w.heap.size, 1, none⟩ = some (.int .i64 y) ∧ W.cell? ⟨w.heap.size, 2, none⟩ = some (.int .i64 z)) (assumption) (first
            | (go_at_call 19; go_loud (refine (rmode_any j HJ.out _).mono ?_; rintro e w6 ⟨rfl, rfl⟩))
            | (go_at_call 20; go_loud (refine (rrate_any j HJ.out _).mono ?_; rintro e w6 ⟨rfl, hb6⟩; replace hbw := hbw.trans (hb6.mono hbw.size); clear hb6; have hSb := HS2.out _ hbw))
            | (go_at_call 21; go_loud (refine (rms_any j HJ.out _).mono ?_; rintro e w7 ⟨rfl, rfl⟩)))
          all_goals
            go_wp2
            go_roundw
            case rel => exact ⟨j + 1, HJ.out, by go_num, HR.out.1.trans (hbw.mono HR.out.1.size), HR.out.2.1.keep hbw, HJM.out⟩
            case measure => have := HJ.out; simp [intOf]; omega
      · obtain rfl : j = 12 := by omega
        exact absurd HR.out.2.2 (by omega)

set_option maxHeartbeats 4000000 in
theorem configs_bn (n : Int) (x y z : Int) (w : World) (hc : CfgAt w) (hn : n < 0 ∨ 11 < n) (hm2 : ∀ j, j < 12 → ¬ isCfg x y z j) :
    Calls Tryd.prog 6 #[.int .i64 n, .agg #[.int .i64 x, .int .i64 y, .int .i64 z]] w fun e w' => e = .returned (.bool true) ∧ Below w.heap.size w w' := by
  have HC : Hid (CfgAt w) := hc
  have HB0 : Hid (∀ o, Below w.heap.size w (w.alloc o)) := fun o => (Below.refl _ _).alloc (Nat.le_refl _) o
  have HN : Hid (n < 0 ∨ 11 < n) := hn
  have hcs : n < 0 ∨ (¬ n < 0 ∧ 11 < n) := by omega
  clear hc hn
  have HU : Hid (∀ j, j < 12 → ¬ isCfg x y z j) := hm2
  clear hm2
  rcases hcs with hcs | ⟨hcs1, hcs⟩
  all_goals
    go_enter Tryd.func6, Tryd.ntmps6
    go_wp2_with (first
      | (go_at_call 9; go_loud (refine (awake_any _ (HC.out.keep (HB0.out _))).mono ?_; rintro e w1 ⟨rfl, hb1⟩; have hR := (row3_new w x y z 31).keep hb1; have hB := boxed hb1; clear hb1))
      | (go_at_call 11; go_loud (refine (of_bad n HN.out _).mono ?_; rintro e w2 ⟨rfl, hb2⟩; replace hR := (hR.keep hb2).alloc (.cells #[.int .i64 0, .int .i64 0, .int .i64 0] 31); obtain ⟨q0, q1, q2⟩ := hR.cells; replace hB := (hB.trans (hb2.mono hB.size)).alloc (by have h8 := hB.size; have h9 := hb2.size; omega) (.cells #[.int .i64 0, .int .i64 0, .int .i64 0] 31); clear hb2))
      | (go_at_call 12; go_loud (refine (number_no x y z HU.out _ (HC.out.keep hB)).mono ?_; rintro e w4 ⟨rfl, hb4⟩; replace hR := hR.keep hb4; replace hB := hB.trans (hb4.mono hB.size); clear hb4)))
    go_loopw [9] (fun i W => ∃ j : Nat, j ≤ 12 ∧ i = .int .i64 j ∧ Hid (Below w.heap.size w W ∧ Row3 W w.heap.size x y z)) (fun i _ => 12 - (intOf i).toNat)
    case atStart => exact ⟨0, Nat.zero_le _, rfl, hB, hR⟩
    case round =>
      clear hB hR
      obtain ⟨j, hj, rfl, HR⟩ := hrel
      by_cases hlt : j < 12
      · have b5 : ((j : Int) < 12) = True := eq_true (by omega)
        have HJ : Hid (j < 12) := hlt
        have HS2 : Hid (∀ W, Below wr.heap.size wr W → W.cell? ⟨w.heap.size, 0, none⟩ = some (.int .i64 x) ∧ W.cell? ⟨w.heap.size, 1, none⟩ = some (.int .i64 y) ∧ W.cell? ⟨w.heap.size, 2, none⟩ = some (.int .i64 z)) := fun W hW => (HR.out.2.keep hW).cells
        have hbw := (Below.refl wr.heap.size wr).drew
        have hSa := HS2.out _ hbw
        have hne := HU.out j hlt
        have heq : ∀ W, (binOp .eql 31 (.agg #[.int .i64 x, .int .i64 y, .int .i64 z]) (.agg #[.int .i64 (modeN j), .int .i64 (rateN j), .int .i64 (msN j)])).run Tryd.prog W = .ok (.bool false) W := fun W => by
          rw [eql_cfg, decide_eq_false (show ¬ (x = (modeN j : Int) ∧ y = (rateN j : Int) ∧ z = (msN j : Int)) from hne)]
        clear hlt hne
        go_wp2
        go_region_held3 (fun W => W.cell? ⟨w.heap.size, 0, none⟩ = some (.int .i64 x) ∧ W.cell? ⟨w.heap.size, 1, none⟩ = some (.int .i64 y) ∧ W.cell? ⟨w.heap.size, 2, none⟩ = some (.int .i64 z)) (assumption) (first
          | (go_at_call 19; go_loud (refine (rmode_any j HJ.out _).mono ?_; rintro e w6 ⟨rfl, rfl⟩))
          | (go_at_call 20; go_loud (refine (rrate_any j HJ.out _).mono ?_; rintro e w6 ⟨rfl, hb6⟩; replace hbw := hbw.trans (hb6.mono hbw.size); clear hb6; have hSb := HS2.out _ hbw))
          | (go_at_call 21; go_loud (refine (rms_any j HJ.out _).mono ?_; rintro e w7 ⟨rfl, rfl⟩)))
        all_goals
          go_wp2
          go_roundw
          case rel => exact ⟨j + 1, HJ.out, by go_num, HR.out.1.trans (hbw.mono HR.out.1.size), HR.out.2.keep hbw⟩
          case measure => have := HJ.out; simp [intOf]; omega
      · obtain rfl : j = 12 := by omega
        go_wp2
        go_ret
        exact ⟨rfl, HR.out.1⟩

theorem tocConfigs.walk (n x y z : Int) (w : World) (_ : (Lit.int .i64 n).wf = true) (_ : (Lit.int .i64 x).wf = true) (_ : (Lit.int .i64 y).wf = true) (_ : (Lit.int .i64 z).wf = true) (hc : CfgAt w) :
    Calls Tryd.prog 6 #[.int .i64 n, .agg #[.int .i64 x, .int .i64 y, .int .i64 z]] w fun e w' => e = .returned (.bool true) ∧ Below w.heap.size w w' := by
  by_cases hf : ∃ m, m < 12 ∧ isCfg x y z m
  · obtain ⟨m, hm, hm2⟩ := hf
    by_cases hn : n < 0 ∨ 11 < n
    · exact configs_bf n x y z w hc hn m hm hm2
    · obtain ⟨k, rfl⟩ := Int.eq_ofNat_of_zero_le (show 0 ≤ n by omega)
      exact configs_gf k x y z w hc (by omega) m hm hm2
  · have hno : ∀ j, j < 12 → ¬ isCfg x y z j := fun j hj h => hf ⟨j, hj, h⟩
    by_cases hn : n < 0 ∨ 11 < n
    · exact configs_bn n x y z w hc hn hno
    · obtain ⟨k, rfl⟩ := Int.eq_ofNat_of_zero_le (show 0 ≤ n by omega)
      exact configs_gn k x y z w hc (by omega) hno

end Go.Proofs.YtgiellpepnbpcaaDoor
