/- The law VadFades answers true: behind any sounds, silence is nobody speaking from the fifth frame on, and the floor is nought. -/
import Derived.Test.YtklpicfeajmadaaVadJ
namespace Go.Proofs.Ytklpicfeajmadaa
open Go.RowKit Vad

theorem lv_80 : levelI (List.replicate 80 0) = 0 := level_silent (fun i => by
  rcases Nat.lt_or_ge i 80 with h | h
  · rw [List.getElem?_replicate, if_pos h]
    rfl
  · rw [List.getElem?_eq_none (by rw [List.length_replicate]; exact h)]
    rfl)

set_option maxRecDepth 100000 in
set_option maxHeartbeats 3200000 in
theorem vadFades.walk (x : Option Addr) (n cap : Nat) (vs : Nat → RowV) (o : Int) (w : World) (hq : GridIn w x n cap vs) (_ : (Lit.int .i64 o).wf = true) :
    Calls Try.prog 5 #[.slice x n cap, .int .i64 o] w fun e w' => e = .returned (.bool true) ∧ Below w.heap.size w w' := by
  obtain ⟨hz, ⟨hm1, hm⟩, _⟩ := Grid.of_in hq
  clear hq
  have HZ : Hid (∀ W, Below w.heap.size w W → Grid W x n vs) := fun W hW => hz.keep hW
  have hm2 : (n : Int) ≤ 9223372036854775807 := by simp only [maxLen] at hm; omega
  have hb := Below.refl w.heap.size w
  clear hz hm hm1
  by_cases hg : n ≤ 30 ∧ 0 ≤ o ∧ o ≤ 60
  · obtain ⟨hn, ho1, ho2⟩ := hg
    obtain ⟨N, rfl⟩ : ∃ N : Nat, o = (N : Int) := ⟨o.toNat, by omega⟩
    have hnI : (n : Int) ≤ 30 := by omega
    go_enter Try.func5, Try.ntmps5
    go_wp2_with (first
      | (go_at_call 7; go_loud (refine (awake_any w).mono ?_; rintro e w1 ⟨rfl, hb1⟩; replace hb := hb.trans (hb1.mono hb.size); clear hb1))
      | (go_at_call 9; go_loud (refine (pNew _).mono ?_; rintro e w2 ⟨p, rfl, hp, hM, hb2⟩; have HP : Hid (w.heap.size ≤ p) := Nat.le_trans hb.size hp; replace hb := hb.trans (hb2.mono hb.size); have HB : Hid (Below w.heap.size w w2 ∧ Mt p ⟨-1, 0⟩ w2) := ⟨hb, hM⟩; clear hb2 hp hM hb)))
    go_loopw [6] (fun y W => ∃ k : Nat, k ≤ n ∧ y = .int .i64 k ∧ Hid (Below w.heap.size w W ∧ ∃ m : MeterI, m.Ok ∧ Mt p m W)) (fun y _ => n - (intOf y).toNat)
    case atStart => exact ⟨0, Nat.zero_le _, rfl, HB.out.1, _, ok_one, HB.out.2⟩
    case round =>
      obtain ⟨k, hk, rfl, HH⟩ := hrel
      by_cases hkn : k < n
      · obtain ⟨hbW, m, hok, hM⟩ := HH.out
        obtain ⟨b, off, rfl, _, hcx⟩ := (HZ.out _ hbW).at_ (by omega)
        have hck := hcx k hkn
        obtain ⟨hzr, hl1, hl2⟩ := (HZ.out _ hbW).row k hkn
        have hkI : (k : Int) < (n : Int) := by omega
        have HS : Hid (Calls Try.prog 13 #[.pointer (some ⟨p, 0, none⟩), .slice (vs k).a (vs k).len (vs k).cap] wr fun e w' => ∃ t, e = .returned (.bool t) ∧ Hid (Below w.heap.size w w' ∧ ∃ m : MeterI, m.Ok ∧ Mt p m w')) :=
          (pStep p m _ _ _ _ wr hM hok hzr hl1 hl2).mono (fun e w' ⟨h1, h2, h3⟩ => ⟨_, h1, hbW.trans (h3.below HP.out hbW.size), _, (MeterI.next_ok hok (levelI_in _).1 (levelI_in _).2).1, h2⟩)
        clear hbW hok hM hcx hzr hl1 hl2 HH
        generalize vs k = r at *
        go_wp2_with (go_at_call 13; go_loud (refine HS.out.mono ?_; rintro e w3 ⟨t, rfl, HH3⟩))
        go_roundw
        case rel => exact ⟨k + 1, by omega, by go_num, HH3⟩
        case measure => simp [intOf]; omega
      · obtain rfl : k = n := by omega
        obtain ⟨hbW, m, hok, hM⟩ := HH.out
        have HOK : Hid m.Ok := hok
        have HM0 : Hid (Below w.heap.size w wr ∧ Mt p (m.still 0) wr) := ⟨hbW, hM⟩
        have HMZ : Hid (∀ W : World, Zs (W.alloc (.cells (madeCells #[.int .i64 0] 80) 2)) (some ⟨W.heap.size, 0, none⟩) 80 (List.replicate 80 0)) := fun W => zs_made W 80 rfl
        have hmk : ∀ W : World, (Instr.makeSlice 28 (.int .i64 80) (.int .i64 80)).run Try.prog W = .ok (.slice (some ⟨W.heap.size, 0, none⟩) 80 80) (W.alloc (.cells (madeCells #[.int .i64 0] 80) 2)) := fun W => run_make_row' (P := Try.prog) 28 2 (.int .i64 0) 8 Try.underlying28 info_int64 rfl .i64 .i64 80 (by decide) (by decide) W
        have HX : Hid (80 ≤ maxLen) := by show _ ≤ _; unfold maxLen; omega
        generalize madeCells #[.int .i64 0] 80 = C at *
        clear hbW hok hM HH HB
        go_wp2
        go_loopw [7] (fun y W => ∃ j : Nat, j ≤ N ∧ y = .int .i64 j ∧ Hid (Below w.heap.size w W ∧ Mt p (m.still j) W)) (fun y _ => N - (intOf y).toNat)
        case atStart => exact ⟨0, Nat.zero_le _, rfl, HM0⟩
        case round =>
          obtain ⟨j, hj, rfl, HH⟩ := hrel
          by_cases hjn : j < N
          · have hjI : (j : Int) < (N : Int) := by omega
            obtain ⟨hbW, hM⟩ := HH.out
            have hok := (MeterI.still_count HOK.out j).1
            have hax := (Below.refl wr.heap.size wr).alloc (Nat.le_refl _) (.cells C 2)
            have ht : 4 ≤ j → (m.still j).told 0 = false := fun h => MeterI.still_told HOK.out h
            have HF : Hid ((m.still (j + 1)).floor = 0) := by
              show ((m.still j).next 0).floor = 0
              rw [(MeterI.silent hok).1]
            have HS : Hid (Calls Try.prog 13 #[.pointer (some ⟨p, 0, none⟩), .slice (some ⟨wr.heap.size, 0, none⟩) 80 80] (wr.alloc (.cells C 2)) fun e w' => e = .returned (.bool ((m.still j).told 0)) ∧ Hid (Below w.heap.size w w' ∧ Mt p (m.still (j + 1)) w')) :=
              (pStep p (m.still j) _ 80 80 _ _ (hM.keep hax) hok (HMZ.out wr) (Nat.le_refl _) HX.out).mono (fun e w' ⟨h1, h2, h3⟩ => by
                rw [lv_80] at h1 h2
                exact ⟨h1, (hbW.trans (hax.mono hbW.size)).trans (h3.below HP.out (Nat.le_trans hbW.size hax.size)), h2⟩)
            have HFL : Hid (∀ W, Mt p (m.still (j + 1)) W → Calls Try.prog 14 #[.pointer (some ⟨p, 0, none⟩)] W fun e w' => e = .returned (.int .i64 0) ∧ w' = W) := fun W h => by
              have := pFloor p _ W h
              rwa [HF.out] at this
            generalize (m.still j).told 0 = t at *
            clear hbW hM hok hax HF HH
            by_cases h4 : 4 ≤ j
            · obtain rfl := ht h4
              have h4I : (4 : Int) ≤ (j : Int) := by omega
              clear ht
              go_wp2_with (first
                | (go_at_call 13; go_loud (refine HS.out.mono ?_; rintro e w3 ⟨rfl, HH3⟩))
                | (go_at_call 14; go_loud (refine (HFL.out _ HH3.out.2).mono ?_; rintro e w4 ⟨rfl, hw4⟩; subst hw4)))
              go_roundw
              case rel => exact ⟨j + 1, by omega, by go_num, HH3⟩
              case measure => simp [intOf]; omega
            · have h4I : ((4 : Int) ≤ (j : Int)) = False := eq_false (by omega)
              clear ht h4
              cases t
              all_goals
                go_wp2_with (first
                  | (go_at_call 13; go_loud (refine HS.out.mono ?_; rintro e w3 ⟨rfl, HH3⟩))
                  | (go_at_call 14; go_loud (refine (HFL.out _ HH3.out.2).mono ?_; rintro e w4 ⟨rfl, hw4⟩; subst hw4)))
                go_roundw
                case rel => exact ⟨j + 1, by omega, by go_num, HH3⟩
                case measure => simp [intOf]; omega
          · obtain rfl : j = N := by omega
            go_wp2
            go_ret
            exact ⟨rfl, HH.out.1⟩
  · go_enter Try.func5, Try.ntmps5
    go_wp2_with (go_at_call 7; go_loud (refine (awake_any w).mono ?_; rintro e w1 ⟨rfl, hb1⟩; replace hb := hb.trans (hb1.mono hb.size); clear hb1))
    all_goals first | (exfalso; omega) | (go_ret; exact ⟨rfl, hb⟩)

end Go.Proofs.Ytklpicfeajmadaa
