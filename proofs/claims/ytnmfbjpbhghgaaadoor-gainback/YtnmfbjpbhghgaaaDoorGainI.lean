/- Package gain, how a voice repeats, written. -/
import Derived.Test.YtnmfbjpbhghgaaaDoorGainH
namespace Go.Proofs.YtnmfbjpbhghgaaaDoor
open Go.RowKit

def ltpW (L M lag taps : Int) : List Wr := [uintX (M - L + 1) (lag - L), symX (icdfL 6) taps]

theorem ltpW_ok {L M lag taps : Int} (hM : M ≤ 1000) (h0 : 0 ≤ L) (h1 : L ≤ lag) (h2 : lag ≤ M) (h3 : 0 ≤ taps) (h4 : taps ≤ 7) : ∀ x ∈ ltpW L M lag taps, okX x := fun x hx => by
  unfold ltpW at hx
  rcases List.mem_cons.1 hx with rfl | hx
  · exact .inr ⟨rfl, by show 1 ≤ M - L + 1; omega, by show M - L + 1 ≤ 4294967295; omega, by show 0 ≤ lag - L; omega, by show lag - L < M - L + 1; omega⟩
  · obtain rfl : x = symX (icdfL 6) taps := by simpa using hx
    exact .inl ⟨rfl, good6, h3, by show taps < ((icdfL 6).length : Nat); rw [show (icdfL 6).length = 8 by decide]; omega⟩

def MayLtp (rate lag taps : Int) : Prop := 0 < mostI rate ∧ leastI rate ≤ lag ∧ lag ≤ mostI rate ∧ 0 ≤ taps ∧ taps ≤ 7

theorem writeLtp_bad (p : Nat) (rate lag taps : Int) (w : World) (h : ¬ MayLtp rate lag taps) :
    Calls Tryd.prog 13 #[.pointer (some ⟨p, 0, none⟩), .int .i64 rate, .agg #[.int .i64 lag, .int .i64 taps]] w fun e w' => e = .returned (.int .i64 1) ∧ Below w.heap.size w w' := by
  unfold MayLtp at h
  have HL : Hid (∀ W, Calls Tryd.prog 10 #[.int .i64 rate] W fun e w' => e = .returned (.tuple #[.int .i64 (leastI rate), .int .i64 (mostI rate)]) ∧ w' = W) := fun W => lags_any rate W
  obtain ⟨hl0, hl1, hl2, _⟩ := lagsZ rate
  generalize leastI rate = L at *
  generalize mostI rate = M at *
  have HB : Hid (∀ o, Below w.heap.size w (w.alloc o)) := fun o => (Below.refl _ _).alloc (Nat.le_refl _) o
  by_cases h1 : M = 0
  · have g1 : (M == 0) = true := beq_iff_eq.2 h1
    clear h h1
    go_enter Tryd.func13, Tryd.ntmps13
    go_wp2_with (go_at_call 10; go_loud (refine (HL.out _).mono ?_; rintro e w1 ⟨rfl, rfl⟩))
    go_quiet (fail)
    go_wp2
    go_ret
    exact ⟨rfl, Below.drewN (HB.out _) _⟩
  have g1 : (M == 0) = false := beq_eq_false_iff_ne.2 h1
  by_cases h2 : lag < L
  · clear h h1
    go_enter Tryd.func13, Tryd.ntmps13
    go_wp2_with (go_at_call 10; go_loud (refine (HL.out _).mono ?_; rintro e w1 ⟨rfl, rfl⟩))
    go_quiet (fail)
    go_wp2
    go_ret
    exact ⟨rfl, Below.drewN (HB.out _) _⟩
  by_cases h3 : M < lag
  · clear h h1
    go_enter Tryd.func13, Tryd.ntmps13
    go_wp2_with (go_at_call 10; go_loud (refine (HL.out _).mono ?_; rintro e w1 ⟨rfl, rfl⟩))
    go_quiet (fail)
    go_wp2
    go_ret
    exact ⟨rfl, Below.drewN (HB.out _) _⟩
  by_cases h4 : taps < 0
  · clear h h1
    go_enter Tryd.func13, Tryd.ntmps13
    go_wp2_with (go_at_call 10; go_loud (refine (HL.out _).mono ?_; rintro e w1 ⟨rfl, rfl⟩))
    go_quiet (fail)
    go_wp2
    go_ret
    exact ⟨rfl, Below.drewN (HB.out _) _⟩
  · have h5 : 8 ≤ taps := by omega
    clear h h1
    go_enter Tryd.func13, Tryd.ntmps13
    go_wp2_with (go_at_call 10; go_loud (refine (HL.out _).mono ?_; rintro e w1 ⟨rfl, rfl⟩))
    go_quiet (first | (go_at_call 36; exact Calls.quiet_of_same (filters_any _)))
    go_wp2
    go_ret
    exact ⟨rfl, Below.drewN (HB.out _) _⟩

set_option maxHeartbeats 3200000 in
theorem writeLtp_any (S : Nat → Prop) (p : Nat) (s : Es) (rate lag taps : Int) (w : World) (h : Wd S p s w) (hi : InvE s) (hc : s.cnt ≤ 1000000000000) (hm : MayLtp rate lag taps) :
    Calls Tryd.prog 13 #[.pointer (some ⟨p, 0, none⟩), .int .i64 rate, .agg #[.int .i64 lag, .int .i64 taps]] w fun e w' => e = .returned (.int .i64 0) ∧ ∃ S', Wd S' p (putsX (ltpW (leastI rate) (mostI rate) lag taps) s) w' ∧ Went S w S' w' := by
  have HL : Hid (∀ W, Calls Tryd.prog 10 #[.int .i64 rate] W fun e w' => e = .returned (.tuple #[.int .i64 (leastI rate), .int .i64 (mostI rate)]) ∧ w' = W) := fun W => lags_any rate W
  obtain ⟨hl0, hl1, hl2, _⟩ := lagsZ rate
  obtain ⟨h1, h2, h3, h4, h5⟩ := hm
  generalize leastI rate = L at *
  generalize mostI rate = M at *
  have HOK : Hid (∀ x ∈ ltpW L M lag taps, okX x) := ltpW_ok (by omega) hl0 h2 h3 h4 h5
  have g1 : (M == 0) = false := beq_eq_false_iff_ne.2 (by omega)
  have HP : Hid (∀ nq, Pair ((w.alloc (.cells #[.int .i64 lag, .int .i64 taps] 32)).drewN nq) w.heap.size (.int .i64 lag) (.int .i64 taps) ∧ Wd S p s ((w.alloc (.cells #[.int .i64 lag, .int .i64 taps] 32)).drewN nq) ∧ Went S w S ((w.alloc (.cells #[.int .i64 lag, .int .i64 taps] 32)).drewN nq)) := fun nq =>
    ⟨(Pair.new _ _ _).drewN nq, (h.keep ((Below.refl _ _).alloc (Nat.le_refl _) _)).drewN nq, ((Went.refl S w).alloc _).drewN nq⟩
  clear h
  go_enter Tryd.func13, Tryd.ntmps13
  go_wp2_with (go_at_call 10; go_loud (refine (HL.out _).mono ?_; rintro e w1 ⟨rfl, rfl⟩))
  go_quiet (first | (go_at_call 36; exact Calls.quiet_of_same (filters_any _)))
  go_wp2
  have HQ := HP.out nq
  clear HP HL
  generalize ((w.alloc (.cells #[.int .i64 lag, .int .i64 taps] 32)).drewN nq) = W0 at *
  obtain ⟨hq0, hq1⟩ := HQ.1.cells
  have hglt := HQ.1.lt
  have HD : Hid (Wd S p s W0 ∧ Went S w S W0) := HQ.2
  clear HQ
  generalize w.heap.size = g at *
  have hlw : IntKind.i64.wrap (lag - L) = lag - L := by rw [IntKind.wrap_i64]; omega
  go_region_with (first
    | (go_at_call 37; go_loud (refine (repeated_any L M taps (lag - L) _ hl0 hl1 (by omega)).mono ?_; rintro e w1 ⟨a1, rfl, ht, hb1⟩; first
        | (have q0 := (hb1.cell (p := ⟨g, 0, none⟩) hglt).trans hq0; have q1 := (hb1.cell (p := ⟨g, 1, none⟩) hglt).trans hq1)
        | skip))
    | (go_at_call 34; go_loud (first
        | (refine (write_after [lag - L, taps] S p s a1 2 (ltpW L M lag taps) W0 w1 _ HD.out.1 hi hc (by first | exact hb1 | exact ((Below.refl _ _).drew).trans hb1 | exact (Below.drewN (Below.refl _ _) _).trans hb1) ht (by first | exact Below.refl _ _ | exact Below.drewN (Below.refl _ _) _ | exact (Below.refl _ _).drew) rfl HOK.out rfl rfl).mono ?_; rintro e w3 ⟨rfl, S2, hd2, hw2⟩)
        | (refine (write_before [lag - L, taps] S p s a1 2 (ltpW L M lag taps) W0 W0 w1 _ HD.out.1 hi hc (Below.refl _ _) rfl ht (by first | exact hb1 | exact ((Below.refl _ _).drew).trans hb1 | exact (Below.drewN (Below.refl _ _) _).trans hb1) (by first | exact Below.refl _ _ | exact Below.drewN (Below.refl _ _) _ | exact (Below.refl _ _).drew) rfl HOK.out rfl).mono ?_; rintro e w3 ⟨rfl, S2, hd2, hw2⟩))))
  all_goals
    go_wp2
    go_ret
    exact ⟨rfl, S2, hd2, HD.out.2.trans hw2⟩

end Go.Proofs.YtnmfbjpbhghgaaaDoor
