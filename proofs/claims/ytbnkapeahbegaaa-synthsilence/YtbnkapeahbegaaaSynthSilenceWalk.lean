/- The law of silence answers true. -/
import Derived.Test.YtbnkapeahbegaaaSynW
namespace Go.Proofs.Ytbnkapeahbegaaa
open Go.RowKit
set_option linter.unusedVariables false

theorem silence_many (a : Option Addr) (len cap : Nat) (n : Int) (fa : Option Addr) (fn fcap : Nat) (w : World) (h5 : ((5 : Int) < len) = True) (h63 : len ≤ 9223372036854775807) :
    Calls Try.prog 6 #[.slice a len cap, .int .i64 n, .slice fa fn fcap] w fun e w' => e = .returned (.bool true) ∧ Below w.heap.size w w' := by
  go_enter Try.func6, Try.ntmps6
  go_wp2_with (go_at_call 9; refine (awake_any _).mono ?_; rintro e w1 ⟨rfl, hB1⟩)
  go_ret
  exact ⟨rfl, hB1⟩
theorem silence_less (a : Option Addr) (len cap : Nat) (n : Int) (fa : Option Addr) (fn fcap : Nat) (w : World) (h5 : ((5 : Int) < len) = False) (h63 : len ≤ 9223372036854775807) (hn : (n < (1 : Int)) = True) :
    Calls Try.prog 6 #[.slice a len cap, .int .i64 n, .slice fa fn fcap] w fun e w' => e = .returned (.bool true) ∧ Below w.heap.size w w' := by
  go_enter Try.func6, Try.ntmps6
  go_wp2_with (go_at_call 9; refine (awake_any _).mono ?_; rintro e w1 ⟨rfl, hB1⟩)
  go_ret
  exact ⟨rfl, hB1⟩
theorem silence_more (a : Option Addr) (len cap : Nat) (n : Int) (fa : Option Addr) (fn fcap : Nat) (w : World) (h5 : ((5 : Int) < len) = False) (h63 : len ≤ 9223372036854775807) (hn : (n < (1 : Int)) = False) (hn2 : ((100 : Int) < n) = True) :
    Calls Try.prog 6 #[.slice a len cap, .int .i64 n, .slice fa fn fcap] w fun e w' => e = .returned (.bool true) ∧ Below w.heap.size w w' := by
  go_enter Try.func6, Try.ntmps6
  go_wp2_with (go_at_call 9; refine (awake_any _).mono ?_; rintro e w1 ⟨rfl, hB1⟩)
  go_ret
  exact ⟨rfl, hB1⟩
theorem silence_long (a : Option Addr) (len cap : Nat) (n : Int) (fa : Option Addr) (fn fcap : Nat) (w : World) (h5 : ((5 : Int) < len) = False) (h63 : len ≤ 9223372036854775807) (hn : (n < (1 : Int)) = False) (hn2 : ((100 : Int) < n) = False) (hf : ((32 : Int) < fn) = True) (hf63 : fn ≤ 9223372036854775807) :
    Calls Try.prog 6 #[.slice a len cap, .int .i64 n, .slice fa fn fcap] w fun e w' => e = .returned (.bool true) ∧ Below w.heap.size w w' := by
  go_enter Try.func6, Try.ntmps6
  go_wp2_with (go_at_call 9; refine (awake_any _).mono ?_; rintro e w1 ⟨rfl, hB1⟩)
  go_ret
  exact ⟨rfl, hB1⟩

theorem withinB_zeros (m : Int) (hm : 0 ≤ m) (n : Nat) : withinB m (zeros n) = true := by
  unfold withinB zeros
  rw [List.all_eq_true]
  intro x hx
  have := List.eq_of_mem_replicate hx
  subst this
  exact decide_eq_true ⟨by omega, hm⟩
theorem quiet_good {n : Nat} {f : List Int} (h1 : 1 ≤ n) (h2 : n ≤ 100) (h3 : f.length ≤ 32) : goodB (zeros n) 5 20 [9, 9, 9, 9, 9] f = withinB 131072 f := by
  unfold goodB
  rw [zeros_len, decide_eq_true h1, decide_eq_true (show n ≤ 480 by omega), withinB_zeros 16 (by decide), decide_eq_true h3, show lagB 20 = true from by decide, show withinB 128 [9, 9, 9, 9, 9] = true from by decide]
  rfl
theorem quiet_sounds (p : PartP) (n : Nat) : soundsL p (zeros n) (zeros 320) (zeros 32) = zeros n := by
  unfold soundsL
  rw [zeros_reverse, zeros_reverse]
  exact runS_nought p n _ _ (zeros_nought _) (zeros_nought _)

/-- The last run of the law: a silent voice, no pulses. -/
theorem run_quiet (p : Nat) (g n : Nat) (fa : Option Addr) (fn fcap : Nat) (f : List Int) (w : World) (hv : Vo p (zeros 320) (zeros 32) w) (hz : Zs w (some ⟨g, 0, none⟩) n (zeros n)) (hf : Zs w fa fn f) (h1 : 1 ≤ n) (h2 : n ≤ 100) (h3 : fn ≤ 32) :
    Calls Try.prog 11 #[.pointer (some ⟨p, 0, none⟩), .agg #[.slice (some ⟨g, 0, none⟩) n n, .int .i64 5, .int .i64 20, .int .i64 9, .int .i64 9, .int .i64 9, .int .i64 9, .int .i64 9, .slice fa fn fcap]] w fun e w' =>
      ∃ a' n' x, e = .returned (.tuple #[.slice a' n' n', .int .i64 x]) ∧ (x = 1 ∨ x = 0 ∧ n' = n ∧ Zs w' a' n (zeros n)) ∧ Turn p w w' := by
  have hq := quiet_good h1 h2 (show f.length ≤ 32 by rw [hf.len]; exact h3)
  cases hw : withinB 131072 f with
  | false =>
    rw [hw] at hq
    refine (run_bad p (some ⟨g, 0, none⟩) n n (zeros n) 5 20 9 9 9 9 9 fa fn fcap f w hz hf (by omega) (by omega) hq).mono ?_
    rintro e w' ⟨rfl, hb⟩
    exact ⟨none, 0, 1, rfl, .inl rfl, .of_below hb⟩
  | true =>
    rw [hw] at hq
    refine (run_good p (zeros 320) (zeros 32) (some ⟨g, 0, none⟩) n n (zeros n) 5 20 9 9 9 9 9 fa fn fcap f w hv hz hf hq).mono ?_
    rintro e w' ⟨g', rfl, _, hz', _, ht⟩
    rw [quiet_sounds] at hz'
    exact ⟨_, n, 0, rfl, .inr ⟨rfl, rfl, hz'⟩, ht⟩

set_option maxRecDepth 100000 in
set_option maxHeartbeats 4000000 in
theorem silence_near (a : Option Addr) (len cap : Nat) (vs : Nat → PartV) (n : Nat) (fa : Option Addr) (fn fcap : Nat) (f : List Int) (w : World) (h5 : len ≤ 5) (hps : 0 < len → ∃ b off, a = some ⟨b, off, none⟩ ∧ ∀ i, i < len → PartIn w (vs i) ∧ PartCells w b (off + i * 9) (vs i)) (hn1 : 1 ≤ n) (hn2 : n ≤ 100) (hf : Zs w fa fn f) (hfn : fn ≤ 32) :
    Calls Try.prog 6 #[.slice a len cap, .int .i64 (n : Int), .slice fa fn fcap] w fun e w' => e = .returned (.bool true) ∧ Below w.heap.size w w' := by
  have g1 : ((5 : Int) < len) = False := eq_false (by omega)
  have g2 : ((n : Int) < 1) = False := eq_false (by omega)
  have g3 : ((100 : Int) < n) = False := eq_false (by omega)
  have g4 : ((32 : Int) < fn) = False := eq_false (by omega)
  have HP : Hid (0 < len → ∃ b off, a = some ⟨b, off, none⟩ ∧ ∀ i, i < len → PartIn w (vs i) ∧ PartCells w b (off + i * 9) (vs i)) := hps
  have HF : Hid (∀ W, Below w.heap.size w W → Zs W fa fn f) := fun W h => hf.keep h
  have HN : Hid (1 ≤ n ∧ n ≤ 100 ∧ fn ≤ 32) := ⟨hn1, hn2, hfn⟩
  have hmk := fun W : World => run_make_row' (P := Try.prog) 25 2 (.int .i64 0) 8 Try.underlying25 info_int64 rfl .i64 .i64 n (by omega) (by omega) W
  have y1 : Hid True := trivial
  clear hps hf
  go_enter Try.func6, Try.ntmps6
  go_wp2_with (first
    | (go_at_call 9; refine (awake_any _).mono ?_; rintro e w1 ⟨rfl, hB1⟩)
    | (go_at_call 10; clear y1; refine (new_is _).mono ?_; rintro e w2 ⟨p, rfl, hp, hv2, hb2⟩; have HB2 : Hid (Below w.heap.size w w2 ∧ Vo p (zeros 320) (zeros 32) w2) := ⟨hB1.trans (hb2.mono hB1.size), hv2⟩; have HPP : Hid (w.heap.size ≤ p) := Nat.le_trans hB1.size hp; clear hb2 hB1 hp hv2))
  go_loopw [8] (fun i W => ∃ (k : Nat) (D E : List Int), k ≤ len ∧ i = .int .i64 k ∧ Hid (Below w.heap.size w W ∧ Vo p D E W)) (fun i _ => len - (intOf i).toNat)
  case atStart => exact ⟨0, _, _, Nat.zero_le _, rfl, HB2⟩
  case round =>
    clear HB2
    obtain ⟨k, D, E, hk, rfl, HH⟩ := hrel
    by_cases hlt : k < len
    · obtain ⟨b, off, rfl, hall⟩ := HP.out (by omega)
      obtain ⟨hin, hcells⟩ := hall k hlt
      have HIN : Hid (PartIn wr (vs k)) := hin.keep HH.out.1
      obtain ⟨d0, d1, d2, d3, d4, d5, d6, d7, d8⟩ := hcells.keep HH.out.1
      clear hall hin hcells HP HF HN hmk
      generalize vs k = v at *
      go_wp2_with (go_at_call 11; refine (run_part p D E v _ HH.out.2 HIN.out).mono ?_; rintro e w3 ⟨a3, n3, x3, os, D3, E3, rfl, hn3, hz3, hos, hv3, ht3⟩; have HB3 : Hid (Below w.heap.size w w3 ∧ Vo p D3 E3 w3) := ⟨HH.out.1.trans (ht3.below HPP.out HH.out.1.size), hv3⟩; clear hz3 hos hv3 ht3 d0 d1 d2 d3 d4 d5 d6 d7 d8)
      go_roundw
      case rel => exact ⟨k + 1, D3, E3, by omega, by go_num, HB3⟩
      case measure => simp [intOf]; omega
    · have hlt' : ((k : Int) < len) = False := eq_false (by omega)
      clear HP
      go_wp2_with (first
        | (go_at_call 20; go_loud (refine (reset_any p _ _ _ HH.out.2).mono ?_; rintro e w4 ⟨⟨rv, rfl⟩, hv4, ht4⟩; have HB4 : Hid (Below w.heap.size w w4 ∧ Vo p (zeros 320) (zeros 32) w4) := ⟨HH.out.1.trans (ht4.below HPP.out HH.out.1.size), hv4⟩; clear hv4 ht4))
        | (go_at_call 10; go_loud (refine (new_is _).mono ?_; rintro e w5 ⟨p5, rfl, hp5, hn5, hb5⟩; have HB5 : Hid (Below w.heap.size w w5 ∧ Vo p (zeros 320) (zeros 32) w5 ∧ Vo p5 (zeros 320) (zeros 32) w5) := ⟨HB4.out.1.trans (hb5.mono HB4.out.1.size), HB4.out.2.keep hb5, hn5⟩; clear hn5 hb5))
        | (go_at_call 12; go_loud (refine (same_yes _ _ _ _ _ HB5.out.2.1 HB5.out.2.2).mono ?_; rintro e w6 ⟨rfl, hb6⟩; have HB6 : Hid (Below w.heap.size w w6 ∧ Vo p (zeros 320) (zeros 32) w6) := ⟨HB5.out.1.trans (hb6.mono HB5.out.1.size), HB5.out.2.1.keep hb6⟩; clear hb6))
        | (go_at_call 11; go_loud (refine (run_quiet p _ n fa fn fcap f _ (HB6.out.2.alloc _) (zs_made w6 n rfl) (HF.out _ (HB6.out.1.alloc HB6.out.1.size _)) HN.out.1 HN.out.2.1 HN.out.2.2).mono ?_; rintro e w7 ⟨a7, n7, x7, rfl, hx7, ht7⟩; have HB7 : Hid (Below w.heap.size w w7) := (HB6.out.1.alloc HB6.out.1.size _).trans (ht7.below HPP.out (HB6.out.1.alloc HB6.out.1.size _).size); have HX7 : Hid (x7 = 1 ∨ x7 = 0 ∧ n7 = n ∧ Zs w7 a7 n (zeros n)) := hx7; clear hx7 ht7)))
      · rcases HX7.out with h | ⟨h, _⟩
        · subst h
          go_ret
          exact ⟨rfl, HB7.out⟩
        · subst h
          exfalso
          simp_all
      · rcases HX7.out with h | ⟨h, h2, hz7⟩
        · subst h
          exfalso
          simp_all
        · subst h
          subst h2
          have HZ7 : Hid (Zs w7 a7 n7 (zeros n7)) := hz7
          clear HX7 hz7
          go_wp2_with (go_at_call 17; go_loud (refine (zsame_any a7 _ n7 _ _ (zeros n7) _ (HZ7.out.alloc _) (zs_made w7 n7 rfl) (by omega)).mono ?_; rintro e _ ⟨rfl, d8, rfl⟩))
          go_ret
          exact ⟨rfl, below_drewN (HB7.out.alloc HB7.out.size _) d8⟩

theorem synthSilence.walk (a : Option Addr) (len cap : Nat) (vs : Nat → PartV) (n : Int) (fa : Option Addr) (fn fcap : Nat) (f : List Int) (w : World) (h : PartsAt w a len cap vs) (_hn : (Lit.int .i64 n).wf = true) (hf : IsRow .i64 w fa fn fcap f) :
    Calls Try.prog 6 #[.slice a len cap, .int .i64 n, .slice fa fn fcap] w fun e w' => e = .returned (.bool true) ∧ Below w.heap.size w w' := by
  obtain ⟨h1, h2⟩ := parts_in h
  obtain ⟨hz, hm, _⟩ := Zs.of_isRow hf
  unfold maxLen at hm
  by_cases c1 : 5 < len
  · exact silence_many a len cap n fa fn fcap w (eq_true (by omega)) h1
  · by_cases c2 : n < 1
    · exact silence_less a len cap n fa fn fcap w (eq_false (by omega)) h1 (eq_true c2)
    · by_cases c3 : 100 < n
      · exact silence_more a len cap n fa fn fcap w (eq_false (by omega)) h1 (eq_false c2) (eq_true c3)
      · by_cases c4 : 32 < fn
        · exact silence_long a len cap n fa fn fcap w (eq_false (by omega)) h1 (eq_false c2) (eq_false c3) (eq_true (by omega)) (by omega)
        · obtain ⟨m, rfl⟩ : ∃ m : Nat, n = (m : Int) := ⟨n.toNat, by omega⟩
          exact silence_near a len cap vs m fa fn fcap _ w (by omega) h2 (by omega) (by omega) hz (by omega)

end Go.Proofs.Ytbnkapeahbegaaa
