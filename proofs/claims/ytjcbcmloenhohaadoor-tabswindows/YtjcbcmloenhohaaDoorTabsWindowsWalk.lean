/- The law of windows answers true, of any length. -/
import Derived.Test.YtjcbcmloenhohaaDoorTabsK
import Derived.Test.YtjcbcmloenhohaaDoorTabsW
namespace Go.Proofs.YtjcbcmloenhohaaDoor
open Go.RowKit

theorem windows_far (l : Int) (w : World) (he : EdgesAt w) (ht : TapsAt w) (h : l < 2 ∨ 480 < l) :
    Calls Tryd.prog 6 #[.int .i64 l] w fun e w' => e = .returned (.bool true) ∧ Below w.heap.size w w' := by
  have h3 : (l < 1 ∧ (winL l).length = 0) ∨ (480 < l ∧ (winL l).length = 0) ∨ (l = 1 ∧ (winL l).length = 1) := by
    by_cases h1 : l < 1
    · exact .inl ⟨h1, by rw [winL, if_pos (.inl h1)]; rfl⟩
    · by_cases h2 : 480 < l
      · exact .inr (.inl ⟨h2, by rw [winL, if_pos (.inr h2)]; rfl⟩)
      · have e : l = 1 := by omega
        subst e
        exact .inr (.inr ⟨rfl, win_len 1 (by decide) (by decide)⟩)
  have hb := Below.refl w.heap.size w
  clear h
  rcases h3 with ⟨h, hl⟩ | ⟨h, hl⟩ | ⟨rfl, hl⟩
  all_goals
    have HL : Hid ((winL _).length = _) := hl
    clear hl
    go_enter Tryd.func6, Tryd.ntmps6
    go_wp2_with (first
      | (go_at_call 9; refine (awake_any _ he ht).mono ?_; rintro e w1 ⟨rfl, hw1⟩; replace hb := hb.trans (hw1.mono hb.size); clear hw1)
      | (go_at_call 24; refine (window_any _ _).mono ?_; rw [HL.out]; rintro e w4 ⟨a4, c4, rfl, hn4, hb4⟩; replace hb := hb.trans (hb4.mono hb.size); clear hb4 hn4))
    go_ret
    exact ⟨rfl, hb⟩

theorem sq_top {a : Int} (h : 0 ≤ a ∧ a ≤ 32768) : 0 ≤ a * a ∧ a * a ≤ 1073741824 :=
  ⟨Int.mul_nonneg h.1 h.1, Int.mul_le_mul h.2 h.2 h.1 (by decide)⟩

set_option maxRecDepth 100000 in
set_option maxHeartbeats 1000000 in
theorem windows_near (n : Nat) (w : World) (he : EdgesAt w) (ht : TapsAt w) (hn : 2 ≤ n ∧ n ≤ 480) (f : Nat → Int) (hz : winL n = (List.range n).map f)
    (hin : ∀ k, k < n → 0 ≤ f k ∧ f k ≤ 32768) (hnear : ∀ k, k < n → Near (f k * f k + f (n - 1 - k) * f (n - 1 - k))) (hup : ∀ k, k + 1 < n → f k ≤ f (k + 1)) :
    Calls Tryd.prog 6 #[.int .i64 (n : Int)] w fun e w' => e = .returned (.bool true) ∧ Below w.heap.size w w' := by
  have HZ : Hid (winL n = (List.range n).map f) := hz
  have HI : Hid (∀ k, k < n → 0 ≤ f k ∧ f k ≤ 32768) := hin
  have HN : Hid (∀ k, k < n → Near (f k * f k + f (n - 1 - k) * f (n - 1 - k))) := hnear
  have HU : Hid (∀ k, k + 1 < n → f k ≤ f (k + 1)) := hup
  have HL : Hid ((winL n).length = n) := win_len n (by omega) (by omega)
  clear hz hin hnear hup
  have hb := Below.refl w.heap.size w
  have hq : ((n : Int) != n) = false := by simp
  go_enter Tryd.func6, Tryd.ntmps6
  go_wp2_with (first
    | (go_at_call 9; refine (awake_any _ he ht).mono ?_; rintro e w1 ⟨rfl, hw1⟩; replace hb := hb.trans (hw1.mono hb.size); clear hw1)
    | (go_at_call 24; refine (window_any _ _).mono ?_; rw [HL.out]; rw [HZ.out]; rintro e w4 ⟨a4, c4, rfl, hn4, hb4⟩; replace hb := hb.trans (hb4.mono hb.size); clear hb4; obtain ⟨bl, rfl, _, _, hc⟩ := hn4.cells (by simp; omega); have HC : Hid (∀ k, k < n → w4.cell? ⟨bl, k, none⟩ = some (.int .i64 (f k))) := fun k hk => (hc k (by simpa using hk)).trans (by rw [map_range_at f n k hk]); clear hc hn4))
  go_loopw [4, 5] (fun k _ W => (∃ d, W = w4.drewN d) ∧ ∃ m : Nat, m ≤ n ∧ k = .int .i64 m) (fun k _ _ => n - (intOf k).toNat)
  case atStart => exact ⟨⟨0, rfl⟩, 0, Nat.zero_le _, rfl⟩
  case round =>
    obtain ⟨⟨d, rfl⟩, m, hm, rfl⟩ := hrel
    by_cases hlt : m < n
    · have hc1 := HC.out m hlt
      have hc2 := HC.out (n - 1 - m) (by omega)
      have i1 := HI.out m hlt
      have i2 := HI.out (n - 1 - m) (by omega)
      have s1 := sq_top i1
      have s2 := sq_top i2
      have hne := HN.out m hlt
      unfold Near at hne
      by_cases h0 : m = 0
      · subst h0
        simp only [Nat.sub_zero] at hc2 i2 s2 hne
        generalize f 0 = x at *
        generalize f (n - 1) = y at *
        have q1 : decide (524288 < x * x + y * y - 1073741824) = false := decide_eq_false (by omega)
        have q2 : decide (x * x + y * y - 1073741824 < -524288) = false := decide_eq_false (by omega)
        have q3 : decide (x < 0) = false := decide_eq_false (by omega)
        have q4 : decide (32768 < x) = false := decide_eq_false (by omega)
        clear hne
        go_wp2
        go_quiet (fail)
        all_goals
          go_wp2
          go_quiet (fail)
          all_goals
            go_wp2
            go_roundw
            case rel => exact ⟨⟨_, rfl⟩, 1, by omega, rfl⟩
            case measure => simp [intOf]; omega
      · have hu := HU.out (m - 1) (by omega)
        rw [show m - 1 + 1 = m by omega] at hu
        have hc3 := HC.out (m - 1) (by omega)
        generalize f m = x at *
        generalize f (n - 1 - m) = y at *
        generalize f (m - 1) = z at *
        have q1 : decide (524288 < x * x + y * y - 1073741824) = false := decide_eq_false (by omega)
        have q2 : decide (x * x + y * y - 1073741824 < -524288) = false := decide_eq_false (by omega)
        have q3 : decide (x < 0) = false := decide_eq_false (by omega)
        have q4 : decide (32768 < x) = false := decide_eq_false (by omega)
        have q5 : decide (x < z) = false := decide_eq_false (by omega)
        have q6 : decide (0 < m) = true := decide_eq_true (by omega)
        clear hne hu
        go_wp2
        go_quiet (fail)
        all_goals
          go_wp2
          go_quiet (fail)
          all_goals
            go_wp2
            go_roundw
            case rel => exact ⟨⟨_, rfl⟩, m + 1, by omega, by go_num⟩
            case measure => simp [intOf]; omega
    · go_wp2
      go_ret
      exact ⟨rfl, below_drewN hb d⟩

theorem tabsWindows.walk (l : Int) (w : World) (_w0 : (Lit.int .i64 l).wf = true) (hr : EdgesAt w ∧ TapsAt w) :
    Calls Tryd.prog 6 #[.int .i64 l] w fun e w' => e = .returned (.bool true) ∧ Below w.heap.size w w' := by
  by_cases h : l < 2 ∨ 480 < l
  · exact windows_far l w hr.1 hr.2 h
  · obtain ⟨n, rfl⟩ := Int.eq_ofNat_of_zero_le (show 0 ≤ l by omega)
    refine windows_near n w hr.1 hr.2 (by omega) (winAt n) (winL_some (by omega) (by omega)) (fun k hk => ?_) (fun k hk => ?_) (fun k hk => ?_)
    · rw [winAt_is hk]; exact hN_in (angN_le hk)
    · rw [winAt_is hk, winAt_is (show n - 1 - k < n by omega)]
      exact near_all (ang_mirror hk) (angN_le hk) (angN_le (by omega))
    · rw [winAt_is hk, winAt_is (show k < n by omega)]
      have h1 := ang_mono n k
      have h2 := hN_mono (angN n k) (angN n (k + 1) - angN n k) (by have := angN_le hk; omega)
      rw [show angN n k + (angN n (k + 1) - angN n k) = angN n (k + 1) by omega] at h2
      exact h2

end Go.Proofs.YtjcbcmloenhohaaDoor
