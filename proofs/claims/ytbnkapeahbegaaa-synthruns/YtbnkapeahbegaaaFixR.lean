/- What the document's own answers of chapter 1 (the reference) come to: the same whole numbers as the program's: clamps, products, quotients, sums, lengths. -/
import Derived.Test.YtbnkapeahbegaaaFixC
namespace Go.Proofs.Ytbnkapeahbegaaa
open Go.RowKit

theorem rclamp_any (a lo hi : Int) (w : World) :
    Calls Try.prog 34 #[.int .i64 a, .int .i64 lo, .int .i64 hi] w fun e w' => e = .returned (.int .i64 (clampI a lo hi)) ∧ w' = w := by
  unfold clampI
  by_cases h1 : a < lo
  · go_enter Try.func34, Try.ntmps34
    go_wp2
    go_ret
    simp
  · by_cases h2 : hi < lo
    · go_enter Try.func34, Try.ntmps34
      go_wp2
      go_ret
      simp
    · by_cases h3 : hi < a
      all_goals
        go_enter Try.func34, Try.ntmps34
        go_wp2
        go_ret
        simp

theorem rsat16_any (a : Int) (w : World) :
    Calls Try.prog 31 #[.int .i64 a] w fun e w' => e = .returned (.int .i64 (clampI a (-32768) 32767)) ∧ w' = w := by
  go_enter Try.func31, Try.ntmps31
  go_wp2_with (go_at_call 34; refine (rclamp_any _ _ _ _).mono ?_; rintro e w' ⟨rfl, rfl⟩)
  go_ret
  exact ⟨rfl, rfl⟩

theorem pow_half (s : Int) (h1 : 0 ≤ s) (h3 : ¬ s = 0) : (2 : Int) ^ s.toNat = 2 * 2 ^ (s.toNat - 1) := by
  obtain ⟨n, hn⟩ : ∃ n, s.toNat = n + 1 := ⟨s.toNat - 1, by omega⟩
  rw [hn, Int.pow_succ, Int.mul_comm]
  rfl

theorem round_up {p H Q : Int} (hH : 1 ≤ H) (hQ : Q = p / (2 * H)) : (H ≤ p - Q * (2 * H) → Q + 1 = (p + H) / (2 * H)) ∧ (p - Q * (2 * H) < H → Q = (p + H) / (2 * H)) := by
  have k1 := Int.ediv_mul_le p (show 2 * H ≠ 0 by omega)
  have k2 := Int.lt_ediv_add_one_mul_self p (show 0 < 2 * H by omega)
  rw [← hQ] at k1 k2
  rw [Int.add_mul, Int.one_mul] at k2
  constructor
  · intro h
    refine ((Int.ediv_emod_unique (a := p + H) (b := 2 * H) (r := p + H - (Q + 1) * (2 * H)) (q := Q + 1) (by omega)).2 ?_).1.symm
    rw [Int.add_mul, Int.one_mul]
    refine ⟨?_, by omega, by omega⟩
    rw [Int.mul_comm (2 * H) (Q + 1), Int.add_mul, Int.one_mul]
    omega
  · intro h
    refine ((Int.ediv_emod_unique (a := p + H) (b := 2 * H) (r := p + H - Q * (2 * H)) (q := Q) (by omega)).2 ?_).1.symm
    refine ⟨?_, by omega, by omega⟩
    rw [Int.mul_comm (2 * H) Q]
    omega

theorem rmul_any (a b s : Int) (w : World) :
    Calls Try.prog 27 #[.int .i64 a, .int .i64 b, .int .i64 s] w fun e w' => e = .returned (.int .i64 (mulI a b s)) ∧ w' = w := by
  have hp := prod_in (cf_in a) (cf_in b)
  have hca : clampI a (-2147483648) 2147483648 = cf a := rfl
  have hcb : clampI b (-2147483648) 2147483648 = cf b := rfl
  by_cases h1 : s < 0
  · have e : mulI a b s = 0 := by simp [mulI, h1]
    rw [e]; clear e
    go_enter Try.func27, Try.ntmps27
    go_wp2_with (go_at_call 34; refine (rclamp_any _ _ _ _).mono ?_; rintro e w' ⟨rfl, rfl⟩)
    go_ret
    exact ⟨rfl, rfl⟩
  · by_cases h2 : 62 < s
    · have e : mulI a b s = 0 := by simp [mulI, h2]
      rw [e]; clear e
      go_enter Try.func27, Try.ntmps27
      go_wp2_with (go_at_call 34; refine (rclamp_any _ _ _ _).mono ?_; rintro e w' ⟨rfl, rfl⟩)
      go_ret
      exact ⟨rfl, rfl⟩
    · by_cases h3 : s = 0
      · subst h3
        have e : mulI a b 0 = cf a * cf b := by simp [mulI]
        rw [e]; clear e
        go_enter Try.func27, Try.ntmps27
        go_wp2_with (go_at_call 34; refine (rclamp_any _ _ _ _).mono ?_; rintro e w' ⟨rfl, rfl⟩)
        go_ret
        exact ⟨rfl, rfl⟩
      · have e : mulI a b s = (cf a * cf b + 2 ^ (s.toNat - 1)) / 2 ^ s.toNat := by simp [mulI, h1, h2, h3]
        have hq := pow2_in (s.toNat - 1) (by omega)
        have hh := pow_half s (by omega) h3
        have hr := @round_up (cf a * cf b) (2 ^ (s.toNat - 1)) (cf a * cf b / 2 ^ s.toNat) hq.1 (by rw [← hh])
        rw [← hh, ← e] at hr
        have k1 := Int.ediv_mul_le (cf a * cf b) (show (2 : Int) ^ s.toNat ≠ 0 by omega)
        have k2 := Int.lt_ediv_add_one_mul_self (cf a * cf b) (show (0 : Int) < 2 ^ s.toNat by omega)
        rw [Int.add_mul, Int.one_mul] at k2
        have HE := hr.1
        have HE2 := hr.2
        clear hr e
        have hqb : -4611686018427387904 ≤ cf a * cf b / 2 ^ s.toNat ∧ cf a * cf b / 2 ^ s.toNat ≤ 4611686018427387904 := by
          constructor
          · refine (Int.le_ediv_iff_mul_le (by omega)).2 ?_
            have : (4611686018427387904 : Int) * 1 ≤ 4611686018427387904 * 2 ^ s.toNat := Int.mul_le_mul_of_nonneg_left (by omega) (by decide)
            omega
          · have h5 : cf a * cf b / 2 ^ s.toNat < 4611686018427387905 := by
              refine (Int.ediv_lt_iff_lt_mul (by omega)).2 ?_
              have : (4611686018427387905 : Int) * 1 ≤ 4611686018427387905 * 2 ^ s.toNat := Int.mul_le_mul_of_nonneg_left (by omega) (by decide)
              omega
            omega
        generalize mulI a b s = R at *
        generalize hX : cf a * cf b / 2 ^ s.toNat * 2 ^ s.toNat = X at *
        have hb1 : -9223372036854775807 ≤ X ∧ X ≤ 4611686018427387904 := by omega
        have hb2 : 0 ≤ cf a * cf b - X ∧ cf a * cf b - X < 2 * 2 ^ (s.toNat - 1) := by omega
        clear hh
        by_cases hc : (2 : Int) ^ (s.toNat - 1) ≤ cf a * cf b - X
        · have HR : Hid (cf a * cf b / 2 ^ s.toNat + 1 = R) := HE hc
          clear HE HE2 k1 k2
          go_enter Try.func27, Try.ntmps27
          go_wp2_with (go_at_call 34; refine (rclamp_any _ _ _ _).mono ?_; rintro e w' ⟨rfl, rfl⟩)
          go_ret
          exact ⟨ret_int HR.out, rfl⟩
        · have HR : Hid (cf a * cf b / 2 ^ s.toNat = R) := HE2 (by omega)
          clear HE HE2 k1 k2
          go_enter Try.func27, Try.ntmps27
          go_wp2_with (go_at_call 34; refine (rclamp_any _ _ _ _).mono ?_; rintro e w' ⟨rfl, rfl⟩)
          go_ret
          exact ⟨ret_int HR.out, rfl⟩

theorem cf_zero {b : Int} (h : cf b = 0) : b = 0 := by
  rcases Int.decEq b 0 with h0 | h0
  · exact absurd h (cf_ne h0)
  · exact h0

theorem bitLen_none : Lib.bitLen 0 = 0 := rfl

end Go.Proofs.Ytbnkapeahbegaaa
