/- What the document's own answers of chapter 1 (the reference) come to: the same whole numbers as the program's: clamps, products, quotients, sums, lengths. -/
import Derived.Test.YtefecpidccpimaaFixC
namespace Go.Proofs.Ytefecpidccpimaa
open Go.RowKit

theorem rclamp_any (a lo hi : Int) (w : World) :
    Calls Try.prog 34 #[.int .i64 a, .int .i64 lo, .int .i64 hi] w fun e w' => e = .returned (.int .i64 (clampI a lo hi)) ∧ w' = w := by
  unfold clampI
  by_cases h1 : a < lo
  · go_enter Try.func34, Try.ntmps34
    go_wp2
    go_ret
    simp
  · by_cases h2 : hi < lo
    · go_enter Try.func34, Try.ntmps34
      go_wp2
      go_ret
      simp
    · by_cases h3 : hi < a
      all_goals
        go_enter Try.func34, Try.ntmps34
        go_wp2
        go_ret
        simp

theorem pow_half (s : Int) (h1 : 0 ≤ s) (h3 : ¬ s = 0) : (2 : Int) ^ s.toNat = 2 * 2 ^ (s.toNat - 1) := by
  obtain ⟨n, hn⟩ : ∃ n, s.toNat = n + 1 := ⟨s.toNat - 1, by omega⟩
  rw [hn, Int.pow_succ, Int.mul_comm]
  rfl

theorem round_up {p H Q : Int} (hH : 1 ≤ H) (hQ : Q = p / (2 * H)) : (H ≤ p - Q * (2 * H) → Q + 1 = (p + H) / (2 * H)) ∧ (p - Q * (2 * H) < H → Q = (p + H) / (2 * H)) := by
  have k1 := Int.ediv_mul_le p (show 2 * H ≠ 0 by omega)
  have k2 := Int.lt_ediv_add_one_mul_self p (show 0 < 2 * H by omega)
  rw [← hQ] at k1 k2
  rw [Int.add_mul, Int.one_mul] at k2
  constructor
  · intro h
    refine ((Int.ediv_emod_unique (a := p + H) (b := 2 * H) (r := p + H - (Q + 1) * (2 * H)) (q := Q + 1) (by omega)).2 ?_).1.symm
    rw [Int.add_mul, Int.one_mul]
    refine ⟨?_, by omega, by omega⟩
    rw [Int.mul_comm (2 * H) (Q + 1), Int.add_mul, Int.one_mul]
    omega
  · intro h
    refine ((Int.ediv_emod_unique (a := p + H) (b := 2 * H) (r := p + H - Q * (2 * H)) (q := Q) (by omega)).2 ?_).1.symm
    refine ⟨?_, by omega, by omega⟩
    rw [Int.mul_comm (2 * H) Q]
    omega

theorem rmul_any (a b s : Int) (w : World) :
    Calls Try.prog 21 #[.int .i64 a, .int .i64 b, .int .i64 s] w fun e w' => e = .returned (.int .i64 (mulI a b s)) ∧ w' = w := by
  have hp := prod_in (cf_in a) (cf_in b)
  have hca : clampI a (-2147483648) 2147483648 = cf a := rfl
  have hcb : clampI b (-2147483648) 2147483648 = cf b := rfl
  by_cases h1 : s < 0
  · have e : mulI a b s = 0 := by simp [mulI, h1]
    rw [e]; clear e
    go_enter Try.func21, Try.ntmps21
    go_wp2_with (go_at_call 34; refine (rclamp_any _ _ _ _).mono ?_; rintro e w' ⟨rfl, rfl⟩)
    go_ret
    exact ⟨rfl, rfl⟩
  · by_cases h2 : 62 < s
    · have e : mulI a b s = 0 := by simp [mulI, h2]
      rw [e]; clear e
      go_enter Try.func21, Try.ntmps21
      go_wp2_with (go_at_call 34; refine (rclamp_any _ _ _ _).mono ?_; rintro e w' ⟨rfl, rfl⟩)
      go_ret
      exact ⟨rfl, rfl⟩
    · by_cases h3 : s = 0
      · subst h3
        have e : mulI a b 0 = cf a * cf b := by simp [mulI]
        rw [e]; clear e
        go_enter Try.func21, Try.ntmps21
        go_wp2_with (go_at_call 34; refine (rclamp_any _ _ _ _).mono ?_; rintro e w' ⟨rfl, rfl⟩)
        go_ret
        exact ⟨rfl, rfl⟩
      · have e : mulI a b s = (cf a * cf b + 2 ^ (s.toNat - 1)) / 2 ^ s.toNat := by simp [mulI, h1, h2, h3]
        have hq := pow2_in (s.toNat - 1) (by omega)
        have hh := pow_half s (by omega) h3
        have hr := @round_up (cf a * cf b) (2 ^ (s.toNat - 1)) (cf a * cf b / 2 ^ s.toNat) hq.1 (by rw [← hh])
        rw [← hh, ← e] at hr
        have k1 := Int.ediv_mul_le (cf a * cf b) (show (2 : Int) ^ s.toNat ≠ 0 by omega)
        have k2 := Int.lt_ediv_add_one_mul_self (cf a * cf b) (show (0 : Int) < 2 ^ s.toNat by omega)
        rw [Int.add_mul, Int.one_mul] at k2
        have HE := hr.1
        have HE2 := hr.2
        clear hr e
        have hqb : -4611686018427387904 ≤ cf a * cf b / 2 ^ s.toNat ∧ cf a * cf b / 2 ^ s.toNat ≤ 4611686018427387904 := by
          constructor
          · refine (Int.le_ediv_iff_mul_le (by omega)).2 ?_
            have : (4611686018427387904 : Int) * 1 ≤ 4611686018427387904 * 2 ^ s.toNat := Int.mul_le_mul_of_nonneg_left (by omega) (by decide)
            omega
          · have h5 : cf a * cf b / 2 ^ s.toNat < 4611686018427387905 := by
              refine (Int.ediv_lt_iff_lt_mul (by omega)).2 ?_
              have : (4611686018427387905 : Int) * 1 ≤ 4611686018427387905 * 2 ^ s.toNat := Int.mul_le_mul_of_nonneg_left (by omega) (by decide)
              omega
            omega
        generalize mulI a b s = R at *
        generalize hX : cf a * cf b / 2 ^ s.toNat * 2 ^ s.toNat = X at *
        have hb1 : -9223372036854775807 ≤ X ∧ X ≤ 4611686018427387904 := by omega
        have hb2 : 0 ≤ cf a * cf b - X ∧ cf a * cf b - X < 2 * 2 ^ (s.toNat - 1) := by omega
        clear hh
        by_cases hc : (2 : Int) ^ (s.toNat - 1) ≤ cf a * cf b - X
        · have HR : Hid (cf a * cf b / 2 ^ s.toNat + 1 = R) := HE hc
          clear HE HE2 k1 k2
          go_enter Try.func21, Try.ntmps21
          go_wp2_with (go_at_call 34; refine (rclamp_any _ _ _ _).mono ?_; rintro e w' ⟨rfl, rfl⟩)
          go_ret
          exact ⟨ret_int HR.out, rfl⟩
        · have HR : Hid (cf a * cf b / 2 ^ s.toNat = R) := HE2 (by omega)
          clear HE HE2 k1 k2
          go_enter Try.func21, Try.ntmps21
          go_wp2_with (go_at_call 34; refine (rclamp_any _ _ _ _).mono ?_; rintro e w' ⟨rfl, rfl⟩)
          go_ret
          exact ⟨ret_int HR.out, rfl⟩

theorem rdown_any (a d : Int) (w : World) (ha : -4611686018427387904 ≤ a) (ha' : a ≤ 4611686018427387904) (hd : 1 ≤ d) :
    Calls Try.prog 42 #[.int .i64 a, .int .i64 d] w fun e w' => e = .returned (.int .i64 (a / d)) ∧ w' = w := by
  by_cases h0 : 0 ≤ a
  · have hm : 0 ≤ a % d := Int.emod_nonneg _ (by omega)
    go_enter Try.func42, Try.ntmps42
    go_wp2
    go_ret
    exact ⟨rfl, rfl⟩
  · have hi := tdiv_in (b := d) ha ha'
    have e1 : a.tdiv d = a / d + if 0 ≤ a ∨ d ∣ a then 0 else d.sign := Int.tdiv_eq_ediv
    have hs : d.sign = 1 := Int.sign_eq_one_of_pos (by omega)
    rw [hs] at e1
    by_cases hdv : d ∣ a
    · have hz : a.tmod d = 0 := Int.tmod_eq_zero_of_dvd hdv
      rw [if_pos (.inr hdv), Int.add_zero] at e1
      rw [← e1]; clear e1
      have hz2 : ¬ a.tmod d < 0 := by omega
      clear hz
      go_enter Try.func42, Try.ntmps42
      go_wp2
      go_ret
      exact ⟨rfl, rfl⟩
    · have hz : a.tmod d < 0 := by
        have h1 : ¬ a.tmod d = 0 := fun h => hdv (Int.dvd_of_tmod_eq_zero h)
        have h2 := Int.tmod_add_mul_tdiv a d
        have h3 : a.tmod d ≤ 0 := by
          have : 0 ≤ (-a).tmod d := Int.tmod_nonneg _ (by omega)
          rw [Int.neg_tmod] at this
          omega
        omega
      rw [if_neg (by rintro (h | h); exact h0 h; exact hdv h)] at e1
      have e2 : a / d = a.tdiv d - 1 := by omega
      rw [e2]; clear e1 e2
      go_enter Try.func42, Try.ntmps42
      go_wp2
      go_ret
      exact ⟨rfl, rfl⟩

theorem cf_zero {b : Int} (h : cf b = 0) : b = 0 := by
  rcases Int.decEq b 0 with h0 | h0
  · exact absurd h (cf_ne h0)
  · exact h0

theorem rdiv_any (a b s : Int) (w : World) :
    Calls Try.prog 35 #[.int .i64 a, .int .i64 b, .int .i64 s] w fun e w' => e = .returned (.int .i64 (divI a b s)) ∧ w' = w := by
  have hca : clampI a (-2147483648) 2147483648 = cf a := rfl
  have hcb : clampI b (-2147483648) 2147483648 = cf b := rfl
  have ia := cf_in a
  have ib := cf_in b
  by_cases hb : b = 0
  · have e : divI a b s = 0 := by simp [divI, hb]
    have e0 : cf b = 0 := by subst hb; rfl
    rw [e]; clear e hb
    go_enter Try.func35, Try.ntmps35
    go_wp2_with (go_at_call 34; refine (rclamp_any _ _ _ _).mono ?_; rintro e w' ⟨rfl, rfl⟩)
    go_ret
    exact ⟨rfl, rfl⟩
  · have hn := cf_ne hb
    have hnb : (cf b == 0) = false := by simpa using hn
    by_cases h1 : s < 0
    · have e : divI a b s = 0 := by simp [divI, h1]
      rw [e]; clear e hb
      go_enter Try.func35, Try.ntmps35
      go_wp2_with (go_at_call 34; refine (rclamp_any _ _ _ _).mono ?_; rintro e w' ⟨rfl, rfl⟩)
      go_ret
      exact ⟨rfl, rfl⟩
    · by_cases h2 : 30 < s
      · have e : divI a b s = 0 := by simp [divI, h2]
        rw [e]; clear e hb
        go_enter Try.func35, Try.ntmps35
        go_wp2_with (go_at_call 34; refine (rclamp_any _ _ _ _).mono ?_; rintro e w' ⟨rfl, rfl⟩)
        go_ret
        exact ⟨rfl, rfl⟩
      · have hi := shl_in a s (by omega) (by omega)
        have hp : 1 ≤ (2 : Int) ^ s.toNat ∧ (2 : Int) ^ s.toNat ≤ 1073741824 := by
          have g1 : (2 : Nat) ^ s.toNat ≤ 2 ^ 30 := Nat.pow_le_pow_right (by decide) (by omega)
          have g2 := Nat.two_pow_pos s.toNat
          have g3 := pow_cast s.toNat
          have g4 : (2 : Nat) ^ 30 = 1073741824 := by decide
          omega
        by_cases hneg : cf b < 0
        · have e : divI a b s = -(cf a) * 2 ^ s.toNat / -(cf b) := by
            have e1 : divI a b s = (cf a * 2 ^ s.toNat).fdiv (cf b) := by simp [divI, hb, h1, h2]
            rw [e1, ← Int.fdiv_eq_ediv_of_nonneg _ (show 0 ≤ -(cf b) by omega), Int.neg_mul, Int.neg_fdiv_neg]
          have hi2 : -4611686018427387904 ≤ -(cf a) * 2 ^ s.toNat ∧ -(cf a) * 2 ^ s.toNat ≤ 4611686018427387904 := by rw [Int.neg_mul]; omega
          rw [e]; clear e hb hi
          go_enter Try.func35, Try.ntmps35
          go_wp2_with (first
            | (go_at_call 34; refine (rclamp_any _ _ _ _).mono ?_; rintro e w' ⟨rfl, rfl⟩)
            | (go_at_call 42; go_loud (refine (rdown_any _ _ _ ?_ ?_ ?_).mono ?_); omega; omega; omega; rintro e w' ⟨rfl, rfl⟩))
          go_ret
          exact ⟨ret_int (Int.ediv_neg _ _).symm, rfl⟩
        · have e : divI a b s = cf a * 2 ^ s.toNat / cf b := by
            have e1 : divI a b s = (cf a * 2 ^ s.toNat).fdiv (cf b) := by simp [divI, hb, h1, h2]
            rw [e1, Int.fdiv_eq_ediv_of_nonneg _ (show 0 ≤ cf b by omega)]
          rw [e]; clear e hb
          go_enter Try.func35, Try.ntmps35
          go_wp2_with (first
            | (go_at_call 34; refine (rclamp_any _ _ _ _).mono ?_; rintro e w' ⟨rfl, rfl⟩)
            | (go_at_call 42; go_loud (refine (rdown_any _ _ _ ?_ ?_ ?_).mono ?_); omega; omega; omega; rintro e w' ⟨rfl, rfl⟩))
          go_ret
          exact ⟨rfl, rfl⟩

theorem bitLen_none : Lib.bitLen 0 = 0 := rfl

end Go.Proofs.Ytefecpidccpimaa
