/- What the document's own answers of chapter 1 (the reference) come to: the same whole numbers as the program's: clamps, products, quotients, sums, lengths. -/
import Derived.Test.YtpppnagodlpnjaaFixC
namespace Go.Proofs.Ytpppnagodlpnjaa
open Go.RowKit

theorem rclamp_any (a lo hi : Int) (w : World) :
    Calls Try.prog 33 #[.int .i64 a, .int .i64 lo, .int .i64 hi] w fun e w' => e = .returned (.int .i64 (clampI a lo hi)) ∧ w' = w := by
  unfold clampI
  by_cases h1 : a < lo
  · go_enter Try.func33, Try.ntmps33
    go_wp2
    go_ret
    simp
  · by_cases h2 : hi < lo
    · go_enter Try.func33, Try.ntmps33
      go_wp2
      go_ret
      simp
    · by_cases h3 : hi < a
      all_goals
        go_enter Try.func33, Try.ntmps33
        go_wp2
        go_ret
        simp

theorem pow_half (s : Int) (h1 : 0 ≤ s) (h3 : ¬ s = 0) : (2 : Int) ^ s.toNat = 2 * 2 ^ (s.toNat - 1) := by
  obtain ⟨n, hn⟩ : ∃ n, s.toNat = n + 1 := ⟨s.toNat - 1, by omega⟩
  rw [hn, Int.pow_succ, Int.mul_comm]
  rfl

theorem round_up {p H Q : Int} (hH : 1 ≤ H) (hQ : Q = p / (2 * H)) : (H ≤ p - Q * (2 * H) → Q + 1 = (p + H) / (2 * H)) ∧ (p - Q * (2 * H) < H → Q = (p + H) / (2 * H)) := by
  have k1 := Int.ediv_mul_le p (show 2 * H ≠ 0 by omega)
  have k2 := Int.lt_ediv_add_one_mul_self p (show 0 < 2 * H by omega)
  rw [← hQ] at k1 k2
  rw [Int.add_mul, Int.one_mul] at k2
  constructor
  · intro h
    refine ((Int.ediv_emod_unique (a := p + H) (b := 2 * H) (r := p + H - (Q + 1) * (2 * H)) (q := Q + 1) (by omega)).2 ?_).1.symm
    rw [Int.add_mul, Int.one_mul]
    refine ⟨?_, by omega, by omega⟩
    rw [Int.mul_comm (2 * H) (Q + 1), Int.add_mul, Int.one_mul]
    omega
  · intro h
    refine ((Int.ediv_emod_unique (a := p + H) (b := 2 * H) (r := p + H - Q * (2 * H)) (q := Q) (by omega)).2 ?_).1.symm
    refine ⟨?_, by omega, by omega⟩
    rw [Int.mul_comm (2 * H) Q]
    omega

theorem rdown_any (a d : Int) (w : World) (ha : -4611686018427387904 ≤ a) (ha' : a ≤ 4611686018427387904) (hd : 1 ≤ d) :
    Calls Try.prog 32 #[.int .i64 a, .int .i64 d] w fun e w' => e = .returned (.int .i64 (a / d)) ∧ w' = w := by
  by_cases h0 : 0 ≤ a
  · have hm : 0 ≤ a % d := Int.emod_nonneg _ (by omega)
    go_enter Try.func32, Try.ntmps32
    go_wp2
    go_ret
    exact ⟨rfl, rfl⟩
  · have hi := tdiv_in (b := d) ha ha'
    have e1 : a.tdiv d = a / d + if 0 ≤ a ∨ d ∣ a then 0 else d.sign := Int.tdiv_eq_ediv
    have hs : d.sign = 1 := Int.sign_eq_one_of_pos (by omega)
    rw [hs] at e1
    by_cases hdv : d ∣ a
    · have hz : a.tmod d = 0 := Int.tmod_eq_zero_of_dvd hdv
      rw [if_pos (.inr hdv), Int.add_zero] at e1
      rw [← e1]; clear e1
      have hz2 : ¬ a.tmod d < 0 := by omega
      clear hz
      go_enter Try.func32, Try.ntmps32
      go_wp2
      go_ret
      exact ⟨rfl, rfl⟩
    · have hz : a.tmod d < 0 := by
        have h1 : ¬ a.tmod d = 0 := fun h => hdv (Int.dvd_of_tmod_eq_zero h)
        have h2 := Int.tmod_add_mul_tdiv a d
        have h3 : a.tmod d ≤ 0 := by
          have : 0 ≤ (-a).tmod d := Int.tmod_nonneg _ (by omega)
          rw [Int.neg_tmod] at this
          omega
        omega
      rw [if_neg (by rintro (h | h); exact h0 h; exact hdv h)] at e1
      have e2 : a / d = a.tdiv d - 1 := by omega
      rw [e2]; clear e1 e2
      go_enter Try.func32, Try.ntmps32
      go_wp2
      go_ret
      exact ⟨rfl, rfl⟩

theorem cf_zero {b : Int} (h : cf b = 0) : b = 0 := by
  rcases Int.decEq b 0 with h0 | h0
  · exact absurd h (cf_ne h0)
  · exact h0

theorem bitLen_none : Lib.bitLen 0 = 0 := rfl

end Go.Proofs.Ytpppnagodlpnjaa
