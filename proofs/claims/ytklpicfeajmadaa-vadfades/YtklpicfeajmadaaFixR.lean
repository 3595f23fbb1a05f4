/- What the document's own answers of chapter 1 (the reference) come to: the same whole numbers as the program's: clamps, products, quotients, sums, lengths. -/
import Derived.Test.YtklpicfeajmadaaFixC
namespace Go.Proofs.Ytklpicfeajmadaa
open Go.RowKit

theorem rclamp_any (a lo hi : Int) (w : World) :
    Calls Try.prog 22 #[.int .i64 a, .int .i64 lo, .int .i64 hi] w fun e w' => e = .returned (.int .i64 (clampI a lo hi)) ∧ w' = w := by
  unfold clampI
  by_cases h1 : a < lo
  · go_enter Try.func22, Try.ntmps22
    go_wp2
    go_ret
    simp
  · by_cases h2 : hi < lo
    · go_enter Try.func22, Try.ntmps22
      go_wp2
      go_ret
      simp
    · by_cases h3 : hi < a
      all_goals
        go_enter Try.func22, Try.ntmps22
        go_wp2
        go_ret
        simp

theorem rsat16_any (a : Int) (w : World) :
    Calls Try.prog 18 #[.int .i64 a] w fun e w' => e = .returned (.int .i64 (clampI a (-32768) 32767)) ∧ w' = w := by
  go_enter Try.func18, Try.ntmps18
  go_wp2_with (go_at_call 22; refine (rclamp_any _ _ _ _).mono ?_; rintro e w' ⟨rfl, rfl⟩)
  go_ret
  exact ⟨rfl, rfl⟩

theorem pow_half (s : Int) (h1 : 0 ≤ s) (h3 : ¬ s = 0) : (2 : Int) ^ s.toNat = 2 * 2 ^ (s.toNat - 1) := by
  obtain ⟨n, hn⟩ : ∃ n, s.toNat = n + 1 := ⟨s.toNat - 1, by omega⟩
  rw [hn, Int.pow_succ, Int.mul_comm]
  rfl

theorem round_up {p H Q : Int} (hH : 1 ≤ H) (hQ : Q = p / (2 * H)) : (H ≤ p - Q * (2 * H) → Q + 1 = (p + H) / (2 * H)) ∧ (p - Q * (2 * H) < H → Q = (p + H) / (2 * H)) := by
  have k1 := Int.ediv_mul_le p (show 2 * H ≠ 0 by omega)
  have k2 := Int.lt_ediv_add_one_mul_self p (show 0 < 2 * H by omega)
  rw [← hQ] at k1 k2
  rw [Int.add_mul, Int.one_mul] at k2
  constructor
  · intro h
    refine ((Int.ediv_emod_unique (a := p + H) (b := 2 * H) (r := p + H - (Q + 1) * (2 * H)) (q := Q + 1) (by omega)).2 ?_).1.symm
    rw [Int.add_mul, Int.one_mul]
    refine ⟨?_, by omega, by omega⟩
    rw [Int.mul_comm (2 * H) (Q + 1), Int.add_mul, Int.one_mul]
    omega
  · intro h
    refine ((Int.ediv_emod_unique (a := p + H) (b := 2 * H) (r := p + H - Q * (2 * H)) (q := Q) (by omega)).2 ?_).1.symm
    refine ⟨?_, by omega, by omega⟩
    rw [Int.mul_comm (2 * H) Q]
    omega

theorem cf_zero {b : Int} (h : cf b = 0) : b = 0 := by
  rcases Int.decEq b 0 with h0 | h0
  · exact absurd h (cf_ne h0)
  · exact h0

theorem bitLen_none : Lib.bitLen 0 = 0 := rfl

theorem rlen_any (a : Int) (w : World) (ha : a ≤ 9223372036854775807) :
    Calls Try.prog 23 #[.int .i64 a] w fun e w' => e = .returned (.int .i64 (Lib.bitLen a.toNat)) ∧ w' = w := by
  by_cases h0 : a < 1
  · have e : a.toNat = 0 := by omega
    rw [e]
    go_enter Try.func23, Try.ntmps23
    go_wp2
    go_loop [0, 3] (fun x n => x = .int .i64 a ∧ n = .int .i64 0) (fun _ _ => 0)
    case atStart => exact ⟨rfl, rfl⟩
    case round =>
      obtain ⟨rfl, rfl⟩ := hrel
      go_wp2
      go_ret
      exact ⟨rfl, rfl⟩
  · obtain ⟨x, hx, rfl⟩ : ∃ x : Nat, 1 ≤ x ∧ a = (x : Int) := ⟨a.toNat, by omega, by omega⟩
    have hxn : ((x : Int)).toNat = x := rfl
    rw [hxn]
    have hbl : Lib.bitLen x ≤ 64 := Lib.bitLen_le x 64 (Nat.le_refl _) (by omega)
    go_enter Try.func23, Try.ntmps23
    go_wp2
    go_loop [0, 3] (fun y n => ∃ z k : Nat, z ≤ x ∧ y = .int .i64 z ∧ n = .int .i64 k ∧ k + Lib.bitLen z = Lib.bitLen x) (fun y _ => (intOf y).toNat)
    case atStart => exact ⟨x, 0, Nat.le_refl _, rfl, rfl, Nat.zero_add _⟩
    case round =>
      obtain ⟨z, k, hz, rfl, rfl, hk⟩ := hrel
      have HK : Hid (k + Lib.bitLen z = Lib.bitLen x) := hk
      have hk2 : k ≤ 64 := by omega
      clear hk
      by_cases hlt : 0 < z
      · have hh := Lib.bitLen_half z (by omega) (by omega)
        have HH : Hid (Lib.bitLen z = 1 + Lib.bitLen (z / 2)) := hh
        clear hh
        go_wp2
        go_round
        case rel => exact ⟨z / 2, k + 1, by omega, by go_num, by go_num, by have := HK.out; have := HH.out; omega⟩
        case measure => simp [intOf]; omega
      · have hz0 : z = 0 := by omega
        subst hz0
        go_wp2
        go_ret
        exact ⟨ret_int (by have := HK.out; rw [bitLen_none] at this; omega), rfl⟩

end Go.Proofs.Ytklpicfeajmadaa
