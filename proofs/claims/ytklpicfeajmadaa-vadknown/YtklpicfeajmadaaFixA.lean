/- What the plain calls of package fix answer, as whole numbers: Clamp, Sat16, Mul, Div, Len and their helpers. -/
import Derived.Test.YtklpicfeajmadaaRows
import Derived.WalkKit
import Derived.WalkSpells
import Derived.WalkLawsBesides
import Derived.BigQuiet
import Derived.Deep.QuietTactic
import Derived.Lib.BitFns
namespace Go.Proofs.Ytklpicfeajmadaa
open Go.RowKit

def clampI (a lo hi : Int) : Int := if a < lo then lo else if hi < lo then lo else if hi < a then hi else a

theorem clamp_any (a lo hi : Int) (w : World) :
    Calls Try.prog 20 #[.int .i64 a, .int .i64 lo, .int .i64 hi] w fun e w' => e = .returned (.int .i64 (clampI a lo hi)) ∧ w' = w := by
  unfold clampI
  by_cases h1 : a < lo
  · go_enter Try.func20, Try.ntmps20
    go_wp2
    go_ret
    simp
  · by_cases h2 : hi < lo
    · go_enter Try.func20, Try.ntmps20
      go_wp2
      go_ret
      simp
    · by_cases h3 : hi < a
      all_goals
        go_enter Try.func20, Try.ntmps20
        go_wp2
        go_ret
        simp

theorem clampI_in (a lo hi : Int) (h : lo ≤ hi) : lo ≤ clampI a lo hi ∧ clampI a lo hi ≤ hi := by
  unfold clampI; split <;> (try split) <;> (try split) <;> omega

def cf (a : Int) : Int := clampI a (-2147483648) 2147483648

theorem cf_in (a : Int) : -2147483648 ≤ cf a ∧ cf a ≤ 2147483648 := clampI_in _ _ _ (by decide)

theorem prod_in {x y : Int} (hx : -2147483648 ≤ x ∧ x ≤ 2147483648) (hy : -2147483648 ≤ y ∧ y ≤ 2147483648) : -4611686018427387904 ≤ x * y ∧ x * y ≤ 4611686018427387904 := by
  have h : (x * y).natAbs ≤ 2147483648 * 2147483648 := by
    rw [Int.natAbs_mul]
    exact Nat.mul_le_mul (by omega) (by omega)
  omega

theorem pow2_in (n : Nat) (h : n ≤ 61) : 1 ≤ (2 : Int) ^ n ∧ (2 : Int) ^ n ≤ 2305843009213693952 := by
  have h1 : (2 : Nat) ^ n ≤ 2 ^ 61 := Nat.pow_le_pow_right (by decide) h
  have h2 : 0 < (2 : Nat) ^ n := Nat.two_pow_pos n
  have h3 : ((2 ^ n : Nat) : Int) = (2 : Int) ^ n := by simp
  have h4 : (2 : Nat) ^ 61 = 2305843009213693952 := by decide
  omega

def mulI (a b s : Int) : Int :=
  if s < 0 then 0 else if 62 < s then 0 else if s = 0 then cf a * cf b else (cf a * cf b + 2 ^ (s.toNat - 1)) / 2 ^ s.toNat

theorem sat16_any (a : Int) (w : World) :
    Calls Try.prog 15 #[.int .i64 a] w fun e w' => e = .returned (.int .i64 (clampI a (-32768) 32767)) ∧ w' = w := by
  go_enter Try.func15, Try.ntmps15
  go_wp2_with (go_at_call 20; refine (clamp_any _ _ _ _).mono ?_; rintro e w' ⟨rfl, rfl⟩)
  go_ret
  exact ⟨rfl, rfl⟩

theorem and65535 (n : Int) : bits .and .i64 n 65535 = n % 65536 := by
  have hm : (BitVec.ofInt 64 65535).toNat = 2 ^ 16 - 1 := by decide
  have key : (BitVec.ofInt 64 n &&& BitVec.ofInt 64 65535).toNat = (n % ((2 ^ 64 : Nat) : Int)).toNat % 2 ^ 16 := by
    rw [BitVec.toNat_and, BitVec.toNat_ofInt, hm, Nat.and_two_pow_sub_one_eq_mod]
  show IntKind.i64.wrap ((BitVec.ofInt 64 n &&& BitVec.ofInt 64 65535).toNat : Nat) = n % 65536
  rw [key, IntKind.wrap_i64]
  omega

theorem tdiv_in {a b : Int} (ha : -4611686018427387904 ≤ a) (ha' : a ≤ 4611686018427387904) : -4611686018427387904 ≤ a.tdiv b ∧ a.tdiv b ≤ 4611686018427387904 := by
  have h : (a.tdiv b).natAbs ≤ a.natAbs := by rw [Int.natAbs_tdiv]; exact Nat.div_le_self _ _
  omega

theorem tmod_dvd {a b : Int} (h : ¬ a.tmod b = 0) : ¬ b ∣ a := fun hd => h (Int.tmod_eq_zero_of_dvd hd)

theorem fdiv_of_zero {a b : Int} (ha : -4611686018427387904 ≤ a) (ha' : a ≤ 4611686018427387904) (h : a.tmod b = 0) : wrap64 (a.tdiv b) = a.fdiv b := by
  have hi := tdiv_in (b := b) ha ha'
  rw [IntWalk.wrap64_in _ ⟨by omega, by omega⟩, Int.fdiv_eq_tdiv, if_pos (Int.dvd_of_tmod_eq_zero h)]
  omega

theorem sign_of {b : Int} (hb : b ≠ 0) : (0 ≤ b → b.sign = 1) ∧ (b < 0 → b.sign = -1) :=
  ⟨fun _ => Int.sign_eq_one_of_pos (by omega), fun h => Int.sign_eq_neg_one_of_neg h⟩

theorem fdiv_of_parted {a b : Int} (ha : -4611686018427387904 ≤ a) (ha' : a ≤ 4611686018427387904) (hb : b ≠ 0) (h : ¬ a.tmod b = 0) (h2 : (a.tmod b != 0) = true ∧ (!decide (a < 0) == decide (b < 0)) = true) :
    wrap64 (wrap64 (a.tdiv b) - 1) = a.fdiv b := by
  have hi := tdiv_in (b := b) ha ha'
  have h3 := h2.2
  rw [IntWalk.wrap64_in (a.tdiv b) ⟨by omega, by omega⟩, IntWalk.wrap64_in _ ⟨by omega, by omega⟩, Int.fdiv_eq_tdiv, if_neg (tmod_dvd h)]
  have hs := sign_of hb
  by_cases h4 : a < 0 <;> by_cases h5 : b < 0
  · simp [h4, h5] at h3
  · rw [if_neg (by omega), if_pos (by omega), hs.1 (by omega)]
  · rw [if_pos (by omega), if_neg (by omega)]
  · simp [h4, h5] at h3

theorem fdiv_of_alike {a b : Int} (ha : -4611686018427387904 ≤ a) (ha' : a ≤ 4611686018427387904) (hb : b ≠ 0) (h : ¬ a.tmod b = 0) (h2 : (a.tmod b != 0) = false ∨ (!decide (a < 0) == decide (b < 0)) = false) :
    wrap64 (a.tdiv b) = a.fdiv b := by
  have hi := tdiv_in (b := b) ha ha'
  have h3 : (!decide (a < 0) == decide (b < 0)) = false := by
    rcases h2 with h2 | h2
    · simp [h] at h2
    · exact h2
  rw [IntWalk.wrap64_in _ ⟨by omega, by omega⟩, Int.fdiv_eq_tdiv, if_neg (tmod_dvd h)]
  have hs := sign_of hb
  by_cases h4 : a < 0 <;> by_cases h5 : b < 0
  · rw [if_neg (by omega), if_neg (by omega), hs.2 (by omega)]
    omega
  · simp [h4, h5] at h3
  · simp [h4, h5] at h3
  · rw [if_pos (by omega), if_pos (by omega)]
    omega

theorem ret_int {k : IntKind} {a b : Int} (h : a = b) : Ending.returned (.int k a) = .returned (.int k b) := by rw [h]

def divI (a b s : Int) : Int :=
  if b = 0 then 0 else if s < 0 then 0 else if 30 < s then 0 else (cf a * 2 ^ s.toNat).fdiv (cf b)

theorem cf_ne {b : Int} (h : b ≠ 0) : cf b ≠ 0 := by
  unfold cf clampI; split <;> (try split) <;> (try split) <;> omega

theorem shl_in (a s : Int) (h1 : 0 ≤ s) (h2 : s ≤ 30) : -4611686018427387904 ≤ cf a * 2 ^ s.toNat ∧ cf a * 2 ^ s.toNat ≤ 4611686018427387904 := by
  have hc := cf_in a
  have h3 : (2 : Nat) ^ s.toNat ≤ 2 ^ 30 := Nat.pow_le_pow_right (by decide) (by omega)
  have h4 : ((2 ^ s.toNat : Nat) : Int) = (2 : Int) ^ s.toNat := by simp
  have h5 : (2 : Nat) ^ 30 = 1073741824 := by decide
  have h8 := Nat.two_pow_pos s.toNat
  have h6 : 0 ≤ (2 : Int) ^ s.toNat := by omega
  have h7 : (2 : Int) ^ s.toNat ≤ 1073741824 := by omega
  exact prod_in hc ⟨by omega, by omega⟩

theorem len8_leaf (k : Nat) (x e : Int) (hx : 0 ≤ x) (hx1 : x ≤ 18446744073709551615) (hk : k ≤ 56) (he : e = x / 2 ^ k) (hk1 : k = 0 ∨ 2 ^ k ≤ x) (he0 : 0 ≤ e) (he1 : e ≤ 255) :
    (Lib.bitLen x.toNat : Int) = k + Lib.len8 e ∧ 0 ≤ Lib.len8 e ∧ Lib.len8 e ≤ 8 := by
  have h1 := Lib.len8_of e he0 he1
  have h2 := Lib.bitLen_le8' e he0 he1
  have h3 : e.toNat = x.toNat / 2 ^ k := by
    have hc : x = (x.toNat : Int) := by omega
    rw [he, hc]
    rfl
  have h4 : Lib.bitLen x.toNat = k + Lib.bitLen (x.toNat / 2 ^ k) := by
    rcases hk1 with rfl | hk1
    · simp
    · exact Lib.bitLen_shift k x.toNat (by have : ((2 ^ k : Nat) : Int) = (2 : Int) ^ k := by simp
                                           omega) (by omega)
  rw [h1, h4, h3]
  rw [h3] at h2
  omega

set_option maxRecDepth 100000 in
set_option maxHeartbeats 400000 in
theorem len64_any (x : Int) (w : World) (h0 : 0 ≤ x) (h1 : x ≤ 18446744073709551615) :
    Calls Try.prog 24 #[.int .u64 x] w fun e w' => e = .returned (.int .i64 (Lib.bitLen x.toNat)) ∧ w' = w := by
  by_cases c0 : 4294967296 ≤ x
  · by_cases c1 : 65536 ≤ x / 4294967296
    · by_cases c2 : 256 ≤ x / 4294967296 / 65536
      · have b0 : 0 ≤ x / 4294967296 / 65536 / 256 := by omega
        have b1 : x / 4294967296 / 65536 / 256 ≤ 255 := by omega
        obtain ⟨l, l0, l1⟩ := len8_leaf 56 x _ h0 h1 (by decide) (show x / 4294967296 / 65536 / 256 = x / 2 ^ 56 by omega) (by omega) b0 b1
        rw [l]; clear l
        go_enter Try.func24, Try.ntmps24
        go_wp2
        go_ret
        exact ⟨rfl, rfl⟩
      · have b0 : 0 ≤ x / 4294967296 / 65536 := by omega
        have b1 : x / 4294967296 / 65536 ≤ 255 := by omega
        obtain ⟨l, l0, l1⟩ := len8_leaf 48 x _ h0 h1 (by decide) (show x / 4294967296 / 65536 = x / 2 ^ 48 by omega) (by omega) b0 b1
        rw [l]; clear l
        go_enter Try.func24, Try.ntmps24
        go_wp2
        go_ret
        exact ⟨rfl, rfl⟩
    · by_cases c2 : 256 ≤ x / 4294967296
      · have b0 : 0 ≤ x / 4294967296 / 256 := by omega
        have b1 : x / 4294967296 / 256 ≤ 255 := by omega
        obtain ⟨l, l0, l1⟩ := len8_leaf 40 x _ h0 h1 (by decide) (show x / 4294967296 / 256 = x / 2 ^ 40 by omega) (by omega) b0 b1
        rw [l]; clear l
        go_enter Try.func24, Try.ntmps24
        go_wp2
        go_ret
        exact ⟨rfl, rfl⟩
      · have b0 : 0 ≤ x / 4294967296 := by omega
        have b1 : x / 4294967296 ≤ 255 := by omega
        obtain ⟨l, l0, l1⟩ := len8_leaf 32 x _ h0 h1 (by decide) (show x / 4294967296 = x / 2 ^ 32 by omega) (by omega) b0 b1
        rw [l]; clear l
        go_enter Try.func24, Try.ntmps24
        go_wp2
        go_ret
        exact ⟨rfl, rfl⟩
  · by_cases c1 : 65536 ≤ x
    · by_cases c2 : 256 ≤ x / 65536
      · have b0 : 0 ≤ x / 65536 / 256 := by omega
        have b1 : x / 65536 / 256 ≤ 255 := by omega
        obtain ⟨l, l0, l1⟩ := len8_leaf 24 x _ h0 h1 (by decide) (show x / 65536 / 256 = x / 2 ^ 24 by omega) (by omega) b0 b1
        rw [l]; clear l
        go_enter Try.func24, Try.ntmps24
        go_wp2
        go_ret
        exact ⟨rfl, rfl⟩
      · have b0 : 0 ≤ x / 65536 := by omega
        have b1 : x / 65536 ≤ 255 := by omega
        obtain ⟨l, l0, l1⟩ := len8_leaf 16 x _ h0 h1 (by decide) (show x / 65536 = x / 2 ^ 16 by omega) (by omega) b0 b1
        rw [l]; clear l
        go_enter Try.func24, Try.ntmps24
        go_wp2
        go_ret
        exact ⟨rfl, rfl⟩
    · by_cases c2 : 256 ≤ x
      · have b0 : 0 ≤ x / 256 := by omega
        have b1 : x / 256 ≤ 255 := by omega
        obtain ⟨l, l0, l1⟩ := len8_leaf 8 x _ h0 h1 (by decide) (show x / 256 = x / 2 ^ 8 by omega) (by omega) b0 b1
        rw [l]; clear l
        go_enter Try.func24, Try.ntmps24
        go_wp2
        go_ret
        exact ⟨rfl, rfl⟩
      · have b0 : 0 ≤ x := by omega
        have b1 : x ≤ 255 := by omega
        obtain ⟨l, l0, l1⟩ := len8_leaf 0 x _ h0 h1 (by decide) (show x = x / 2 ^ 0 by omega) (by omega) b0 b1
        rw [l]; clear l
        go_enter Try.func24, Try.ntmps24
        go_wp2
        go_ret
        exact ⟨rfl, rfl⟩

theorem len_any (a : Int) (w : World) (h1 : a ≤ 9223372036854775807) :
    Calls Try.prog 21 #[.int .i64 a] w fun e w' => e = .returned (.int .i64 (Lib.bitLen a.toNat)) ∧ w' = w := by
  go_enter Try.func21, Try.ntmps21
  go_wp2_with (go_at_call 24; refine (len64_any _ _ ?_ ?_).mono ?_; (first | assumption | omega); (first | assumption | omega); rintro e w' ⟨rfl, rfl⟩)
  · go_ret
    have e0 : a.toNat = 0 := by omega
    rw [e0]
    exact ⟨rfl, rfl⟩
  · go_ret
    exact ⟨rfl, rfl⟩

end Go.Proofs.Ytklpicfeajmadaa
