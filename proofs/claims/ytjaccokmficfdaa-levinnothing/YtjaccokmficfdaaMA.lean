/- Texts put together: FixA FixB FixC FixR FixS TabsA TabsB TabsE. -/
import Derived.Test.YtjaccokmficfdaaRows
import Derived.WalkKit
import Derived.WalkSpells
import Derived.WalkLawsBesides
import Derived.BigQuiet
import Derived.Deep.QuietTactic
import Derived.Lib.BitFns
import Derived.Lib.LaidTab
import Derived.Laws.Rows
import Derived.Deep.AppendSrc
import Derived.Deep.OwnRows
import Derived.OwnWalk
/- What the plain calls of package fix answer, as whole numbers: Clamp, Sat16, Mul, Div, Len and their helpers. -/
namespace Go.Proofs.Ytjaccokmficfdaa
open Go.RowKit

def clampI (a lo hi : Int) : Int := if a < lo then lo else if hi < lo then lo else if hi < a then hi else a

theorem clamp_any (a lo hi : Int) (w : World) :
    Calls Try.prog 29 #[.int .i64 a, .int .i64 lo, .int .i64 hi] w fun e w' => e = .returned (.int .i64 (clampI a lo hi)) ∧ w' = w := by
  unfold clampI
  by_cases h1 : a < lo
  · go_enter Try.func29, Try.ntmps29
    go_wp2
    go_ret
    simp
  · by_cases h2 : hi < lo
    · go_enter Try.func29, Try.ntmps29
      go_wp2
      go_ret
      simp
    · by_cases h3 : hi < a
      all_goals
        go_enter Try.func29, Try.ntmps29
        go_wp2
        go_ret
        simp

theorem clampI_in (a lo hi : Int) (h : lo ≤ hi) : lo ≤ clampI a lo hi ∧ clampI a lo hi ≤ hi := by
  unfold clampI; split <;> (try split) <;> (try split) <;> omega

def cf (a : Int) : Int := clampI a (-2147483648) 2147483648

theorem cf_in (a : Int) : -2147483648 ≤ cf a ∧ cf a ≤ 2147483648 := clampI_in _ _ _ (by decide)

theorem clampFactor_any (a : Int) (w : World) :
    Calls Try.prog 44 #[.int .i64 a] w fun e w' => e = .returned (.int .i64 (cf a)) ∧ w' = w := by
  go_enter Try.func44, Try.ntmps44
  go_wp2_with (go_at_call 29; refine (clamp_any _ _ _ _).mono ?_; rintro e w' ⟨rfl, rfl⟩)
  go_ret
  exact ⟨rfl, rfl⟩

theorem prod_in {x y : Int} (hx : -2147483648 ≤ x ∧ x ≤ 2147483648) (hy : -2147483648 ≤ y ∧ y ≤ 2147483648) : -4611686018427387904 ≤ x * y ∧ x * y ≤ 4611686018427387904 := by
  have h : (x * y).natAbs ≤ 2147483648 * 2147483648 := by
    rw [Int.natAbs_mul]
    exact Nat.mul_le_mul (by omega) (by omega)
  omega

theorem pow2_in (n : Nat) (h : n ≤ 61) : 1 ≤ (2 : Int) ^ n ∧ (2 : Int) ^ n ≤ 2305843009213693952 := by
  have h1 : (2 : Nat) ^ n ≤ 2 ^ 61 := Nat.pow_le_pow_right (by decide) h
  have h2 : 0 < (2 : Nat) ^ n := Nat.two_pow_pos n
  have h3 : ((2 ^ n : Nat) : Int) = (2 : Int) ^ n := by simp
  have h4 : (2 : Nat) ^ 61 = 2305843009213693952 := by decide
  omega

def mulI (a b s : Int) : Int :=
  if s < 0 then 0 else if 62 < s then 0 else if s = 0 then cf a * cf b else (cf a * cf b + 2 ^ (s.toNat - 1)) / 2 ^ s.toNat

theorem mul_any (a b s : Int) (w : World) :
    Calls Try.prog 25 #[.int .i64 a, .int .i64 b, .int .i64 s] w fun e w' => e = .returned (.int .i64 (mulI a b s)) ∧ w' = w := by
  have hp := prod_in (cf_in a) (cf_in b)
  by_cases h1 : s < 0
  · have e : mulI a b s = 0 := by simp [mulI, h1]
    rw [e]; clear e
    go_enter Try.func25, Try.ntmps25
    go_wp2
    go_ret
    exact ⟨rfl, rfl⟩
  · by_cases h2 : 62 < s
    · have e : mulI a b s = 0 := by simp [mulI, h2]
      rw [e]; clear e
      go_enter Try.func25, Try.ntmps25
      go_wp2
      go_ret
      exact ⟨rfl, rfl⟩
    · by_cases h3 : s = 0
      · subst h3
        have e : mulI a b 0 = cf a * cf b := by simp [mulI]
        rw [e]; clear e
        go_enter Try.func25, Try.ntmps25
        go_wp2_with (go_at_call 44; refine (clampFactor_any _ _).mono ?_; rintro e w' ⟨rfl, rfl⟩)
        go_ret
        exact ⟨rfl, rfl⟩
      · have e : mulI a b s = wrap64 (cf a * cf b + wrap64 (2 ^ (s.toNat - 1))) / 2 ^ s.toNat := by
          have hq := pow2_in (s.toNat - 1) (by omega)
          rw [IntWalk.wrap64_in (2 ^ (s.toNat - 1)) ⟨by omega, by omega⟩, IntWalk.wrap64_in _ ⟨by omega, by omega⟩]
          simp [mulI, h1, h2, h3]
        rw [e]; clear e
        go_enter Try.func25, Try.ntmps25
        go_wp2_with (go_at_call 44; refine (clampFactor_any _ _).mono ?_; rintro e w' ⟨rfl, rfl⟩)
        go_ret
        exact ⟨rfl, rfl⟩

theorem sat16_any (a : Int) (w : World) :
    Calls Try.prog 40 #[.int .i64 a] w fun e w' => e = .returned (.int .i64 (clampI a (-32768) 32767)) ∧ w' = w := by
  go_enter Try.func40, Try.ntmps40
  go_wp2_with (go_at_call 29; refine (clamp_any _ _ _ _).mono ?_; rintro e w' ⟨rfl, rfl⟩)
  go_ret
  exact ⟨rfl, rfl⟩

theorem and65535 (n : Int) : bits .and .i64 n 65535 = n % 65536 := by
  have hm : (BitVec.ofInt 64 65535).toNat = 2 ^ 16 - 1 := by decide
  have key : (BitVec.ofInt 64 n &&& BitVec.ofInt 64 65535).toNat = (n % ((2 ^ 64 : Nat) : Int)).toNat % 2 ^ 16 := by
    rw [BitVec.toNat_and, BitVec.toNat_ofInt, hm, Nat.and_two_pow_sub_one_eq_mod]
  show IntKind.i64.wrap ((BitVec.ofInt 64 n &&& BitVec.ofInt 64 65535).toNat : Nat) = n % 65536
  rw [key, IntKind.wrap_i64]
  omega

theorem wrap_any (a : Int) (w : World) :
    Calls Try.prog 71 #[.int .i64 a] w fun e w' => e = .returned (.int .i64 (a % 65536)) ∧ w' = w := by
  rw [← and65535 a]
  go_enter Try.func71, Try.ntmps71
  go_wp2
  go_ret
  exact ⟨rfl, rfl⟩

theorem tdiv_in {a b : Int} (ha : -4611686018427387904 ≤ a) (ha' : a ≤ 4611686018427387904) : -4611686018427387904 ≤ a.tdiv b ∧ a.tdiv b ≤ 4611686018427387904 := by
  have h : (a.tdiv b).natAbs ≤ a.natAbs := by rw [Int.natAbs_tdiv]; exact Nat.div_le_self _ _
  omega

theorem tmod_dvd {a b : Int} (h : ¬ a.tmod b = 0) : ¬ b ∣ a := fun hd => h (Int.tmod_eq_zero_of_dvd hd)

theorem fdiv_of_zero {a b : Int} (ha : -4611686018427387904 ≤ a) (ha' : a ≤ 4611686018427387904) (h : a.tmod b = 0) : wrap64 (a.tdiv b) = a.fdiv b := by
  have hi := tdiv_in (b := b) ha ha'
  rw [IntWalk.wrap64_in _ ⟨by omega, by omega⟩, Int.fdiv_eq_tdiv, if_pos (Int.dvd_of_tmod_eq_zero h)]
  omega

theorem sign_of {b : Int} (hb : b ≠ 0) : (0 ≤ b → b.sign = 1) ∧ (b < 0 → b.sign = -1) :=
  ⟨fun _ => Int.sign_eq_one_of_pos (by omega), fun h => Int.sign_eq_neg_one_of_neg h⟩

theorem fdiv_of_parted {a b : Int} (ha : -4611686018427387904 ≤ a) (ha' : a ≤ 4611686018427387904) (hb : b ≠ 0) (h : ¬ a.tmod b = 0) (h2 : (a.tmod b != 0) = true ∧ (!decide (a < 0) == decide (b < 0)) = true) :
    wrap64 (wrap64 (a.tdiv b) - 1) = a.fdiv b := by
  have hi := tdiv_in (b := b) ha ha'
  have h3 := h2.2
  rw [IntWalk.wrap64_in (a.tdiv b) ⟨by omega, by omega⟩, IntWalk.wrap64_in _ ⟨by omega, by omega⟩, Int.fdiv_eq_tdiv, if_neg (tmod_dvd h)]
  have hs := sign_of hb
  by_cases h4 : a < 0 <;> by_cases h5 : b < 0
  · simp [h4, h5] at h3
  · rw [if_neg (by omega), if_pos (by omega), hs.1 (by omega)]
  · rw [if_pos (by omega), if_neg (by omega)]
  · simp [h4, h5] at h3

theorem fdiv_of_alike {a b : Int} (ha : -4611686018427387904 ≤ a) (ha' : a ≤ 4611686018427387904) (hb : b ≠ 0) (h : ¬ a.tmod b = 0) (h2 : (a.tmod b != 0) = false ∨ (!decide (a < 0) == decide (b < 0)) = false) :
    wrap64 (a.tdiv b) = a.fdiv b := by
  have hi := tdiv_in (b := b) ha ha'
  have h3 : (!decide (a < 0) == decide (b < 0)) = false := by
    rcases h2 with h2 | h2
    · simp [h] at h2
    · exact h2
  rw [IntWalk.wrap64_in _ ⟨by omega, by omega⟩, Int.fdiv_eq_tdiv, if_neg (tmod_dvd h)]
  have hs := sign_of hb
  by_cases h4 : a < 0 <;> by_cases h5 : b < 0
  · rw [if_neg (by omega), if_neg (by omega), hs.2 (by omega)]
    omega
  · simp [h4, h5] at h3
  · simp [h4, h5] at h3
  · rw [if_pos (by omega), if_pos (by omega)]
    omega

theorem ret_int {k : IntKind} {a b : Int} (h : a = b) : Ending.returned (.int k a) = .returned (.int k b) := by rw [h]

theorem down_any (a b : Int) (w : World) (ha : -4611686018427387904 ≤ a) (ha' : a ≤ 4611686018427387904) (hb : b ≠ 0) :
    Calls Try.prog 56 #[.int .i64 a, .int .i64 b] w fun e w' => e = .returned (.int .i64 (a.fdiv b)) ∧ w' = w := by
  go_enter Try.func56, Try.ntmps56
  go_wp2
  · go_ret
    exact ⟨ret_int (fdiv_of_zero ha ha' ‹_›), rfl⟩
  · go_ret
    exact ⟨ret_int (fdiv_of_parted ha ha' hb ‹_› ‹_›), rfl⟩
  · go_ret
    exact ⟨ret_int (fdiv_of_alike ha ha' hb ‹_› ‹_›), rfl⟩

def divI (a b s : Int) : Int :=
  if b = 0 then 0 else if s < 0 then 0 else if 30 < s then 0 else (cf a * 2 ^ s.toNat).fdiv (cf b)

theorem cf_ne {b : Int} (h : b ≠ 0) : cf b ≠ 0 := by
  unfold cf clampI; split <;> (try split) <;> (try split) <;> omega

theorem shl_in (a s : Int) (h1 : 0 ≤ s) (h2 : s ≤ 30) : -4611686018427387904 ≤ cf a * 2 ^ s.toNat ∧ cf a * 2 ^ s.toNat ≤ 4611686018427387904 := by
  have hc := cf_in a
  have h3 : (2 : Nat) ^ s.toNat ≤ 2 ^ 30 := Nat.pow_le_pow_right (by decide) (by omega)
  have h4 : ((2 ^ s.toNat : Nat) : Int) = (2 : Int) ^ s.toNat := by simp
  have h5 : (2 : Nat) ^ 30 = 1073741824 := by decide
  have h8 := Nat.two_pow_pos s.toNat
  have h6 : 0 ≤ (2 : Int) ^ s.toNat := by omega
  have h7 : (2 : Int) ^ s.toNat ≤ 1073741824 := by omega
  exact prod_in hc ⟨by omega, by omega⟩

theorem div_any (a b s : Int) (w : World) :
    Calls Try.prog 41 #[.int .i64 a, .int .i64 b, .int .i64 s] w fun e w' => e = .returned (.int .i64 (divI a b s)) ∧ ∃ n, w' = w.drewN n := by
  by_cases hb : b = 0
  · have e : divI a b s = 0 := by simp [divI, hb]
    rw [e]; clear e
    subst hb
    go_enter Try.func41, Try.ntmps41
    go_wp2
    go_ret
    exact ⟨rfl, 0, rfl⟩
  · by_cases h1 : s < 0
    · have e : divI a b s = 0 := by simp [divI, h1]
      rw [e]; clear e
      go_enter Try.func41, Try.ntmps41
      go_wp2
      go_ret
      exact ⟨rfl, 0, rfl⟩
    · by_cases h2 : 30 < s
      · have e : divI a b s = 0 := by simp [divI, h2]
        rw [e]; clear e
        go_enter Try.func41, Try.ntmps41
        go_wp2
        go_ret
        exact ⟨rfl, 0, rfl⟩
      · have e : divI a b s = (wrap64 (cf a * 2 ^ s.toNat)).fdiv (cf b) := by
          have hi := shl_in a s (by omega) (by omega)
          rw [IntWalk.wrap64_in _ ⟨by omega, by omega⟩]
          simp [divI, hb, h1, h2]
        rw [e]; clear e
        have hi : -4611686018427387904 ≤ wrap64 (cf a * 2 ^ s.toNat) ∧ wrap64 (cf a * 2 ^ s.toNat) ≤ 4611686018427387904 := by
          have hi := shl_in a s (by omega) (by omega)
          rw [IntWalk.wrap64_in _ ⟨by omega, by omega⟩]
          exact hi
        have hn : Hid (cf b ≠ 0) := cf_ne hb
        go_enter Try.func41, Try.ntmps41
        go_wp2
        go_quiet (first | (go_at_call 44; exact Calls.quiet_of_same (clampFactor_any _ _)) | (go_at_call 56; exact Calls.quiet_of_same (down_any _ _ _ hi.1 hi.2 hn.out)))
        all_goals
          go_wp2
          go_ret
          exact ⟨rfl, _, rfl⟩

theorem len8_leaf (k : Nat) (x e : Int) (hx : 0 ≤ x) (hx1 : x ≤ 18446744073709551615) (hk : k ≤ 56) (he : e = x / 2 ^ k) (hk1 : k = 0 ∨ 2 ^ k ≤ x) (he0 : 0 ≤ e) (he1 : e ≤ 255) :
    (Lib.bitLen x.toNat : Int) = k + Lib.len8 e ∧ 0 ≤ Lib.len8 e ∧ Lib.len8 e ≤ 8 := by
  have h1 := Lib.len8_of e he0 he1
  have h2 := Lib.bitLen_le8' e he0 he1
  have h3 : e.toNat = x.toNat / 2 ^ k := by
    have hc : x = (x.toNat : Int) := by omega
    rw [he, hc]
    rfl
  have h4 : Lib.bitLen x.toNat = k + Lib.bitLen (x.toNat / 2 ^ k) := by
    rcases hk1 with rfl | hk1
    · simp
    · exact Lib.bitLen_shift k x.toNat (by have : ((2 ^ k : Nat) : Int) = (2 : Int) ^ k := by simp
                                           omega) (by omega)
  rw [h1, h4, h3]
  rw [h3] at h2
  omega

end Go.Proofs.Ytjaccokmficfdaa

/- What Log2 and Sqrt of package fix answer, as whole numbers. -/
namespace Go.Proofs.Ytjaccokmficfdaa
open Go.RowKit

/-! ### How many bits -/
theorem bitLen_log (x : Nat) (h0 : x ≠ 0) (h : x < 2 ^ 64) : Lib.bitLen x = x.log2 + 1 := by
  have h1 : 2 ^ x.log2 ≤ x := Nat.log2_self_le h0
  have h2 : x < 2 ^ (x.log2 + 1) := Nat.lt_log2_self
  have h3 : x / 2 ^ x.log2 = 1 := by
    have hp : 0 < 2 ^ x.log2 := Nat.two_pow_pos _
    refine Nat.div_eq_of_lt_le (by omega) ?_
    rw [Nat.pow_succ] at h2
    omega
  rw [Lib.bitLen_shift x.log2 x h1 h, h3]
  rfl

/-! ### Log2 -/
def logStep (p : Int × Int) : Int × Int :=
  if 2147483648 ≤ p.1 * p.1 / 1073741824 then (p.1 * p.1 / 1073741824 / 2, p.2 * 2 + 1) else (p.1 * p.1 / 1073741824, p.2 * 2)

def logIter (p : Int × Int) : Nat → Int × Int
  | 0 => p
  | k + 1 => logStep (logIter p k)

def normI (a : Int) (n : Nat) : Int := a * 2 ^ (30 - n) / 2 ^ (n - 30)

def log2I (a : Int) : Int := if a < 1 then 0 else (logIter (normI a a.toNat.log2, (a.toNat.log2 : Int)) 8).2

def InOct (m : Int) : Prop := 1073741824 ≤ m ∧ m < 2147483648

theorem sq_in {m : Int} (h : InOct m) : 1152921504606846976 ≤ m * m ∧ m * m ≤ 4611686014132420609 := by
  obtain ⟨h1, h2⟩ := h
  have a1 : 1073741824 * 1073741824 ≤ m * m := Int.mul_le_mul h1 h1 (by decide) (by omega)
  have a2 : m * m ≤ 2147483647 * 2147483647 := Int.mul_le_mul (by omega) (by omega) (by omega) (by decide)
  omega

theorem logStep_in {p : Int × Int} (h : InOct p.1) : InOct (logStep p).1 := by
  have h1 := sq_in h
  unfold logStep InOct
  split <;> simp only <;> omega

theorem logStep_two {p : Int × Int} : p.2 * 2 ≤ (logStep p).2 ∧ (logStep p).2 ≤ p.2 * 2 + 1 := by
  unfold logStep
  split <;> simp only <;> omega

theorem logIter_in {p : Int × Int} (h : InOct p.1) : ∀ k, InOct (logIter p k).1
  | 0 => h
  | k + 1 => logStep_in (logIter_in h k)

theorem logIter_two {p : Int × Int} : ∀ k, p.2 * 2 ^ k ≤ (logIter p k).2 ∧ (logIter p k).2 < (p.2 + 1) * 2 ^ k
  | 0 => by simp [logIter]; omega
  | k + 1 => by
    have h := logIter_two (p := p) k
    have h2 := logStep_two (p := logIter p k)
    rw [Int.pow_succ, ← Int.mul_assoc, ← Int.mul_assoc]
    show _ ≤ (logStep (logIter p k)).2 ∧ (logStep (logIter p k)).2 < _
    omega

theorem pow_cast (n : Nat) : ((2 ^ n : Nat) : Int) = (2 : Int) ^ n := by simp

theorem log_in (a : Int) (h : 1 ≤ a) (h1 : a ≤ 9223372036854775807) : a.toNat.log2 ≤ 62 ∧ (2 : Int) ^ a.toNat.log2 ≤ a ∧ a < 2 ^ (a.toNat.log2 + 1) := by
  have h0 : a.toNat ≠ 0 := by omega
  have h2 : 2 ^ a.toNat.log2 ≤ a.toNat := Nat.log2_self_le h0
  have h3 : a.toNat < 2 ^ (a.toNat.log2 + 1) := Nat.lt_log2_self
  refine ⟨?_, ?_, ?_⟩
  · have h4 : a.toNat.log2 < 63 := (Nat.log2_lt h0).2 (by omega)
    omega
  · rw [← pow_cast]; omega
  · rw [← pow_cast]; omega

theorem norm_low {a : Int} {n : Nat} (h : (2 : Int) ^ n ≤ a) (h2 : a < 2 ^ (n + 1)) (hn : n ≤ 30) : normI a n = a * 2 ^ (30 - n) ∧ InOct (a * 2 ^ (30 - n)) := by
  have e : n - 30 = 0 := by omega
  refine ⟨by rw [normI, e, Int.pow_zero, Int.ediv_one], ?_⟩
  have hp : (0 : Int) < 2 ^ (30 - n) := Int.pow_pos (by decide)
  have e1 : (2 : Int) ^ n * 2 ^ (30 - n) = 1073741824 := by rw [← Int.pow_add, show n + (30 - n) = 30 by omega]; rfl
  have e2 : (2 : Int) ^ (n + 1) * 2 ^ (30 - n) = 2147483648 := by rw [← Int.pow_add, show n + 1 + (30 - n) = 31 by omega]; rfl
  constructor
  · rw [← e1]; exact Int.mul_le_mul_of_nonneg_right h (by omega)
  · rw [← e2]; exact Int.mul_lt_mul_of_pos_right h2 hp

theorem norm_high {a : Int} {n : Nat} (h : (2 : Int) ^ n ≤ a) (h2 : a < 2 ^ (n + 1)) (hn : 30 ≤ n) : normI a n = a / 2 ^ (n - 30) ∧ InOct (a / 2 ^ (n - 30)) := by
  have e : 30 - n = 0 := by omega
  refine ⟨by rw [normI, e, Int.pow_zero, Int.mul_one], ?_⟩
  have hp : (0 : Int) < 2 ^ (n - 30) := Int.pow_pos (by decide)
  have e1 : 1073741824 * (2 : Int) ^ (n - 30) = 2 ^ n := by
    have : (1073741824 : Int) = 2 ^ 30 := rfl
    rw [this, ← Int.pow_add, show 30 + (n - 30) = n by omega]
  have e2 : 2147483648 * (2 : Int) ^ (n - 30) = 2 ^ (n + 1) := by
    have : (2147483648 : Int) = 2 ^ 31 := rfl
    rw [this, ← Int.pow_add, show 31 + (n - 30) = n + 1 by omega]
  constructor
  · exact (Int.le_ediv_iff_mul_le hp).2 (by omega)
  · exact (Int.ediv_lt_iff_lt_mul hp).2 (by omega)

theorem logStep_hi {p : Int × Int} (h : 2147483648 ≤ p.1 * p.1 / 1073741824) : logStep p = (p.1 * p.1 / 1073741824 / 2, p.2 * 2 + 1) := by rw [logStep, if_pos h]
theorem logStep_lo {p : Int × Int} (h : ¬ 2147483648 ≤ p.1 * p.1 / 1073741824) : logStep p = (p.1 * p.1 / 1073741824, p.2 * 2) := by rw [logStep, if_neg h]

theorem two_pow_le (k : Nat) (h : k ≤ 8) : (2 : Int) ^ k ≤ 256 ∧ 1 ≤ (2 : Int) ^ k := by
  have h1 : (2 : Nat) ^ k ≤ 2 ^ 8 := Nat.pow_le_pow_right (by decide) h
  have h2 := Nat.two_pow_pos k
  have h3 := pow_cast k
  have h4 : (2 : Nat) ^ 8 = 256 := by decide
  omega

theorem logIter_small {p : Int × Int} (h0 : 0 ≤ p.2) (h1 : p.2 ≤ 62) (k : Nat) (hk : k ≤ 8) : 0 ≤ (logIter p k).2 ∧ (logIter p k).2 ≤ 16384 := by
  obtain ⟨a1, a2⟩ := logIter_two (p := p) k
  obtain ⟨b1, b2⟩ := two_pow_le k hk
  have c1 : 0 ≤ p.2 * 2 ^ k := Int.mul_nonneg h0 (by omega)
  have c2 : (p.2 + 1) * 2 ^ k ≤ 63 * 256 := Int.mul_le_mul (by omega) b1 (by omega) (by decide)
  omega

/-! ### Sqrt -/
def isqrt : Nat → Nat
  | 0 => 0
  | n + 1 => if (isqrt n + 1) * (isqrt n + 1) ≤ n + 1 then isqrt n + 1 else isqrt n

theorem isqrt_spec : ∀ n, isqrt n * isqrt n ≤ n ∧ n < (isqrt n + 1) * (isqrt n + 1)
  | 0 => by simp [isqrt]
  | n + 1 => by
    have h := isqrt_spec n
    unfold isqrt
    split
    · rename_i h1
      refine ⟨h1, ?_⟩
      have e : (isqrt n + 1 + 1) * (isqrt n + 1 + 1) = (isqrt n + 1) * (isqrt n + 1) + 2 * (isqrt n + 1) + 1 := by
        rw [Nat.add_mul, Nat.mul_add, Nat.mul_add]; omega
      omega
    · omega

theorem isqrt_unique {n r : Nat} (h1 : r * r ≤ n) (h2 : n < (r + 1) * (r + 1)) : r = isqrt n := by
  obtain ⟨g1, g2⟩ := isqrt_spec n
  have a1 : r < isqrt n + 1 := Nat.mul_self_lt_mul_self_iff.1 (by omega)
  have a2 : isqrt n < r + 1 := Nat.mul_self_lt_mul_self_iff.1 (by omega)
  omega

def sqrtI (a : Int) : Int := (isqrt a.toNat : Nat)

/-- Newton's step from above stays above the root. -/
theorem newton_above {a r : Int} (ha : 0 ≤ a) (hr : 1 ≤ r) : sqrtI a ≤ (r + a / r) / 2 := by
  obtain ⟨g1, _⟩ := isqrt_spec a.toNat
  have hs : (isqrt a.toNat : Int) * (isqrt a.toNat : Int) ≤ a := by
    have h : ((isqrt a.toNat * isqrt a.toNat : Nat) : Int) ≤ (a.toNat : Int) := Int.ofNat_le.2 g1
    rw [Int.natCast_mul] at h
    omega
  show (isqrt a.toNat : Int) ≤ _
  generalize (isqrt a.toNat : Int) = s at *
  have h1 : 2 * s - r ≤ a / r := by
    rw [Int.le_ediv_iff_mul_le (by omega)]
    have h2 : 0 ≤ (s - r) * (s - r) := by
      rcases Int.le_total 0 (s - r) with h | h
      · exact Int.mul_nonneg h h
      · exact Int.mul_nonneg_of_nonpos_of_nonpos h h
    have e1 : (s - r) * (s - r) = s * s - 2 * (s * r) + r * r := by
      rw [Int.sub_mul, Int.mul_sub, Int.mul_sub, Int.mul_comm r s]; omega
    have e2 : (2 * s - r) * r = 2 * (s * r) - r * r := by rw [Int.sub_mul, Int.mul_assoc]
    omega
  omega

/-- Where the step doesn't fall, the root is reached. -/
theorem newton_end {a r : Int} (ha : 0 ≤ a) (hr : 1 ≤ r) (h : sqrtI a ≤ r) (h1 : r ≤ (r + a / r) / 2) : r = sqrtI a := by
  obtain ⟨_, g2⟩ := isqrt_spec a.toNat
  have hd : r ≤ a / r := by omega
  have hm : r * r ≤ a := (Int.le_ediv_iff_mul_le (by omega)).1 hd
  have hn : r.toNat * r.toNat ≤ a.toNat := by
    have e : ((r.toNat * r.toNat : Nat) : Int) = r * r := by rw [Int.natCast_mul, Int.toNat_of_nonneg (by omega)]
    omega
  have hle : r.toNat < isqrt a.toNat + 1 := Nat.mul_self_lt_mul_self_iff.1 (by omega)
  have hs : sqrtI a = (isqrt a.toNat : Int) := rfl
  omega

theorem newton_room {a r : Int} (hs : 1 ≤ sqrtI a) (h : sqrtI a ≤ r) (ha : 0 ≤ a) : a / r ≤ sqrtI a + 2 := by
  obtain ⟨_, g2⟩ := isqrt_spec a.toNat
  have e : ((isqrt a.toNat + 1) * (isqrt a.toNat + 1) : Nat) = (sqrtI a + 1) * (sqrtI a + 1) := by rw [Int.natCast_mul]; rfl
  have g3 : a < (sqrtI a + 1) * (sqrtI a + 1) := by omega
  generalize sqrtI a = s at *
  have h1 : (s + 3) * s ≤ (s + 3) * r := Int.mul_le_mul_of_nonneg_left h (by omega)
  have e1 : (s + 1) * (s + 1) = s * s + 2 * s + 1 := by rw [Int.add_mul, Int.mul_add]; omega
  have e2 : (s + 3) * s = s * s + 3 * s := Int.add_mul _ _ _
  have h2 : a / r < s + 3 := Int.ediv_lt_of_lt_mul (by omega) (by omega)
  omega

theorem sqrt_start {a : Int} {n : Nat} (ha : 1 ≤ a) (h : a < 2 ^ (n + 1)) : sqrtI a ≤ 2 ^ ((n + 2) / 2) := by
  obtain ⟨g1, _⟩ := isqrt_spec a.toNat
  have h1 : a.toNat < 2 ^ (n + 1) := by have := pow_cast (n + 1); omega
  have h2 : isqrt a.toNat < 2 ^ ((n + 2) / 2) := by
    refine Nat.mul_self_lt_mul_self_iff.1 ?_
    rw [← Nat.pow_add]
    have h3 : 2 ^ (n + 1) ≤ 2 ^ ((n + 2) / 2 + (n + 2) / 2) := Nat.pow_le_pow_right (by decide) (by omega)
    omega
  have h4 := pow_cast ((n + 2) / 2)
  have hs : sqrtI a = (isqrt a.toNat : Int) := rfl
  omega

end Go.Proofs.Ytjaccokmficfdaa

/- What Sum, Exp2, Cos and Sin of package fix answer, as whole numbers, and that the law's own examples hold. -/
namespace Go.Proofs.Ytjaccokmficfdaa
open Go.RowKit

/-! ### Sum -/
def sumStep (s a : Int) : Int := clampI (s + clampI a (-1099511627776) 1099511627776) (-72057594037927936) 72057594037927936
def sumI (l : List Int) : Int := l.foldl sumStep 0

theorem sumStep_in (s a : Int) : -72057594037927936 ≤ sumStep s a ∧ sumStep s a ≤ 72057594037927936 := clampI_in _ _ _ (by decide)

theorem fold_in (f : Int → Int → Int) (lo hi : Int) (hf : ∀ s a, lo ≤ f s a ∧ f s a ≤ hi) (s : Int) (hs : lo ≤ s ∧ s ≤ hi) : ∀ l : List Int, lo ≤ l.foldl f s ∧ l.foldl f s ≤ hi
  | [] => hs
  | a :: l => fold_in f lo hi hf (f s a) (hf s a) l

theorem sumI_in (l : List Int) : -72057594037927936 ≤ sumI l ∧ sumI l ≤ 72057594037927936 := fold_in sumStep _ _ sumStep_in 0 (by decide) l

theorem take_step (zs : List Int) (k : Nat) (h : k < zs.length) : zs.take (k + 1) = zs.take k ++ [zs[k]?.getD 0] := by
  rw [List.take_succ_eq_append_getElem h, List.getElem?_eq_getElem h]; rfl

/-! ### Cosines -/
theorem mul30_in (a b : Int) : -4294967297 ≤ mulI a b 30 ∧ mulI a b 30 ≤ 4294967297 := by
  have h := prod_in (cf_in a) (cf_in b)
  have e : mulI a b 30 = (cf a * cf b + 536870912) / 1073741824 := by
    rw [mulI, if_neg (by decide), if_neg (by decide), if_neg (by decide)]; rfl
  rw [e]
  omega

def serStep (z s v : Int) : Int := v + mulI z s 30
def serI (z : Int) (l : List Int) : Int := l.foldl (serStep z) 0

theorem series_any (z : Int) (zs : List Int) (b off : Nat) (w : World) (hl : zs.length ≤ 9223372036854775807)
    (hc : ∀ i, i < zs.length → w.cell? ⟨b, off + i, none⟩ = some (.int .i64 (zs[i]?.getD 0))) (hz : ∀ i : Nat, -4294967296 ≤ zs[i]?.getD 0 ∧ zs[i]?.getD 0 ≤ 4294967296) (cap : Nat) :
    Calls Try.prog 74 #[.int .i64 z, .slice (some ⟨b, off, none⟩) zs.length cap] w fun e w' => e = .returned (.int .i64 (serI z zs)) ∧ w' = w := by
  go_enter Try.func74, Try.ntmps74
  go_wp2
  go_loop [5, 7, 10] (fun s _ i => ∃ k : Nat, k ≤ zs.length ∧ i = .int .i64 k ∧ s = .int .i64 (serI z (zs.take k))) (fun _ _ i => zs.length - (intOf i).toNat)
  case atStart => exact ⟨0, Nat.zero_le _, rfl, rfl⟩
  case round =>
    obtain ⟨k, hk, rfl, rfl⟩ := hrel
    by_cases hlt : k < zs.length
    · have hck := hc k hlt
      have hzk := hz k
      have hmi := mul30_in z (serI z (zs.take k))
      have HS : Hid (serI z (zs.take (k + 1)) = serStep z (serI z (zs.take k)) (zs[k]?.getD 0)) := by
        show serI z (zs.take (k + 1)) = _
        rw [take_step zs k hlt, serI, List.foldl_append]; rfl
      clear hc hz
      generalize zs[k]?.getD 0 = v at hck hzk HS
      go_wp2_with (go_at_call 25; refine (mul_any _ _ _ _).mono ?_; rintro e w' ⟨rfl, rfl⟩)
      go_round
      case rel => exact ⟨k + 1, by omega, by go_num, by rw [HS.out]; rfl⟩
      case measure => simp [intOf]; omega
    · go_wp2
      go_ret
      exact ⟨ret_int (by rw [List.take_of_length_le (by omega)]), rfl⟩

theorem arc_any (a : Int) (w : World) :
    Calls Try.prog 73 #[.int .i64 a] w fun e w' => e = .returned (.int .i64 (mulI a 1686629713 14)) ∧ w' = w := by
  go_enter Try.func73, Try.ntmps73
  go_wp2_with (go_at_call 25; refine (mul_any _ _ _ _).mono ?_; rintro e w' ⟨rfl, rfl⟩)
  go_ret
  exact ⟨rfl, rfl⟩

def serLow : List Int := [-296, 26631, -1491308, 44739243, -536870912, 1073741824]
def serHigh : List Int := [2959, -213044, 8947849, -178956971, 1073741824]

def quarterI (a : Int) : Int :=
  if a ≤ 8192 then mulI (serI (mulI (mulI a 1686629713 14) (mulI a 1686629713 14) 30) serLow) 1 15
  else mulI (mulI (mulI (16384 - a) 1686629713 14) (serI (mulI (mulI (16384 - a) 1686629713 14) (mulI (16384 - a) 1686629713 14) 30) serHigh) 30) 1 15

theorem at_list (P : Int → Prop) (h0 : P 0) : ∀ (l : List Int), (∀ x ∈ l, P x) → ∀ i : Nat, P (l[i]?.getD 0)
  | [], _, i => by simpa using h0
  | x :: l, h, 0 => by simpa using h x (by simp)
  | x :: l, h, i + 1 => by simpa using at_list P h0 l (fun y hy => h y (by simp [hy])) i

theorem ser_low (z : Int) (w : World) :
    Calls Try.prog 74 #[.int .i64 z, .slice (some ⟨w.heap.size, 0, none⟩) 6 6] (w.alloc (.cells #[.int .i64 (-296), .int .i64 26631, .int .i64 (-1491308), .int .i64 44739243, .int .i64 (-536870912), .int .i64 1073741824] 2)) fun e w' => e = .returned (.int .i64 (serI z serLow)) ∧ w' = (w.alloc (.cells #[.int .i64 (-296), .int .i64 26631, .int .i64 (-1491308), .int .i64 44739243, .int .i64 (-536870912), .int .i64 1073741824] 2)) :=
  series_any z serLow w.heap.size 0 _ (by decide) (fun i hi => by
    rw [World.cell?_alloc_new]
    have h : i = 0 ∨ i = 1 ∨ i = 2 ∨ i = 3 ∨ i = 4 ∨ i = 5 := by simp [serLow] at hi; omega
    rcases h with rfl | rfl | rfl | rfl | rfl | rfl <;> rfl)
    (at_list (fun x => -4294967296 ≤ x ∧ x ≤ 4294967296) (by decide) serLow (by decide)) 6

theorem ser_high (z : Int) (w : World) :
    Calls Try.prog 74 #[.int .i64 z, .slice (some ⟨w.heap.size, 0, none⟩) 5 5] (w.alloc (.cells #[.int .i64 2959, .int .i64 (-213044), .int .i64 8947849, .int .i64 (-178956971), .int .i64 1073741824] 2)) fun e w' => e = .returned (.int .i64 (serI z serHigh)) ∧ w' = (w.alloc (.cells #[.int .i64 2959, .int .i64 (-213044), .int .i64 8947849, .int .i64 (-178956971), .int .i64 1073741824] 2)) :=
  series_any z serHigh w.heap.size 0 _ (by decide) (fun i hi => by
    rw [World.cell?_alloc_new]
    have h : i = 0 ∨ i = 1 ∨ i = 2 ∨ i = 3 ∨ i = 4 := by simp [serHigh] at hi; omega
    rcases h with rfl | rfl | rfl | rfl | rfl <;> rfl)
    (at_list (fun x => -4294967296 ≤ x ∧ x ≤ 4294967296) (by decide) serHigh (by decide)) 5

theorem quarter_any (a : Int) (w : World) (h0 : 0 ≤ a) (h1 : a ≤ 16384) :
    Calls Try.prog 72 #[.int .i64 a] w fun e w' => e = .returned (.int .i64 (quarterI a)) ∧ Below w.heap.size w w' := by
  by_cases hc : a ≤ 8192
  · have e : quarterI a = mulI (serI (mulI (mulI a 1686629713 14) (mulI a 1686629713 14) 30) serLow) 1 15 := by rw [quarterI, if_pos hc]
    rw [e]; clear e
    go_enter Try.func72, Try.ntmps72
    go_wp2_with (first
      | (go_at_call 73; refine (arc_any _ _).mono ?_; rintro e w' ⟨rfl, rfl⟩)
      | (go_at_call 74; refine (ser_low _ _).mono ?_; rintro e w' ⟨rfl, rfl⟩)
      | (go_at_call 25; refine (mul_any _ _ _ _).mono ?_; rintro e w' ⟨rfl, rfl⟩))
    go_ret
    exact ⟨rfl, (Below.refl _ _).alloc (Nat.le_refl _) _⟩
  · have e : quarterI a = mulI (mulI (mulI (16384 - a) 1686629713 14) (serI (mulI (mulI (16384 - a) 1686629713 14) (mulI (16384 - a) 1686629713 14) 30) serHigh) 30) 1 15 := by rw [quarterI, if_neg hc]
    rw [e]; clear e
    go_enter Try.func72, Try.ntmps72
    go_wp2_with (first
      | (go_at_call 73; refine (arc_any _ _).mono ?_; rintro e w' ⟨rfl, rfl⟩)
      | (go_at_call 74; refine (ser_high _ _).mono ?_; rintro e w' ⟨rfl, rfl⟩)
      | (go_at_call 25; refine (mul_any _ _ _ _).mono ?_; rintro e w' ⟨rfl, rfl⟩))
    go_ret
    exact ⟨rfl, (Below.refl _ _).alloc (Nat.le_refl _) _⟩

theorem mul15_in (a : Int) : -65537 ≤ mulI a 1 15 ∧ mulI a 1 15 ≤ 65537 := by
  have h := cf_in a
  have e : mulI a 1 15 = (cf a * cf 1 + 16384) / 32768 := by
    rw [mulI, if_neg (by decide), if_neg (by decide), if_neg (by decide)]; rfl
  have e1 : cf 1 = 1 := by decide
  rw [e, e1]
  omega

theorem quarterI_in (a : Int) : -65537 ≤ quarterI a ∧ quarterI a ≤ 65537 := by
  unfold quarterI
  split <;> exact mul15_in _

/-- The cosine of an angle from 0 to a half turn. -/
def halfI (a : Int) : Int := if 16384 < a then -(quarterI (32768 - a)) else quarterI a
def cosI (a : Int) : Int := halfI (if 32768 < a % 65536 then 65536 - a % 65536 else a % 65536)
def sinI (a : Int) : Int := cosI (a % 65536 - 16384)

theorem cos_any (a : Int) (w : World) :
    Calls Try.prog 67 #[.int .i64 a] w fun e w' => e = .returned (.int .i64 (cosI a)) ∧ Below w.heap.size w w' := by
  have hm : 0 ≤ a % 65536 ∧ a % 65536 < 65536 := by omega
  unfold cosI halfI
  generalize hq : a % 65536 = q at *
  have hq' : Hid (a % 65536 = q) := hq
  clear hq
  by_cases h1 : 32768 < q
  · rw [if_pos h1]
    by_cases h2 : 16384 < 65536 - q
    · rw [if_pos h2]
      have hb := quarterI_in (32768 - (65536 - q))
      go_enter Try.func67, Try.ntmps67
      go_wp2_with (first
        | (go_at_call 71; refine (wrap_any _ _).mono ?_; rw [hq'.out]; rintro e w' ⟨rfl, rfl⟩)
        | (go_at_call 72; refine (quarter_any _ _ (by omega) (by omega)).mono ?_; rintro e w1 ⟨rfl, hw1⟩))
      go_ret
      exact ⟨rfl, hw1⟩
    · rw [if_neg h2]
      go_enter Try.func67, Try.ntmps67
      go_wp2_with (first
        | (go_at_call 71; refine (wrap_any _ _).mono ?_; rw [hq'.out]; rintro e w' ⟨rfl, rfl⟩)
        | (go_at_call 72; refine (quarter_any _ _ (by omega) (by omega)).mono ?_; rintro e w1 ⟨rfl, hw1⟩))
      go_ret
      exact ⟨rfl, hw1⟩
  · rw [if_neg h1]
    by_cases h2 : 16384 < q
    · rw [if_pos h2]
      have hb := quarterI_in (32768 - q)
      go_enter Try.func67, Try.ntmps67
      go_wp2_with (first
        | (go_at_call 71; refine (wrap_any _ _).mono ?_; rw [hq'.out]; rintro e w' ⟨rfl, rfl⟩)
        | (go_at_call 72; refine (quarter_any _ _ (by omega) (by omega)).mono ?_; rintro e w1 ⟨rfl, hw1⟩))
      go_ret
      exact ⟨rfl, hw1⟩
    · rw [if_neg h2]
      go_enter Try.func67, Try.ntmps67
      go_wp2_with (first
        | (go_at_call 71; refine (wrap_any _ _).mono ?_; rw [hq'.out]; rintro e w' ⟨rfl, rfl⟩)
        | (go_at_call 72; refine (quarter_any _ _ (by omega) (by omega)).mono ?_; rintro e w1 ⟨rfl, hw1⟩))
      go_ret
      exact ⟨rfl, hw1⟩

/-! ### Exp2 -/
def rootsArr : Array Value := #[.int .i64 1518500250, .int .i64 1276901417, .int .i64 1170923762, .int .i64 1121280436, .int .i64 1097253708, .int .i64 1085434106, .int .i64 1079572136, .int .i64 1076653033]

def rootAt : Nat → Int
  | 0 => 1518500250
  | 1 => 1276901417
  | 2 => 1170923762
  | 3 => 1121280436
  | 4 => 1097253708
  | 5 => 1085434106
  | 6 => 1079572136
  | 7 => 1076653033
  | _ => 0

def expStep (q r : Int) (k : Nat) : Int := if q / 2 ^ (7 - k) % 2 = 1 then mulI r (rootAt k) 30 else r
def expIter (q : Int) : Nat → Int
  | 0 => 1073741824
  | k + 1 => expStep q (expIter q k) k
def exp2I (q : Int) : Int := mulI (expIter (clampI q 0 7935) 8) 1 (30 - clampI q 0 7935 / 256)

theorem and1 (n : Int) : bits .and .i64 n 1 = n % 2 := by
  have hm : (BitVec.ofInt 64 1).toNat = 2 ^ 1 - 1 := by decide
  have key : (BitVec.ofInt 64 n &&& BitVec.ofInt 64 1).toNat = (n % ((2 ^ 64 : Nat) : Int)).toNat % 2 ^ 1 := by
    rw [BitVec.toNat_and, BitVec.toNat_ofInt, hm, Nat.and_two_pow_sub_one_eq_mod]
  show IntKind.i64.wrap ((BitVec.ofInt 64 n &&& BitVec.ofInt 64 1).toNat : Nat) = n % 2
  rw [key, IntKind.wrap_i64]
  omega

theorem expIter_yes {q : Int} {k : Nat} (h : q / 2 ^ (7 - k) % 2 = 1) : expIter q (k + 1) = mulI (expIter q k) (rootAt k) 30 := by
  show expStep q (expIter q k) k = _
  rw [expStep, if_pos h]

theorem expIter_no {q : Int} {k : Nat} (h : ¬ q / 2 ^ (7 - k) % 2 = 1) : expIter q (k + 1) = expIter q k := by
  show expStep q (expIter q k) k = _
  rw [expStep, if_neg h]

end Go.Proofs.Ytjaccokmficfdaa

/- What the document's own answers of chapter 1 (the reference) come to: the same whole numbers as the program's: clamps, products, quotients, sums, lengths. -/
namespace Go.Proofs.Ytjaccokmficfdaa
open Go.RowKit

theorem rclamp_any (a lo hi : Int) (w : World) :
    Calls Try.prog 31 #[.int .i64 a, .int .i64 lo, .int .i64 hi] w fun e w' => e = .returned (.int .i64 (clampI a lo hi)) ∧ w' = w := by
  unfold clampI
  by_cases h1 : a < lo
  · go_enter Try.func31, Try.ntmps31
    go_wp2
    go_ret
    simp
  · by_cases h2 : hi < lo
    · go_enter Try.func31, Try.ntmps31
      go_wp2
      go_ret
      simp
    · by_cases h3 : hi < a
      all_goals
        go_enter Try.func31, Try.ntmps31
        go_wp2
        go_ret
        simp

theorem pow_half (s : Int) (h1 : 0 ≤ s) (h3 : ¬ s = 0) : (2 : Int) ^ s.toNat = 2 * 2 ^ (s.toNat - 1) := by
  obtain ⟨n, hn⟩ : ∃ n, s.toNat = n + 1 := ⟨s.toNat - 1, by omega⟩
  rw [hn, Int.pow_succ, Int.mul_comm]
  rfl

theorem round_up {p H Q : Int} (hH : 1 ≤ H) (hQ : Q = p / (2 * H)) : (H ≤ p - Q * (2 * H) → Q + 1 = (p + H) / (2 * H)) ∧ (p - Q * (2 * H) < H → Q = (p + H) / (2 * H)) := by
  have k1 := Int.ediv_mul_le p (show 2 * H ≠ 0 by omega)
  have k2 := Int.lt_ediv_add_one_mul_self p (show 0 < 2 * H by omega)
  rw [← hQ] at k1 k2
  rw [Int.add_mul, Int.one_mul] at k2
  constructor
  · intro h
    refine ((Int.ediv_emod_unique (a := p + H) (b := 2 * H) (r := p + H - (Q + 1) * (2 * H)) (q := Q + 1) (by omega)).2 ?_).1.symm
    rw [Int.add_mul, Int.one_mul]
    refine ⟨?_, by omega, by omega⟩
    rw [Int.mul_comm (2 * H) (Q + 1), Int.add_mul, Int.one_mul]
    omega
  · intro h
    refine ((Int.ediv_emod_unique (a := p + H) (b := 2 * H) (r := p + H - Q * (2 * H)) (q := Q) (by omega)).2 ?_).1.symm
    refine ⟨?_, by omega, by omega⟩
    rw [Int.mul_comm (2 * H) Q]
    omega

theorem rmul_any (a b s : Int) (w : World) :
    Calls Try.prog 33 #[.int .i64 a, .int .i64 b, .int .i64 s] w fun e w' => e = .returned (.int .i64 (mulI a b s)) ∧ w' = w := by
  have hp := prod_in (cf_in a) (cf_in b)
  have hca : clampI a (-2147483648) 2147483648 = cf a := rfl
  have hcb : clampI b (-2147483648) 2147483648 = cf b := rfl
  by_cases h1 : s < 0
  · have e : mulI a b s = 0 := by simp [mulI, h1]
    rw [e]; clear e
    go_enter Try.func33, Try.ntmps33
    go_wp2_with (go_at_call 31; refine (rclamp_any _ _ _ _).mono ?_; rintro e w' ⟨rfl, rfl⟩)
    go_ret
    exact ⟨rfl, rfl⟩
  · by_cases h2 : 62 < s
    · have e : mulI a b s = 0 := by simp [mulI, h2]
      rw [e]; clear e
      go_enter Try.func33, Try.ntmps33
      go_wp2_with (go_at_call 31; refine (rclamp_any _ _ _ _).mono ?_; rintro e w' ⟨rfl, rfl⟩)
      go_ret
      exact ⟨rfl, rfl⟩
    · by_cases h3 : s = 0
      · subst h3
        have e : mulI a b 0 = cf a * cf b := by simp [mulI]
        rw [e]; clear e
        go_enter Try.func33, Try.ntmps33
        go_wp2_with (go_at_call 31; refine (rclamp_any _ _ _ _).mono ?_; rintro e w' ⟨rfl, rfl⟩)
        go_ret
        exact ⟨rfl, rfl⟩
      · have e : mulI a b s = (cf a * cf b + 2 ^ (s.toNat - 1)) / 2 ^ s.toNat := by simp [mulI, h1, h2, h3]
        have hq := pow2_in (s.toNat - 1) (by omega)
        have hh := pow_half s (by omega) h3
        have hr := @round_up (cf a * cf b) (2 ^ (s.toNat - 1)) (cf a * cf b / 2 ^ s.toNat) hq.1 (by rw [← hh])
        rw [← hh, ← e] at hr
        have k1 := Int.ediv_mul_le (cf a * cf b) (show (2 : Int) ^ s.toNat ≠ 0 by omega)
        have k2 := Int.lt_ediv_add_one_mul_self (cf a * cf b) (show (0 : Int) < 2 ^ s.toNat by omega)
        rw [Int.add_mul, Int.one_mul] at k2
        have HE := hr.1
        have HE2 := hr.2
        clear hr e
        have hqb : -4611686018427387904 ≤ cf a * cf b / 2 ^ s.toNat ∧ cf a * cf b / 2 ^ s.toNat ≤ 4611686018427387904 := by
          constructor
          · refine (Int.le_ediv_iff_mul_le (by omega)).2 ?_
            have : (4611686018427387904 : Int) * 1 ≤ 4611686018427387904 * 2 ^ s.toNat := Int.mul_le_mul_of_nonneg_left (by omega) (by decide)
            omega
          · have h5 : cf a * cf b / 2 ^ s.toNat < 4611686018427387905 := by
              refine (Int.ediv_lt_iff_lt_mul (by omega)).2 ?_
              have : (4611686018427387905 : Int) * 1 ≤ 4611686018427387905 * 2 ^ s.toNat := Int.mul_le_mul_of_nonneg_left (by omega) (by decide)
              omega
            omega
        generalize mulI a b s = R at *
        generalize hX : cf a * cf b / 2 ^ s.toNat * 2 ^ s.toNat = X at *
        have hb1 : -9223372036854775807 ≤ X ∧ X ≤ 4611686018427387904 := by omega
        have hb2 : 0 ≤ cf a * cf b - X ∧ cf a * cf b - X < 2 * 2 ^ (s.toNat - 1) := by omega
        clear hh
        by_cases hc : (2 : Int) ^ (s.toNat - 1) ≤ cf a * cf b - X
        · have HR : Hid (cf a * cf b / 2 ^ s.toNat + 1 = R) := HE hc
          clear HE HE2 k1 k2
          go_enter Try.func33, Try.ntmps33
          go_wp2_with (go_at_call 31; refine (rclamp_any _ _ _ _).mono ?_; rintro e w' ⟨rfl, rfl⟩)
          go_ret
          exact ⟨ret_int HR.out, rfl⟩
        · have HR : Hid (cf a * cf b / 2 ^ s.toNat = R) := HE2 (by omega)
          clear HE HE2 k1 k2
          go_enter Try.func33, Try.ntmps33
          go_wp2_with (go_at_call 31; refine (rclamp_any _ _ _ _).mono ?_; rintro e w' ⟨rfl, rfl⟩)
          go_ret
          exact ⟨ret_int HR.out, rfl⟩

theorem rdown_any (a d : Int) (w : World) (ha : -4611686018427387904 ≤ a) (ha' : a ≤ 4611686018427387904) (hd : 1 ≤ d) :
    Calls Try.prog 32 #[.int .i64 a, .int .i64 d] w fun e w' => e = .returned (.int .i64 (a / d)) ∧ w' = w := by
  by_cases h0 : 0 ≤ a
  · have hm : 0 ≤ a % d := Int.emod_nonneg _ (by omega)
    go_enter Try.func32, Try.ntmps32
    go_wp2
    go_ret
    exact ⟨rfl, rfl⟩
  · have hi := tdiv_in (b := d) ha ha'
    have e1 : a.tdiv d = a / d + if 0 ≤ a ∨ d ∣ a then 0 else d.sign := Int.tdiv_eq_ediv
    have hs : d.sign = 1 := Int.sign_eq_one_of_pos (by omega)
    rw [hs] at e1
    by_cases hdv : d ∣ a
    · have hz : a.tmod d = 0 := Int.tmod_eq_zero_of_dvd hdv
      rw [if_pos (.inr hdv), Int.add_zero] at e1
      rw [← e1]; clear e1
      have hz2 : ¬ a.tmod d < 0 := by omega
      clear hz
      go_enter Try.func32, Try.ntmps32
      go_wp2
      go_ret
      exact ⟨rfl, rfl⟩
    · have hz : a.tmod d < 0 := by
        have h1 : ¬ a.tmod d = 0 := fun h => hdv (Int.dvd_of_tmod_eq_zero h)
        have h2 := Int.tmod_add_mul_tdiv a d
        have h3 : a.tmod d ≤ 0 := by
          have : 0 ≤ (-a).tmod d := Int.tmod_nonneg _ (by omega)
          rw [Int.neg_tmod] at this
          omega
        omega
      rw [if_neg (by rintro (h | h); exact h0 h; exact hdv h)] at e1
      have e2 : a / d = a.tdiv d - 1 := by omega
      rw [e2]; clear e1 e2
      go_enter Try.func32, Try.ntmps32
      go_wp2
      go_ret
      exact ⟨rfl, rfl⟩

theorem cf_zero {b : Int} (h : cf b = 0) : b = 0 := by
  rcases Int.decEq b 0 with h0 | h0
  · exact absurd h (cf_ne h0)
  · exact h0

theorem rdiv_any (a b s : Int) (w : World) :
    Calls Try.prog 34 #[.int .i64 a, .int .i64 b, .int .i64 s] w fun e w' => e = .returned (.int .i64 (divI a b s)) ∧ w' = w := by
  have hca : clampI a (-2147483648) 2147483648 = cf a := rfl
  have hcb : clampI b (-2147483648) 2147483648 = cf b := rfl
  have ia := cf_in a
  have ib := cf_in b
  by_cases hb : b = 0
  · have e : divI a b s = 0 := by simp [divI, hb]
    have e0 : cf b = 0 := by subst hb; rfl
    rw [e]; clear e hb
    go_enter Try.func34, Try.ntmps34
    go_wp2_with (go_at_call 31; refine (rclamp_any _ _ _ _).mono ?_; rintro e w' ⟨rfl, rfl⟩)
    go_ret
    exact ⟨rfl, rfl⟩
  · have hn := cf_ne hb
    have hnb : (cf b == 0) = false := by simpa using hn
    by_cases h1 : s < 0
    · have e : divI a b s = 0 := by simp [divI, h1]
      rw [e]; clear e hb
      go_enter Try.func34, Try.ntmps34
      go_wp2_with (go_at_call 31; refine (rclamp_any _ _ _ _).mono ?_; rintro e w' ⟨rfl, rfl⟩)
      go_ret
      exact ⟨rfl, rfl⟩
    · by_cases h2 : 30 < s
      · have e : divI a b s = 0 := by simp [divI, h2]
        rw [e]; clear e hb
        go_enter Try.func34, Try.ntmps34
        go_wp2_with (go_at_call 31; refine (rclamp_any _ _ _ _).mono ?_; rintro e w' ⟨rfl, rfl⟩)
        go_ret
        exact ⟨rfl, rfl⟩
      · have hi := shl_in a s (by omega) (by omega)
        have hp : 1 ≤ (2 : Int) ^ s.toNat ∧ (2 : Int) ^ s.toNat ≤ 1073741824 := by
          have g1 : (2 : Nat) ^ s.toNat ≤ 2 ^ 30 := Nat.pow_le_pow_right (by decide) (by omega)
          have g2 := Nat.two_pow_pos s.toNat
          have g3 := pow_cast s.toNat
          have g4 : (2 : Nat) ^ 30 = 1073741824 := by decide
          omega
        by_cases hneg : cf b < 0
        · have e : divI a b s = -(cf a) * 2 ^ s.toNat / -(cf b) := by
            have e1 : divI a b s = (cf a * 2 ^ s.toNat).fdiv (cf b) := by simp [divI, hb, h1, h2]
            rw [e1, ← Int.fdiv_eq_ediv_of_nonneg _ (show 0 ≤ -(cf b) by omega), Int.neg_mul, Int.neg_fdiv_neg]
          have hi2 : -4611686018427387904 ≤ -(cf a) * 2 ^ s.toNat ∧ -(cf a) * 2 ^ s.toNat ≤ 4611686018427387904 := by rw [Int.neg_mul]; omega
          rw [e]; clear e hb hi
          go_enter Try.func34, Try.ntmps34
          go_wp2_with (first
            | (go_at_call 31; refine (rclamp_any _ _ _ _).mono ?_; rintro e w' ⟨rfl, rfl⟩)
            | (go_at_call 32; go_loud (refine (rdown_any _ _ _ ?_ ?_ ?_).mono ?_); omega; omega; omega; rintro e w' ⟨rfl, rfl⟩))
          go_ret
          exact ⟨ret_int (Int.ediv_neg _ _).symm, rfl⟩
        · have e : divI a b s = cf a * 2 ^ s.toNat / cf b := by
            have e1 : divI a b s = (cf a * 2 ^ s.toNat).fdiv (cf b) := by simp [divI, hb, h1, h2]
            rw [e1, Int.fdiv_eq_ediv_of_nonneg _ (show 0 ≤ cf b by omega)]
          rw [e]; clear e hb
          go_enter Try.func34, Try.ntmps34
          go_wp2_with (first
            | (go_at_call 31; refine (rclamp_any _ _ _ _).mono ?_; rintro e w' ⟨rfl, rfl⟩)
            | (go_at_call 32; go_loud (refine (rdown_any _ _ _ ?_ ?_ ?_).mono ?_); omega; omega; omega; rintro e w' ⟨rfl, rfl⟩))
          go_ret
          exact ⟨rfl, rfl⟩

theorem bitLen_none : Lib.bitLen 0 = 0 := rfl

end Go.Proofs.Ytjaccokmficfdaa

/- What the document's own answers of chapter 1 (the reference) come to: logarithms, powers, roots, cosines. -/
namespace Go.Proofs.Ytjaccokmficfdaa
open Go.RowKit

/-! ### Log2 -/
theorem logIter_shift (m l : Int) (k : Nat) : logIter (m, l) k = ((logIter (m, 0) k).1, l * 2 ^ k + (logIter (m, 0) k).2) := by
  induction k with
  | zero => simp [logIter]
  | succ k ih =>
    show logStep (logIter (m, l) k) = ((logStep (logIter (m, 0) k)).1, l * 2 ^ (k + 1) + (logStep (logIter (m, 0) k)).2)
    rw [ih]
    generalize logIter (m, 0) k = q
    unfold logStep
    rw [Int.pow_succ, ← Int.mul_assoc]
    simp only
    split
    · simp only [Prod.mk.injEq, true_and]; omega
    · simp only [Prod.mk.injEq, true_and]; omega

/-! ### Exp2 -/
def rootsList : List Int := [1518500250, 1276901417, 1170923762, 1121280436, 1097253708, 1085434106, 1079572136, 1076653033]

theorem root_cell (w : World) : ∀ k : Nat, k < 8 → (w.alloc (.cells rootsArr 2)).cell? ⟨w.heap.size, k, none⟩ = some (.int .i64 (rootAt k)) := fun k hk => by
  rw [World.cell?_alloc_new]
  have h : k = 0 ∨ k = 1 ∨ k = 2 ∨ k = 3 ∨ k = 4 ∨ k = 5 ∨ k = 6 ∨ k = 7 := by omega
  rcases h with rfl | rfl | rfl | rfl | rfl | rfl | rfl | rfl <;> rfl

/-! ### Sqrt -/
theorem sqrtI_unique {a r : Int} (h0 : 0 ≤ a) (hr : 0 ≤ r) (h1 : r * r ≤ a) (h2 : a < (r + 1) * (r + 1)) : r = sqrtI a := by
  have e1 : ((r.toNat * r.toNat : Nat) : Int) = r * r := by rw [Int.natCast_mul, Int.toNat_of_nonneg hr]
  have e2 : (((r.toNat + 1) * (r.toNat + 1) : Nat) : Int) = (r + 1) * (r + 1) := by rw [Int.natCast_mul, Int.natCast_add, Int.toNat_of_nonneg hr]; rfl
  have h := isqrt_unique (n := a.toNat) (r := r.toNat) (by omega) (by omega)
  have e3 : sqrtI a = ((isqrt a.toNat : Nat) : Int) := rfl
  rw [e3, ← h]
  omega

theorem pow_range (j : Nat) (h : j ≤ 31) : 1 ≤ (2 : Int) ^ j ∧ (2 : Int) ^ j ≤ 2147483648 := by
  have g1 : (2 : Nat) ^ j ≤ 2 ^ 31 := Nat.pow_le_pow_right (by decide) h
  have g2 := Nat.two_pow_pos j
  have g3 := pow_cast j
  have g4 : (2 : Nat) ^ 31 = 2147483648 := by decide
  omega

theorem big_square {x a : Int} (ha : a ≤ 9223372036854775807) (h : 3037000499 < x) : ¬ x * x ≤ a := by
  have : (3037000500 : Int) * 3037000500 ≤ x * x := Int.mul_le_mul (by omega) (by omega) (by decide) (by omega)
  omega

theorem small_square {x : Int} (h0 : 0 ≤ x) (h : x ≤ 3037000499) : 0 ≤ x * x ∧ x * x ≤ 9223372030926249001 := by
  have h1 : x * x ≤ 3037000499 * 3037000499 := Int.mul_le_mul h h h0 (by decide)
  have h2 := Int.mul_nonneg h0 h0
  omega

/-! ### Cosines -/
theorem rseries_any (z s : Int) (zs : List Int) (b off : Nat) (w : World) (hl : zs.length ≤ 9223372036854775807)
    (hc : ∀ i, i < zs.length → w.cell? ⟨b, off + i, none⟩ = some (.int .i64 (zs[i]?.getD 0))) (hz : ∀ i : Nat, -4294967296 ≤ zs[i]?.getD 0 ∧ zs[i]?.getD 0 ≤ 4294967296) (cap : Nat) :
    Calls Try.prog 68 #[.int .i64 z, .int .i64 s, .slice (some ⟨b, off, none⟩) zs.length cap] w fun e w' => e = .returned (.int .i64 (zs.foldl (serStep z) s)) ∧ ∃ n, w' = w.drewN n := by
  have HC : Hid (∀ W : World, W.heap = w.heap → ∀ i, i < zs.length → W.cell? ⟨b, off + i, none⟩ = some (.int .i64 (zs[i]?.getD 0))) := fun W hW i hi => by
    have h := hc i hi
    unfold World.cell? at h ⊢
    rw [hW]; exact h
  clear hc
  go_enter Try.func68, Try.ntmps68
  go_wp2
  go_loopw [1, 7] (fun s' i W => (∃ n, W = w.drewN n) ∧ ∃ k : Nat, k ≤ zs.length ∧ i = .int .i64 k ∧ s' = .int .i64 ((zs.take k).foldl (serStep z) s)) (fun _ i _ => zs.length - (intOf i).toNat)
  case atStart => exact ⟨⟨0, rfl⟩, 0, Nat.zero_le _, rfl, rfl⟩
  case round =>
    obtain ⟨⟨nd, rfl⟩, k, hk, rfl, rfl⟩ := hrel
    by_cases hlt : k < zs.length
    · have hck := HC.out w rfl k hlt
      have hzk := hz k
      have hmi := mul30_in z ((zs.take k).foldl (serStep z) s)
      have HS : Hid ((zs.take (k + 1)).foldl (serStep z) s = serStep z ((zs.take k).foldl (serStep z) s) (zs[k]?.getD 0)) := by
        show (zs.take (k + 1)).foldl (serStep z) s = _
        rw [take_step zs k hlt, List.foldl_append]; rfl
      clear hz
      generalize zs[k]?.getD 0 = v at hck hzk HS
      generalize (zs.take k).foldl (serStep z) s = S at *
      go_wp2
      go_quiet (first | (go_at_call 33; go_loud (exact (rmul_any _ _ _ _).mono (fun _ _ ⟨he, hw⟩ => ⟨he, _, hw⟩))))
      all_goals
        go_wp2
        go_roundw
        case rel => exact ⟨⟨_, rfl⟩, k + 1, by omega, by go_num, by rw [HS.out]; rfl⟩
        case measure => simp [intOf]; omega
    · go_wp2
      go_ret
      exact ⟨ret_int (by rw [List.take_of_length_le (by omega)]), nd, rfl⟩

theorem serStep_low (z : Int) : serStep z 0 (-296) = -296 ∧ serStep z 0 2959 = 2959 := by
  have e : mulI z 0 30 = 0 := by
    rw [mulI, if_neg (by decide), if_neg (by decide), if_neg (by decide), show cf 0 = 0 from rfl, Int.mul_zero]
    decide
  unfold serStep
  rw [e]
  decide

theorem rser_low (z : Int) (w : World) :
    Calls Try.prog 68 #[.int .i64 z, .int .i64 (-296), .slice (some ⟨w.heap.size, 0, none⟩) 5 5] (w.alloc (.cells #[.int .i64 26631, .int .i64 (-1491308), .int .i64 44739243, .int .i64 (-536870912), .int .i64 1073741824] 2)) fun e w' => e = .returned (.int .i64 (serI z serLow)) ∧ ∃ n, w' = (w.alloc (.cells #[.int .i64 26631, .int .i64 (-1491308), .int .i64 44739243, .int .i64 (-536870912), .int .i64 1073741824] 2)).drewN n := by
  have e : serI z serLow = [26631, -1491308, 44739243, -536870912, 1073741824].foldl (serStep z) (-296) := by
    show List.foldl (serStep z) (serStep z 0 (-296)) [26631, -1491308, 44739243, -536870912, 1073741824] = _
    rw [(serStep_low z).1]
  rw [e]
  exact rseries_any z (-296) [26631, -1491308, 44739243, -536870912, 1073741824] w.heap.size 0 _ (by decide) (fun i hi => by
    rw [World.cell?_alloc_new]
    have h : i = 0 ∨ i = 1 ∨ i = 2 ∨ i = 3 ∨ i = 4 := by simp at hi; omega
    rcases h with rfl | rfl | rfl | rfl | rfl <;> rfl)
    (at_list (fun x => -4294967296 ≤ x ∧ x ≤ 4294967296) (by decide) _ (by decide)) 5

theorem rser_high (z : Int) (w : World) :
    Calls Try.prog 68 #[.int .i64 z, .int .i64 2959, .slice (some ⟨w.heap.size, 0, none⟩) 4 4] (w.alloc (.cells #[.int .i64 (-213044), .int .i64 8947849, .int .i64 (-178956971), .int .i64 1073741824] 2)) fun e w' => e = .returned (.int .i64 (serI z serHigh)) ∧ ∃ n, w' = (w.alloc (.cells #[.int .i64 (-213044), .int .i64 8947849, .int .i64 (-178956971), .int .i64 1073741824] 2)).drewN n := by
  have e : serI z serHigh = [-213044, 8947849, -178956971, 1073741824].foldl (serStep z) 2959 := by
    show List.foldl (serStep z) (serStep z 0 2959) [-213044, 8947849, -178956971, 1073741824] = _
    rw [(serStep_low z).2]
  rw [e]
  exact rseries_any z 2959 [-213044, 8947849, -178956971, 1073741824] w.heap.size 0 _ (by decide) (fun i hi => by
    rw [World.cell?_alloc_new]
    have h : i = 0 ∨ i = 1 ∨ i = 2 ∨ i = 3 := by simp at hi; omega
    rcases h with rfl | rfl | rfl | rfl <;> rfl)
    (at_list (fun x => -4294967296 ≤ x ∧ x ≤ 4294967296) (by decide) _ (by decide)) 4

theorem rquarter_any (a : Int) (w : World) (h0 : 0 ≤ a) (h1 : a ≤ 16384) :
    Calls Try.prog 63 #[.int .i64 a] w fun e w' => e = .returned (.int .i64 (quarterI a)) ∧ Below w.heap.size w w' := by
  by_cases hc : a ≤ 8192
  · have e : quarterI a = mulI (serI (mulI (mulI a 1686629713 14) (mulI a 1686629713 14) 30) serLow) 1 15 := by rw [quarterI, if_pos hc]
    rw [e]; clear e
    go_enter Try.func63, Try.ntmps63
    go_wp2_with (first
      | (go_at_call 68; refine (rser_low _ _).mono ?_; rintro e w' ⟨rfl, nd, rfl⟩)
      | (go_at_call 33; refine (rmul_any _ _ _ _).mono ?_; rintro e w' ⟨rfl, rfl⟩))
    go_ret
    exact ⟨rfl, below_drewN ((Below.refl _ _).alloc (Nat.le_refl _) _) _⟩
  · have e : quarterI a = mulI (mulI (mulI (16384 - a) 1686629713 14) (serI (mulI (mulI (16384 - a) 1686629713 14) (mulI (16384 - a) 1686629713 14) 30) serHigh) 30) 1 15 := by rw [quarterI, if_neg hc]
    rw [e]; clear e
    go_enter Try.func63, Try.ntmps63
    go_wp2_with (first
      | (go_at_call 68; refine (rser_high _ _).mono ?_; rintro e w' ⟨rfl, nd, rfl⟩)
      | (go_at_call 33; refine (rmul_any _ _ _ _).mono ?_; rintro e w' ⟨rfl, rfl⟩))
    go_ret
    exact ⟨rfl, below_drewN ((Below.refl _ _).alloc (Nat.le_refl _) _) _⟩

theorem rcos_any (a : Int) (w : World) :
    Calls Try.prog 51 #[.int .i64 a] w fun e w' => e = .returned (.int .i64 (cosI a)) ∧ Below w.heap.size w w' := by
  have hm : 0 ≤ a % 65536 ∧ a % 65536 < 65536 := by omega
  have hand := and65535 a
  unfold cosI halfI
  generalize hq : a % 65536 = q at *
  clear hq
  by_cases h1 : 32768 < q
  · rw [if_pos h1]
    by_cases h2 : 16384 < 65536 - q
    · rw [if_pos h2]
      have hb := quarterI_in (32768 - (65536 - q))
      go_enter Try.func51, Try.ntmps51
      go_wp2_with (go_at_call 63; refine (rquarter_any _ _ (by omega) (by omega)).mono ?_; rintro e w1 ⟨rfl, hw1⟩)
      go_ret
      exact ⟨rfl, hw1⟩
    · rw [if_neg h2]
      go_enter Try.func51, Try.ntmps51
      go_wp2_with (go_at_call 63; refine (rquarter_any _ _ (by omega) (by omega)).mono ?_; rintro e w1 ⟨rfl, hw1⟩)
      go_ret
      exact ⟨rfl, hw1⟩
  · rw [if_neg h1]
    by_cases h2 : 16384 < q
    · rw [if_pos h2]
      have hb := quarterI_in (32768 - q)
      go_enter Try.func51, Try.ntmps51
      go_wp2_with (go_at_call 63; refine (rquarter_any _ _ (by omega) (by omega)).mono ?_; rintro e w1 ⟨rfl, hw1⟩)
      go_ret
      exact ⟨rfl, hw1⟩
    · rw [if_neg h2]
      go_enter Try.func51, Try.ntmps51
      go_wp2_with (go_at_call 63; refine (rquarter_any _ _ (by omega) (by omega)).mono ?_; rintro e w1 ⟨rfl, hw1⟩)
      go_ret
      exact ⟨rfl, hw1⟩

end Go.Proofs.Ytjaccokmficfdaa

/- What the plain calls of package tabs, and of the document's own answers beside them, come to: tables of probabilities, rates, orders, edges. -/
namespace Go.Proofs.Ytjaccokmficfdaa
open Go.RowKit

/-- A slice of numbers that the call has made: they lie in a block from B on, none frozen. -/
def NewRow (e : TypeId) (B : Nat) (w : World) (a : Option Addr) (zs : List Int) : Prop :=
  zs = [] ∨ ∃ b c, a = some ⟨b, 0, none⟩ ∧ B ≤ b ∧ w.heap[b]? = some (.cells c e (0, 0)) ∧ ∀ i, i < zs.length → c[i]? = some (.int .i64 (zs[i]?.getD 0))

theorem NewRow.none {e : TypeId} {B : Nat} {w : World} {a : Option Addr} : NewRow e B w a [] := .inl rfl

theorem NewRow.below {e : TypeId} {B B' : Nat} {w w' : World} {a : Option Addr} {zs : List Int} (h : NewRow e B w a zs) (hb : Below B' w w') (hB : w.heap.size ≤ B') : NewRow e B w' a zs := by
  rcases h with h | ⟨b, c, ha, hbb, hh, hc⟩
  · exact .inl h
  · refine .inr ⟨b, c, ha, hbb, ?_, hc⟩
    rw [hb.block b (Nat.lt_of_lt_of_le (Array.getElem?_eq_some_iff.1 hh).1 hB)]
    exact hh

theorem NewRow.mono {e : TypeId} {B B' : Nat} {w : World} {a : Option Addr} {zs : List Int} (h : NewRow e B w a zs) (hB : B' ≤ B) : NewRow e B' w a zs := by
  rcases h with h | ⟨b, c, ha, hbb, hh, hc⟩
  · exact .inl h
  · exact .inr ⟨b, c, ha, Nat.le_trans hB hbb, hh, hc⟩

theorem NewRow.cells {e : TypeId} {B : Nat} {w : World} {a : Option Addr} {zs : List Int} (h : NewRow e B w a zs) (hz : 0 < zs.length) :
    ∃ b, a = some ⟨b, 0, .none⟩ ∧ B ≤ b ∧ b < w.heap.size ∧ ∀ i, i < zs.length → w.cell? ⟨b, i, .none⟩ = some (.int .i64 (zs[i]?.getD 0)) := by
  rcases h with h | ⟨b, c, ha, hbb, hh, hc⟩
  · subst h; simp at hz
  · refine ⟨b, ha, hbb, (Array.getElem?_eq_some_iff.1 hh).1, fun i hi => ?_⟩
    simp [World.cell?, hh, hc i hi]

theorem map_at (zs : List Int) (i : Nat) (h : i < zs.length) : ((zs.map (Value.int .i64)).toArray)[i]? = some (.int .i64 (zs[i]?.getD 0)) := by
  simp [List.getElem?_eq_getElem h]

theorem newRow_alloc (w : World) (zs : List Int) (e : TypeId) : NewRow e w.heap.size (w.alloc (.cells (zs.map (Value.int .i64)).toArray e)) (some ⟨w.heap.size, 0, .none⟩) zs :=
  .inr ⟨_, _, rfl, Nat.le_refl _, heap_alloc_new w _, map_at zs⟩

/-! ### Rates and orders -/
def edgesN (rate : Int) : Nat := if rate = 8000 then 14 else if rate = 16000 then 18 else if rate = 24000 then 20 else 0

def rateB (rate : Int) : Bool := decide (0 < edgesN rate)

theorem rate_cases (rate : Int) : rate = 8000 ∨ rate = 16000 ∨ rate = 24000 ∨ (¬ rate = 8000 ∧ ¬ rate = 16000 ∧ ¬ rate = 24000) := by omega

theorem rateB_other {rate : Int} (h : ¬ rate = 8000 ∧ ¬ rate = 16000 ∧ ¬ rate = 24000) : rateB rate = false := by
  unfold rateB edgesN
  rw [if_neg h.1, if_neg h.2.1, if_neg h.2.2]
  rfl

def orderI (rate : Int) : Int := if rate = 8000 then 10 else if rate = 16000 then 16 else 0

def wideI (ms : Int) : Int := if ms = 10 then 4 else if ms = 20 then 8 else 0

def spreadI (order : Int) : Int := if order = 10 then 24 else if order = 16 then 14 else 0

theorem spreadOf_any (order : Int) (w : World) :
    Calls Try.prog 64 #[.int .i64 order] w fun e w' => e = .returned (.int .i64 (spreadI order)) ∧ w' = w := by
  unfold spreadI
  by_cases h1 : order = 10
  · subst h1
    go_enter Try.func64, Try.ntmps64
    go_wp2
    go_ret
    exact ⟨rfl, rfl⟩
  · by_cases h2 : order = 16
    · subst h2
      go_enter Try.func64, Try.ntmps64
      go_wp2
      go_ret
      exact ⟨rfl, rfl⟩
    · rw [if_neg h1, if_neg h2]
      go_enter Try.func64, Try.ntmps64
      go_wp2
      go_ret
      exact ⟨rfl, rfl⟩

/-! ### Tables of probabilities -/
def icdfT : Nat → List Int
  | 0 => [192, 96, 0]
  | 1 => [224, 192, 160, 128, 96, 64, 32, 0]
  | 2 => [252, 247, 240, 230, 214, 190, 150, 106, 66, 42, 26, 16, 10, 6, 4, 2, 0]
  | 3 => [240, 224, 208, 192, 176, 160, 144, 128, 112, 96, 80, 64, 48, 32, 16, 0]
  | 4 => [253, 244, 222, 170, 86, 34, 12, 3, 0]
  | 5 => [218, 180, 148, 122, 100, 82, 67, 54, 43, 34, 26, 19, 14, 10, 6, 3, 0]
  | 6 => [205, 163, 128, 97, 70, 44, 20, 0]
  | 7 => [231, 155, 38, 0]
  | 8 => [192, 128, 64, 0]
  | _ => []
def icdfL (k : Int) : List Int := if k < 0 then [] else icdfT k.toNat

theorem icdfT_len : ∀ k : Nat, (icdfT k).length ≤ 17
  | 0 | 1 | 2 | 3 | 4 | 5 | 6 | 7 | 8 => by decide
  | _ + 9 => Nat.zero_le _

theorem icdfL_len (k : Int) : (icdfL k).length ≤ 17 := by
  unfold icdfL
  split
  · exact Nat.zero_le _
  · exact icdfT_len _

theorem icdfT_far : ∀ k : Nat, icdfT (k + 9) = [] := fun _ => rfl

theorem icdfL_far {k : Int} (h : k < 0 ∨ 8 < k) : icdfL k = [] := by
  unfold icdfL
  split
  · rfl
  · obtain ⟨n, hn⟩ : ∃ n, k.toNat = n + 9 := ⟨k.toNat - 9, by omega⟩
    rw [hn]; exact icdfT_far n

end Go.Proofs.Ytjaccokmficfdaa

/- Lists of whole numbers that a call makes: appended to, made at once, copied. What the plain calls of package tabs with lists come to: edges, bins, frequencies. -/
namespace Go.Proofs.Ytjaccokmficfdaa
open Go.RowKit

theorem info_int64 : (Try.prog.info? 2).map (fun i => (i.zero, i.size, i.bytes)) = some (some (.int .i64 0), 1, 8) := by kernel_rfl
theorem info_int : (Try.prog.info? 3).map (fun i => (i.zero, i.size, i.bytes)) = some (some (.int .i64 0), 1, 8) := by kernel_rfl

theorem NewRow.of_owned {e : TypeId} {B : Nat} {w : World} {v : Value} {n : Nat} {zs : List Int} (h : w.ownsRow B e 1 v n (zs.map (Value.int .i64))) :
    zs.length = n ∧ ∃ a cap, v = .slice a n cap ∧ NewRow e B w a zs := by
  obtain ⟨hl, h⟩ := h
  simp only [List.length_map, Nat.mul_one] at hl
  refine ⟨hl, ?_⟩
  rcases h with ⟨rfl, rfl⟩ | ⟨g, cap, cur, rfl, hg, hh, hnc, hcm, hcs, ht⟩
  · exact ⟨_, _, rfl, .inl (List.eq_nil_of_length_eq_zero hl)⟩
  · refine ⟨_, _, rfl, .inr ⟨g, cur, rfl, hg, hh, fun i hi => ?_⟩⟩
    have h1 : (cur.toList.take (n * 1))[i]? = some (.int .i64 (zs[i]?.getD 0)) := by
      rw [ht, List.getElem?_map, List.getElem?_eq_getElem hi]; rfl
    rw [Nat.mul_one, List.getElem?_take_of_lt (by omega)] at h1
    simpa using h1

/-- 'append' of one number onto a list that the call has made. -/
theorem append_one {t e : TypeId} (ht : Try.prog.underlying t = some (.slice e)) (hinfo : (Try.prog.info? e).map (fun i => (i.zero, i.size, i.bytes)) = some (some (.int .i64 0), 1, 8)) (ty : TypeId)
    (B : Nat) (w : World) (v : Value) (n : Nat) (zs : List Int) (y : Int) (hown : w.ownsRow B e 1 v n (zs.map (Value.int .i64))) (hn : n ≤ 1000000) (hB : B ≤ w.heap.size) :
    ∃ v' w', (Builtin.append_ #[t, t] ty #[v, .slice (some ⟨w.heap.size, 0, none⟩) 1 1]).run Try.prog (w.alloc (.cells #[.int .i64 y] e)) = .ok v' w' ∧
      w'.ownsRow B e 1 v' (n + 1) ((zs ++ [y]).map (Value.int .i64)) ∧ Below B w w' := by
  obtain ⟨i, hi, hzz⟩ := Option.map_eq_some_iff.1 hinfo
  simp only [Prod.mk.injEq] at hzz
  obtain ⟨hz, hs, hb⟩ := hzz
  obtain ⟨v', w', hr, ho, hg, _⟩ := run_append_own (P := Try.prog) (w.alloc (.cells #[.int .i64 y] e)) B t ty e i (.int .i64 0) 1 8 ht hi hz hs hb rfl (by decide) v n _ (hown.alloc _) ⟨w.heap.size, 0, none⟩ 1 1 [.int .i64 y] rfl
    (by
      intro j u hj
      match j, hj with
      | 0, hj =>
        simp at hj; subst hj
        show (w.alloc _).cell? ⟨w.heap.size, 0, none⟩ = _
        rw [World.cell?_alloc_new]; rfl)
    (by intro u hu; simp at hu; subst hu; rfl) (by unfold maxLen; omega) (by omega) (by simp; omega)
  refine ⟨v', w', hr, by simpa using ho, ((Below.refl B w).alloc hB _).grown hg (by simp; omega) (fun k hk => (hown.lt k hk).1)⟩

theorem wpList_append_run {ops : Array Oper} {rest : List Oper} {o : Oper} {a : Act} {w : World} {Q : Exit → Act → World → Prop} (hw : Region.wanted o (yielded ops a.tmps) = true) (s x : Operand) (t tx : TypeId)
    (ho : o.op = .call { callee := .builtin .append, args := #[s, x], argTypes := #[t, tx] }) (sv xv : Value) (hs : a.eval s = sv) (hx : a.eval x = xv) (v : Value) (w1 : World)
    (hrun : (Builtin.append_ #[t, tx] o.type #[sv, xv]).run Try.prog w = .ok v w1) (h : wpList Try.prog ops Q rest (a.put o.dst v) w1) : wpList Try.prog ops Q (o :: rest) a w := by
  refine wpList_step fun K hK => ?_
  rw [if_pos hw]
  unfold Oper.wp
  simp [execOp, ho, resolve, invoke, builtin, hs, hx, hrun, Result.andThen]
  exact hK _ _ h

theorem wpList_append_one {ops : Array Oper} {rest : List Oper} {o : Oper} {a : Act} {w : World} {Q : Exit → Act → World → Prop} (t e : TypeId) (ht : Try.prog.underlying t = some (.slice e))
    (hinfo : (Try.prog.info? e).map (fun i => (i.zero, i.size, i.bytes)) = some (some (.int .i64 0), 1, 8)) (B : Nat) (v : Value) (n : Nat) (zs : List Int) (y : Int)
    (hown : w.ownsRow B e 1 v n (zs.map (Value.int .i64))) (hn : n ≤ 1000000) (hB : B ≤ w.heap.size)
    (hw : Region.wanted o (yielded ops a.tmps) = true) (s x : Operand)
    (ho : o.op = .call { callee := .builtin .append, args := #[s, x], argTypes := #[t, t] })
    (hs : a.eval s = v) (hx : a.eval x = .slice (some ⟨w.heap.size, 0, none⟩) 1 1)
    (h : ∀ v' w', w'.ownsRow B e 1 v' (n + 1) ((zs ++ [y]).map (Value.int .i64)) → Below B w w' → wpList Try.prog ops Q rest (a.put o.dst v') w') :
    wpList Try.prog ops Q (o :: rest) a (w.alloc (.cells #[.int .i64 y] e)) := by
  obtain ⟨v', w', hr, ho', hb⟩ := append_one ht hinfo o.type B w v n zs y hown hn hB
  exact wpList_append_run hw s x _ _ ho _ _ hs hx _ _ hr (h v' w' ho' hb)

/-- 'append([]T{}, l...)': a copy. -/
theorem append_copy {t e : TypeId} (ht : Try.prog.underlying t = some (.slice e)) (hinfo : (Try.prog.info? e).map (fun i => (i.zero, i.size, i.bytes)) = some (some (.int .i64 0), 1, 8)) (ty : TypeId)
    (w : World) (x : Addr) (n cap : Nat) (zs : List Int) (hl : zs.length = n) (hn : n * 8 ≤ 140737488355328) (hc : ∀ i, i < n → w.cell? (x.add i) = some (.int .i64 (zs[i]?.getD 0))) :
    ∃ a c w', (Builtin.append_ #[t, t] ty #[.slice (some ⟨w.heap.size, 0, none⟩) 0 0, .slice (some x) n cap]).run Try.prog (w.alloc (.cells #[] e)) = .ok (.slice a n c) w' ∧
      NewRow e w.heap.size w' a zs ∧ Below w.heap.size w w' := by
  obtain ⟨i, hi, hzz⟩ := Option.map_eq_some_iff.1 hinfo
  simp only [Prod.mk.injEq] at hzz
  obtain ⟨hz, hs, hb⟩ := hzz
  have hown : (w.alloc (.cells #[] e)).ownsRow w.heap.size e 1 (.slice (some ⟨w.heap.size, 0, none⟩) 0 0) 0 [] := World.ownsRow_made w #[] 0 (Nat.le_refl _) (by decide) rfl
  obtain ⟨v', w', hr, ho, hg, _⟩ := run_append_own (P := Try.prog) (w.alloc (.cells #[] e)) w.heap.size t ty e i (.int .i64 0) 1 8 ht hi hz hs hb rfl (by decide) _ 0 _ hown x n cap (zs.map (Value.int .i64)) (by simp [hl])
    (by
      intro j u hj
      have hjn : j < zs.length := by
        rcases Nat.lt_or_ge j zs.length with h | h
        · exact h
        · rw [List.getElem?_eq_none (by simpa using h)] at hj; cases hj
      have h1 := hc j (by omega)
      rw [List.getElem?_map, List.getElem?_eq_getElem hjn] at hj
      rw [List.getElem?_eq_getElem hjn] at h1
      simp only [Option.map_some, Option.some.injEq, Option.getD_some] at hj h1
      subst hj
      rw [← h1]
      exact World.cell?_of_block (Below.heap_alloc w _ _ (World.block_lt_of_cell? w _ h1)))
    (by intro u hu; obtain ⟨q, _, rfl⟩ := List.mem_map.1 hu; rfl) (by unfold maxLen; omega) (by omega) (by simp)
  rw [Nat.zero_add, List.nil_append] at ho
  obtain ⟨_, a, c, rfl, hnew⟩ := NewRow.of_owned ho
  exact ⟨a, c, w', hr, hnew, ((Below.refl _ w).alloc (Nat.le_refl _) _).grown hg (by simp) (fun k hk => by simp [Value.ownBlock] at hk; omega)⟩

theorem append_copy_nil {t e : TypeId} (ht : Try.prog.underlying t = some (.slice e)) (hinfo : (Try.prog.info? e).map (fun i => (i.zero, i.size, i.bytes)) = some (some (.int .i64 0), 1, 8)) (ty : TypeId)
    (w : World) (cap : Nat) :
    (Builtin.append_ #[t, t] ty #[.slice (some ⟨w.heap.size, 0, none⟩) 0 0, .slice none 0 cap]).run Try.prog (w.alloc (.cells #[] e)) = .ok (.slice (some ⟨w.heap.size, 0, none⟩) 0 0) (w.alloc (.cells #[] e)) := by
  obtain ⟨i, hi, _⟩ := Option.map_eq_some_iff.1 hinfo
  exact run_append_room_src (P := Try.prog) (w.alloc (.cells #[] e)) t t ty e i ht hi w.heap.size 0 0 0 (.slice none 0 cap) 0 [] (Src.ofNil _ ht cap) (Nat.le_refl _) (by simp) (by simp)

theorem wpList_append_copy {ops : Array Oper} {rest : List Oper} {o : Oper} {a : Act} {w : World} {Q : Exit → Act → World → Prop} (t e : TypeId) (ht : Try.prog.underlying t = some (.slice e))
    (hinfo : (Try.prog.info? e).map (fun i => (i.zero, i.size, i.bytes)) = some (some (.int .i64 0), 1, 8)) (xo : Option Addr) (n cap : Nat) (zs : List Int)
    (hl : zs.length = n) (hn : n * 8 ≤ 140737488355328) (hc : 0 < n → ∃ x, xo = some x ∧ ∀ i, i < n → w.cell? (x.add i) = some (.int .i64 (zs[i]?.getD 0)))
    (hw : Region.wanted o (yielded ops a.tmps) = true) (s x : Operand)
    (ho : o.op = .call { callee := .builtin .append, args := #[s, x], argTypes := #[t, t] })
    (hs : a.eval s = .slice (some ⟨w.heap.size, 0, none⟩) 0 0) (hx : a.eval x = .slice xo n cap)
    (h : ∀ r c w', NewRow e w.heap.size w' r zs → Below w.heap.size w w' → wpList Try.prog ops Q rest (a.put o.dst (.slice r n c)) w') :
    wpList Try.prog ops Q (o :: rest) a (w.alloc (.cells #[] e)) := by
  have hall : ∃ r c w', (Builtin.append_ #[t, t] o.type #[.slice (some ⟨w.heap.size, 0, none⟩) 0 0, .slice xo n cap]).run Try.prog (w.alloc (.cells #[] e)) = .ok (.slice r n c) w' ∧
      NewRow e w.heap.size w' r zs ∧ Below w.heap.size w w' := by
    cases xo with
    | none =>
      have h0 : n = 0 := by
        rcases Nat.eq_zero_or_pos n with h0 | h0
        · exact h0
        · obtain ⟨_, hx', _⟩ := hc h0; cases hx'
      subst h0
      exact ⟨_, _, _, append_copy_nil ht hinfo o.type w cap, .inl (List.eq_nil_of_length_eq_zero hl), (Below.refl _ _).alloc (Nat.le_refl _) _⟩
    | some x =>
      refine append_copy ht hinfo o.type w x n cap zs hl hn (fun i hi => ?_)
      obtain ⟨x', hx', hcc⟩ := hc (by omega)
      cases hx'
      exact hcc i hi
  obtain ⟨r, c, w', hr, hnew, hb⟩ := hall
  exact wpList_append_run hw s x _ _ ho _ _ hs hx _ _ hr (h r c w' hnew hb)

/-- What make and the stores behind it leave. -/
theorem NewRow.of_rowIs {e : TypeId} {B : Nat} {w : World} {b n : Nat} {f : Nat → Value} {zs : List Int} (h : w.rowIs b e n f) (hB : B ≤ b) (hl : zs.length = n) (hf : ∀ i, i < n → f i = .int .i64 (zs[i]?.getD 0)) :
    NewRow e B w (some ⟨b, 0, .none⟩) zs := by
  obtain ⟨c, hb, hn, hc⟩ := h
  exact .inr ⟨b, c, rfl, hB, hb, fun i hi => by rw [hc i (by omega), hf i (by omega)]⟩

/-! ### Edges -/
def edgesL : List Int := [0, 1, 2, 3, 4, 5, 6, 7, 8, 10, 12, 14, 16, 20, 24, 28, 34, 40, 48, 60]

theorem edgesN_le (rate : Int) : edgesN rate ≤ 20 := by
  unfold edgesN
  split
  · decide
  · split
    · decide
    · split <;> decide

theorem edges_take (n : Nat) (_hn : n ≤ 20) (i : Nat) (hi : i < n) : (edgesL.take n)[i]?.getD 0 = edgesL[i]?.getD 0 := by
  rw [List.getElem?_take_of_lt hi]

def edgesOfL (rate : Int) : List Int := edgesL.take (edgesN rate)

theorem edgesOfL_len (rate : Int) : (edgesOfL rate).length = edgesN rate := by
  unfold edgesOfL
  rw [List.length_take]
  have := edgesN_le rate
  have h : edgesL.length = 20 := rfl
  omega

end Go.Proofs.Ytjaccokmficfdaa

/- Frequencies of the first table: what package tabs, and the document's own answer, come to. -/
namespace Go.Proofs.Ytjaccokmficfdaa
open Go.RowKit

def lsfAt (order i : Int) (k : Nat) : Int := 32768 * ((k : Int) + 1) / (order + 1) + spreadI order * ((37 * i + 53 * (k : Int)) % 64 - 32)
abbrev lsfNone (order i : Int) : Prop := (¬ order = 10 ∧ ¬ order = 16) ∨ i < 0 ∨ 15 < i
def lsfL (order i : Int) : List Int := if lsfNone order i then [] else (List.range order.toNat).map (lsfAt order i)

theorem map_range_at (f : Nat → Int) (n i : Nat) (h : i < n) : ((List.range n).map f)[i]?.getD 0 = f i := by
  simp [h]

theorem map_range_snoc (f : Nat → Int) (n : Nat) : (List.range (n + 1)).map f = (List.range n).map f ++ [f n] := by
  rw [List.range_succ, List.map_append]; rfl

theorem lsf_some {order i : Int} (h : order = 10 ∨ order = 16) (h0 : 0 ≤ i) (h1 : i ≤ 15) : lsfL order i = (List.range order.toNat).map (lsfAt order i) := by
  rw [lsfL, if_neg]
  unfold lsfNone
  omega

theorem quot_in {m n : Int} (h0 : 0 ≤ m) (h : m < n) : 0 ≤ 32768 * (m + 1) / (n + 1) ∧ 32768 * (m + 1) / (n + 1) ≤ 32768 := by
  refine ⟨Int.ediv_nonneg (by omega) (by omega), ?_⟩
  have h1 : 32768 * (m + 1) / (n + 1) < 32769 := Int.ediv_lt_of_lt_mul (by omega) (by omega)
  omega

theorem spread_in {S y : Int} (hs : 14 ≤ S ∧ S ≤ 24) (hy : -32 ≤ y ∧ y ≤ 31) : -768 ≤ S * y ∧ S * y ≤ 768 := by
  have h : (S * y).natAbs ≤ 24 * 32 := by
    rw [Int.natAbs_mul]
    exact Nat.mul_le_mul (by omega) (by omega)
  omega

theorem rowIs_step {w : World} {b n m : Nat} {t : TypeId} {f : Nat → Int} (h : w.rowIs b t n (fun j => .int .i64 (if j < m then f j else 0))) (_hm : m < n) :
    (w.setCell ⟨b, m, .none⟩ (.int .i64 (f m))).rowIs b t n (fun j => .int .i64 (if j < m + 1 then f j else 0)) := by
  refine (h.set m (.int .i64 (f m))).congr fun j _ => ?_
  by_cases hj : j = m
  · subst hj
    rw [if_pos rfl, if_pos (by omega)]
  · rw [if_neg hj]
    by_cases hlt : j < m
    · rw [if_pos hlt, if_pos (by omega)]
    · rw [if_neg hlt, if_neg (by omega)]

set_option maxHeartbeats 1000000 in
theorem lsf_any (order i : Int) (w : World) :
    Calls Try.prog 58 #[.int .i64 order, .int .i64 i] w fun e w' => ∃ a cap, e = .returned (.slice a (lsfL order i).length cap) ∧ NewRow 2 w.heap.size w' a (lsfL order i) ∧ Below w.heap.size w w' := by
  by_cases h : lsfNone order i
  · have e : lsfL order i = [] := by rw [lsfL, if_pos h]
    rw [e]; clear e
    unfold lsfNone at h
    by_cases ho : spreadI order = 0
    · have ho' : Hid (spreadI order = 0) := ho
      clear ho
      go_enter Try.func58, Try.ntmps58
      go_wp2_with (go_at_call 64; refine (spreadOf_any _ _).mono ?_; rw [ho'.out]; rintro e w' ⟨rfl, rfl⟩)
      go_ret
      exact ⟨_, _, rfl, .none, Below.refl _ _⟩
    · have hi : i < 0 ∨ 15 < i := by
        unfold spreadI at ho
        split at ho
        · omega
        · split at ho
          · omega
          · exact absurd rfl ho
      have hs : (spreadI order == 0) = false := beq_eq_false_iff_ne.2 ho
      clear h ho
      generalize hS : spreadI order = S at *
      have hS' : Hid (spreadI order = S) := hS
      clear hS
      rcases hi with hi | hi
      all_goals
        go_enter Try.func58, Try.ntmps58
        go_wp2_with (go_at_call 64; refine (spreadOf_any _ _).mono ?_; rw [hS'.out]; rintro e w' ⟨rfl, rfl⟩)
        go_ret
        exact ⟨_, _, rfl, .none, Below.refl _ _⟩
  · have h16 : order = 10 ∨ order = 16 := by unfold lsfNone at h; omega
    have h0 : 0 ≤ i := by unfold lsfNone at h; omega
    have h1 : i ≤ 15 := by unfold lsfNone at h; omega
    clear h
    rw [lsf_some h16 h0 h1]
    obtain ⟨n, rfl⟩ := Int.eq_ofNat_of_zero_le (show 0 ≤ order by omega)
    have hn : 10 ≤ n ∧ n ≤ 16 := by omega
    have hS : 14 ≤ spreadI n ∧ spreadI n ≤ 24 := by
      rcases h16 with h | h <;> rw [h] <;> decide
    clear h16
    have hlen : ((List.range ((n : Int)).toNat).map (lsfAt n i)).length = n := by simp
    rw [hlen]; clear hlen
    rw [show ((n : Int)).toNat = n from rfl]
    have hmk := fun W : World => run_make_row' (P := Try.prog) 23 2 (.int .i64 0) 8 Try.underlying23 info_int64 rfl .i64 .i64 n (by omega) (by omega) W
    have HF : Hid (∀ k : Nat, lsfAt n i k = 32768 * ((k : Int) + 1) / ((n : Int) + 1) + spreadI n * ((37 * i + 53 * (k : Int)) % 64 - 32)) := fun k => rfl
    generalize lsfAt n i = f at HF ⊢
    generalize hSS : spreadI n = S at *
    have hS' : Hid (spreadI n = S) := hSS
    clear hSS
    have hs0 : (S == 0) = false := beq_eq_false_iff_ne.2 (by omega)
    go_enter Try.func58, Try.ntmps58
    go_wp2_with (go_at_call 64; refine (spreadOf_any _ _).mono ?_; rw [hS'.out]; rintro e w' ⟨rfl, rfl⟩)
    go_loopw [7, 24] (fun _ k W => ∃ m : Nat, m ≤ n ∧ k = .int .i64 m ∧ W.rowIs w'.heap.size 2 n (fun j => .int .i64 (if j < m then f j else 0)) ∧ Below w'.heap.size w' W) (fun _ k _ => n - (intOf k).toNat)
    case atStart => exact ⟨0, Nat.zero_le _, rfl, World.rowIs_made w' _ _ _, (Below.refl _ _).alloc (Nat.le_refl _) _⟩
    case round =>
      obtain ⟨m, hm, rfl, hrow, hbel⟩ := hrel
      by_cases hlt : m < n
      · have hf := HF.out m
        have HFm : Hid (32768 * ((m : Int) + 1) / ((n : Int) + 1) + S * ((37 * i + 53 * (m : Int)) % 64 - 32) = f m) := hf.symm
        clear hf
        have hq : 0 ≤ 32768 * ((m : Int) + 1) / ((n : Int) + 1) ∧ 32768 * ((m : Int) + 1) / ((n : Int) + 1) ≤ 32768 := quot_in (by omega) (by omega)
        have hp := spread_in (S := S) (y := (37 * i + 53 * (m : Int)) % 64 - 32) ⟨by omega, by omega⟩ ⟨by omega, by omega⟩
        have hfz := hrow.frozen m
        obtain ⟨x, hx⟩ : ∃ x, wr.cell? ⟨w'.heap.size, m, none⟩ = some x := ⟨_, hrow.cell hlt⟩
        have HR : Hid ((wr.setCell ⟨w'.heap.size, m, none⟩ (.int .i64 (f m))).rowIs w'.heap.size 2 n (fun j => .int .i64 (if j < m + 1 then f j else 0))) := rowIs_step hrow (by omega)
        have HB : Hid (Below w'.heap.size w' (wr.setCell ⟨w'.heap.size, m, none⟩ (.int .i64 (f m)))) := hbel.setCell (Nat.le_refl _) _
        clear hrow hbel HF
        go_wp2
        go_roundw
        case rel => exact ⟨m + 1, by omega, by go_num, by rw [HFm.out]; exact HR.out, by rw [HFm.out]; exact HB.out⟩
        case measure => simp [intOf]; omega
      · have hm' : m = n := by omega
        subst hm'
        have HR : Hid (NewRow 2 w'.heap.size wr (some ⟨w'.heap.size, 0, none⟩) ((List.range m).map f)) := NewRow.of_rowIs hrow (Nat.le_refl _) (by simp) (fun j hj => by rw [if_pos hj, map_range_at f m j hj])
        clear hrow
        go_wp2
        go_ret
        exact ⟨_, _, rfl, HR.out, hbel⟩

theorem rlsf_any (order i : Int) (w : World) :
    Calls Try.prog 53 #[.int .i64 order, .int .i64 i] w fun e w' => ∃ a cap, e = .returned (.slice a (lsfL order i).length cap) ∧ NewRow 2 w.heap.size w' a (lsfL order i) ∧ Below w.heap.size w w' := by
  by_cases h : lsfNone order i
  · have e : lsfL order i = [] := by rw [lsfL, if_pos h]
    rw [e]; clear e
    unfold lsfNone at h
    have h3 : (¬ order = 10 ∧ ¬ order = 16) ∨ i < 0 ∨ 15 < i := h
    clear h
    rcases h3 with ⟨n1, n2⟩ | hi | hi
    case' inl =>
      have q1 : (order != 10) = true := by rw [bne_iff_ne]; exact n1
      have q2 : (order != 16) = true := by rw [bne_iff_ne]; exact n2
    all_goals
      go_enter Try.func53, Try.ntmps53
      go_wp2
      all_goals
        go_ret
        exact ⟨_, _, rfl, .none, Below.refl _ _⟩
  · have h16 : order = 10 ∨ order = 16 := by unfold lsfNone at h; omega
    have h0 : 0 ≤ i := by unfold lsfNone at h; omega
    have h1 : i ≤ 15 := by unfold lsfNone at h; omega
    clear h
    rw [lsf_some h16 h0 h1]
    rcases h16 with rfl | rfl
    · have hlen : ((List.range ((10 : Int)).toNat).map (lsfAt 10 i)).length = 10 := by simp
      rw [hlen]; clear hlen
      rw [show ((10 : Int)).toNat = 10 from rfl]
      have HF : Hid (∀ k : Nat, lsfAt 10 i k = 32768 * ((k : Int) + 1) / 11 + 24 * ((37 * i + 53 * (k : Int)) % 64 - 32)) := fun k => rfl
      generalize lsfAt 10 i = f at HF ⊢
      go_enter Try.func53, Try.ntmps53
      go_wp2
      go_loopw [6, 7] (fun v k W => ∃ m : Nat, m ≤ 10 ∧ k = .int .i64 m ∧ W.ownsRow w.heap.size 2 1 v m (((List.range m).map f).map (Value.int .i64)) ∧ Below w.heap.size w W) (fun _ k _ => 10 - (intOf k).toNat)
      case atStart => exact ⟨0, Nat.zero_le _, rfl, World.ownsRow_nil _ _ _ _, Below.refl _ _⟩
      case round =>
        obtain ⟨m, hm, rfl, hown, hbel⟩ := hrel
        by_cases hlt : m < 10
        · have HFm : Hid (32768 * ((m : Int) + 1) / 11 + 24 * ((37 * i + 53 * (m : Int)) % 64 - 32) = f m) := (HF.out m).symm
          have hB := hbel.size
          clear HF
          go_wp2_with (at_builtin; refine wpList_append_one 23 2 Try.underlying23 info_int64 w.heap.size _ m ((List.range m).map f) _ hown (by omega) hB rfl _ _ rfl rfl rfl ?_; rw [HFm.out, ← map_range_snoc]; intro v' w1 hown1 hb1; clear hown; have hb2 := hbel.trans hb1; clear hbel hb1)
          go_roundw
          case rel => exact ⟨m + 1, by omega, by go_num, hown1, hb2⟩
          case measure => simp [intOf]; omega
        · have hm' : m = 10 := by omega
          subst hm'
          obtain ⟨_, a, c, rfl, hnew⟩ := NewRow.of_owned hown
          clear hown HF
          go_wp2
          go_ret
          exact ⟨_, _, rfl, hnew, hbel⟩
    · have hlen : ((List.range ((16 : Int)).toNat).map (lsfAt 16 i)).length = 16 := by simp
      rw [hlen]; clear hlen
      rw [show ((16 : Int)).toNat = 16 from rfl]
      have HF : Hid (∀ k : Nat, lsfAt 16 i k = 32768 * ((k : Int) + 1) / 17 + 14 * ((37 * i + 53 * (k : Int)) % 64 - 32)) := fun k => rfl
      generalize lsfAt 16 i = f at HF ⊢
      go_enter Try.func53, Try.ntmps53
      go_wp2
      go_loopw [6, 7] (fun v k W => ∃ m : Nat, m ≤ 16 ∧ k = .int .i64 m ∧ W.ownsRow w.heap.size 2 1 v m (((List.range m).map f).map (Value.int .i64)) ∧ Below w.heap.size w W) (fun _ k _ => 16 - (intOf k).toNat)
      case atStart => exact ⟨0, Nat.zero_le _, rfl, World.ownsRow_nil _ _ _ _, Below.refl _ _⟩
      case round =>
        obtain ⟨m, hm, rfl, hown, hbel⟩ := hrel
        by_cases hlt : m < 16
        · have HFm : Hid (32768 * ((m : Int) + 1) / 17 + 14 * ((37 * i + 53 * (m : Int)) % 64 - 32) = f m) := (HF.out m).symm
          have hB := hbel.size
          clear HF
          go_wp2_with (at_builtin; refine wpList_append_one 23 2 Try.underlying23 info_int64 w.heap.size _ m ((List.range m).map f) _ hown (by omega) hB rfl _ _ rfl rfl rfl ?_; rw [HFm.out, ← map_range_snoc]; intro v' w1 hown1 hb1; clear hown; have hb2 := hbel.trans hb1; clear hbel hb1)
          go_roundw
          case rel => exact ⟨m + 1, by omega, by go_num, hown1, hb2⟩
          case measure => simp [intOf]; omega
        · have hm' : m = 16 := by omega
          subst hm'
          obtain ⟨_, a, c, rfl, hnew⟩ := NewRow.of_owned hown
          clear hown HF
          go_wp2
          go_ret
          exact ⟨_, _, rfl, hnew, hbel⟩

end Go.Proofs.Ytjaccokmficfdaa

