/- What Log2 and Sqrt of package fix answer, as whole numbers. -/
import Derived.Test.YtklpicfeajmadaaFixA
namespace Go.Proofs.Ytklpicfeajmadaa
open Go.RowKit

/-! ### How many bits -/
theorem bitLen_log (x : Nat) (h0 : x ≠ 0) (h : x < 2 ^ 64) : Lib.bitLen x = x.log2 + 1 := by
  have h1 : 2 ^ x.log2 ≤ x := Nat.log2_self_le h0
  have h2 : x < 2 ^ (x.log2 + 1) := Nat.lt_log2_self
  have h3 : x / 2 ^ x.log2 = 1 := by
    have hp : 0 < 2 ^ x.log2 := Nat.two_pow_pos _
    refine Nat.div_eq_of_lt_le (by omega) ?_
    rw [Nat.pow_succ] at h2
    omega
  rw [Lib.bitLen_shift x.log2 x h1 h, h3]
  rfl

/-! ### Log2 -/
def logStep (p : Int × Int) : Int × Int :=
  if 2147483648 ≤ p.1 * p.1 / 1073741824 then (p.1 * p.1 / 1073741824 / 2, p.2 * 2 + 1) else (p.1 * p.1 / 1073741824, p.2 * 2)

def logIter (p : Int × Int) : Nat → Int × Int
  | 0 => p
  | k + 1 => logStep (logIter p k)

def normI (a : Int) (n : Nat) : Int := a * 2 ^ (30 - n) / 2 ^ (n - 30)

def log2I (a : Int) : Int := if a < 1 then 0 else (logIter (normI a a.toNat.log2, (a.toNat.log2 : Int)) 8).2

def InOct (m : Int) : Prop := 1073741824 ≤ m ∧ m < 2147483648

theorem sq_in {m : Int} (h : InOct m) : 1152921504606846976 ≤ m * m ∧ m * m ≤ 4611686014132420609 := by
  obtain ⟨h1, h2⟩ := h
  have a1 : 1073741824 * 1073741824 ≤ m * m := Int.mul_le_mul h1 h1 (by decide) (by omega)
  have a2 : m * m ≤ 2147483647 * 2147483647 := Int.mul_le_mul (by omega) (by omega) (by omega) (by decide)
  omega

theorem logStep_in {p : Int × Int} (h : InOct p.1) : InOct (logStep p).1 := by
  have h1 := sq_in h
  unfold logStep InOct
  split <;> simp only <;> omega

theorem logStep_two {p : Int × Int} : p.2 * 2 ≤ (logStep p).2 ∧ (logStep p).2 ≤ p.2 * 2 + 1 := by
  unfold logStep
  split <;> simp only <;> omega

theorem logIter_in {p : Int × Int} (h : InOct p.1) : ∀ k, InOct (logIter p k).1
  | 0 => h
  | k + 1 => logStep_in (logIter_in h k)

theorem logIter_two {p : Int × Int} : ∀ k, p.2 * 2 ^ k ≤ (logIter p k).2 ∧ (logIter p k).2 < (p.2 + 1) * 2 ^ k
  | 0 => by simp [logIter]; omega
  | k + 1 => by
    have h := logIter_two (p := p) k
    have h2 := logStep_two (p := logIter p k)
    rw [Int.pow_succ, ← Int.mul_assoc, ← Int.mul_assoc]
    show _ ≤ (logStep (logIter p k)).2 ∧ (logStep (logIter p k)).2 < _
    omega

theorem pow_cast (n : Nat) : ((2 ^ n : Nat) : Int) = (2 : Int) ^ n := by simp

theorem log_in (a : Int) (h : 1 ≤ a) (h1 : a ≤ 9223372036854775807) : a.toNat.log2 ≤ 62 ∧ (2 : Int) ^ a.toNat.log2 ≤ a ∧ a < 2 ^ (a.toNat.log2 + 1) := by
  have h0 : a.toNat ≠ 0 := by omega
  have h2 : 2 ^ a.toNat.log2 ≤ a.toNat := Nat.log2_self_le h0
  have h3 : a.toNat < 2 ^ (a.toNat.log2 + 1) := Nat.lt_log2_self
  refine ⟨?_, ?_, ?_⟩
  · have h4 : a.toNat.log2 < 63 := (Nat.log2_lt h0).2 (by omega)
    omega
  · rw [← pow_cast]; omega
  · rw [← pow_cast]; omega

theorem norm_low {a : Int} {n : Nat} (h : (2 : Int) ^ n ≤ a) (h2 : a < 2 ^ (n + 1)) (hn : n ≤ 30) : normI a n = a * 2 ^ (30 - n) ∧ InOct (a * 2 ^ (30 - n)) := by
  have e : n - 30 = 0 := by omega
  refine ⟨by rw [normI, e, Int.pow_zero, Int.ediv_one], ?_⟩
  have hp : (0 : Int) < 2 ^ (30 - n) := Int.pow_pos (by decide)
  have e1 : (2 : Int) ^ n * 2 ^ (30 - n) = 1073741824 := by rw [← Int.pow_add, show n + (30 - n) = 30 by omega]; rfl
  have e2 : (2 : Int) ^ (n + 1) * 2 ^ (30 - n) = 2147483648 := by rw [← Int.pow_add, show n + 1 + (30 - n) = 31 by omega]; rfl
  constructor
  · rw [← e1]; exact Int.mul_le_mul_of_nonneg_right h (by omega)
  · rw [← e2]; exact Int.mul_lt_mul_of_pos_right h2 hp

theorem norm_high {a : Int} {n : Nat} (h : (2 : Int) ^ n ≤ a) (h2 : a < 2 ^ (n + 1)) (hn : 30 ≤ n) : normI a n = a / 2 ^ (n - 30) ∧ InOct (a / 2 ^ (n - 30)) := by
  have e : 30 - n = 0 := by omega
  refine ⟨by rw [normI, e, Int.pow_zero, Int.mul_one], ?_⟩
  have hp : (0 : Int) < 2 ^ (n - 30) := Int.pow_pos (by decide)
  have e1 : 1073741824 * (2 : Int) ^ (n - 30) = 2 ^ n := by
    have : (1073741824 : Int) = 2 ^ 30 := rfl
    rw [this, ← Int.pow_add, show 30 + (n - 30) = n by omega]
  have e2 : 2147483648 * (2 : Int) ^ (n - 30) = 2 ^ (n + 1) := by
    have : (2147483648 : Int) = 2 ^ 31 := rfl
    rw [this, ← Int.pow_add, show 31 + (n - 30) = n + 1 by omega]
  constructor
  · exact (Int.le_ediv_iff_mul_le hp).2 (by omega)
  · exact (Int.ediv_lt_iff_lt_mul hp).2 (by omega)

theorem logStep_hi {p : Int × Int} (h : 2147483648 ≤ p.1 * p.1 / 1073741824) : logStep p = (p.1 * p.1 / 1073741824 / 2, p.2 * 2 + 1) := by rw [logStep, if_pos h]
theorem logStep_lo {p : Int × Int} (h : ¬ 2147483648 ≤ p.1 * p.1 / 1073741824) : logStep p = (p.1 * p.1 / 1073741824, p.2 * 2) := by rw [logStep, if_neg h]

theorem two_pow_le (k : Nat) (h : k ≤ 8) : (2 : Int) ^ k ≤ 256 ∧ 1 ≤ (2 : Int) ^ k := by
  have h1 : (2 : Nat) ^ k ≤ 2 ^ 8 := Nat.pow_le_pow_right (by decide) h
  have h2 := Nat.two_pow_pos k
  have h3 := pow_cast k
  have h4 : (2 : Nat) ^ 8 = 256 := by decide
  omega

theorem logIter_small {p : Int × Int} (h0 : 0 ≤ p.2) (h1 : p.2 ≤ 62) (k : Nat) (hk : k ≤ 8) : 0 ≤ (logIter p k).2 ∧ (logIter p k).2 ≤ 16384 := by
  obtain ⟨a1, a2⟩ := logIter_two (p := p) k
  obtain ⟨b1, b2⟩ := two_pow_le k hk
  have c1 : 0 ≤ p.2 * 2 ^ k := Int.mul_nonneg h0 (by omega)
  have c2 : (p.2 + 1) * 2 ^ k ≤ 63 * 256 := Int.mul_le_mul (by omega) b1 (by omega) (by decide)
  omega

theorem log2_any (a : Int) (w : World) (ha : a ≤ 9223372036854775807) :
    Calls Try.prog 16 #[.int .i64 a] w fun e w' => e = .returned (.int .i64 (log2I a)) ∧ w' = w := by
  by_cases h1 : a < 1
  · have e : log2I a = 0 := by simp [log2I, h1]
    rw [e]; clear e
    go_enter Try.func16, Try.ntmps16
    go_wp2
    go_ret
    exact ⟨rfl, rfl⟩
  · obtain ⟨hn, hl1, hl2⟩ := log_in a (by omega) ha
    have hbl := bitLen_log a.toNat (by omega) (by omega)
    have e : log2I a = (logIter (normI a a.toNat.log2, (a.toNat.log2 : Int)) 8).2 := by rw [log2I, if_neg h1]
    rw [e]; clear e
    generalize hN : a.toNat.log2 = N at *
    have hbl' : (Lib.bitLen a.toNat : Int) = N + 1 := by omega
    clear hbl hN
    have hlow : N ≤ 30 → Hid (wrap64 (a * 2 ^ (30 - N)) = normI a N) := fun hc => by
      obtain ⟨g1, g2, g3⟩ := norm_low hl1 hl2 hc
      show wrap64 (a * 2 ^ (30 - N)) = normI a N
      rw [g1, IntWalk.wrap64_in _ ⟨by omega, by omega⟩]
    have hhigh : 30 ≤ N → Hid (a / 2 ^ (N - 30) = normI a N) := fun hc => (norm_high hl1 hl2 hc).1.symm
    have hin : Hid (InOct (normI a N)) := by
      show InOct (normI a N)
      by_cases hc : N ≤ 30
      · obtain ⟨g1, g2⟩ := norm_low hl1 hl2 hc
        rw [g1]; exact g2
      · obtain ⟨g1, g2⟩ := norm_high hl1 hl2 (by omega)
        rw [g1]; exact g2
    have h30 : N = 30 → Hid (a = normI a N) := fun hc => by
      obtain ⟨g1, g2, g3⟩ := norm_low hl1 hl2 (by omega)
      show a = normI a N
      rw [g1, hc]; simp
    clear hl1 hl2
    obtain ⟨P, hP⟩ : ∃ P : Int × Int, P = (normI a N, (N : Int)) := ⟨_, rfl⟩
    rw [← hP]
    have hP1 : Hid (P.1 = normI a N) := by show P.1 = normI a N; rw [hP]
    have hP2 : Hid (P.2 = N) := by show P.2 = N; rw [hP]
    have hin' : InOct P.1 := by rw [hP1.out]; exact hin.out
    have hsm : Hid (0 ≤ P.2 ∧ P.2 ≤ 62) := by show 0 ≤ P.2 ∧ P.2 ≤ 62; rw [hP2.out]; omega
    clear hP hin
    have hN30 : N < 30 ∨ N = 30 ∨ 30 < N := by omega
    rcases hN30 with hc | hc | hc
    case' inr.inl => subst hc
    all_goals
      go_enter Try.func16, Try.ntmps16
      go_wp2_with (go_at_call 21; refine (len_any _ _ ?_).mono ?_; assumption; rw [hbl']; rintro e w' ⟨rfl, rfl⟩)
      go_loop [4, 5, 21] (fun m l i => ∃ k : Nat, k ≤ 8 ∧ i = .int .i64 k ∧ m = .int .i64 (logIter P k).1 ∧ l = .int .i64 (logIter P k).2) (fun _ _ i => 8 - (intOf i).toNat)
      case atStart =>
        refine ⟨0, by decide, rfl, ?_, ?_⟩
        · show Value.int .i64 _ = Value.int .i64 P.1
          rw [hP1.out]
          first
            | exact congrArg _ (h30 trivial).out
            | exact congrArg _ (hlow (Nat.le_of_lt ‹_›)).out
            | exact congrArg _ (hhigh (Nat.le_of_lt ‹_›)).out
        · show Value.int .i64 _ = Value.int .i64 P.2
          rw [hP2.out]
          try rfl
      case round =>
        obtain ⟨k, hk, rfl, rfl, rfl⟩ := hrel
        have hb := sq_in (logIter_in hin' k)
        have hl := logIter_small hsm.out.1 hsm.out.2 k hk
        clear hlow hhigh h30 hbl'
        by_cases hlt : k < 8
        · by_cases hcc : 2147483648 ≤ (logIter P k).1 * (logIter P k).1 / 1073741824
          · have HS : Hid (logIter P (k + 1) = ((logIter P k).1 * (logIter P k).1 / 1073741824 / 2, (logIter P k).2 * 2 + 1)) := logStep_hi hcc
            go_wp2
            go_round
            case rel => exact ⟨k + 1, by omega, by go_num, by rw [HS.out], by rw [HS.out]⟩
            case measure => simp [intOf]; omega
          · have HS : Hid (logIter P (k + 1) = ((logIter P k).1 * (logIter P k).1 / 1073741824, (logIter P k).2 * 2)) := logStep_lo hcc
            go_wp2
            go_round
            case rel => exact ⟨k + 1, by omega, by go_num, by rw [HS.out], by rw [HS.out]⟩
            case measure => simp [intOf]; omega
        · have hk8 : k = 8 := by omega
          subst hk8
          go_wp2
          go_ret
          exact ⟨rfl, rfl⟩

/-! ### Sqrt -/
def isqrt : Nat → Nat
  | 0 => 0
  | n + 1 => if (isqrt n + 1) * (isqrt n + 1) ≤ n + 1 then isqrt n + 1 else isqrt n

theorem isqrt_spec : ∀ n, isqrt n * isqrt n ≤ n ∧ n < (isqrt n + 1) * (isqrt n + 1)
  | 0 => by simp [isqrt]
  | n + 1 => by
    have h := isqrt_spec n
    unfold isqrt
    split
    · rename_i h1
      refine ⟨h1, ?_⟩
      have e : (isqrt n + 1 + 1) * (isqrt n + 1 + 1) = (isqrt n + 1) * (isqrt n + 1) + 2 * (isqrt n + 1) + 1 := by
        rw [Nat.add_mul, Nat.mul_add, Nat.mul_add]; omega
      omega
    · omega

theorem isqrt_unique {n r : Nat} (h1 : r * r ≤ n) (h2 : n < (r + 1) * (r + 1)) : r = isqrt n := by
  obtain ⟨g1, g2⟩ := isqrt_spec n
  have a1 : r < isqrt n + 1 := Nat.mul_self_lt_mul_self_iff.1 (by omega)
  have a2 : isqrt n < r + 1 := Nat.mul_self_lt_mul_self_iff.1 (by omega)
  omega

def sqrtI (a : Int) : Int := (isqrt a.toNat : Nat)

/-- Newton's step from above stays above the root. -/
theorem newton_above {a r : Int} (ha : 0 ≤ a) (hr : 1 ≤ r) : sqrtI a ≤ (r + a / r) / 2 := by
  obtain ⟨g1, _⟩ := isqrt_spec a.toNat
  have hs : (isqrt a.toNat : Int) * (isqrt a.toNat : Int) ≤ a := by
    have h : ((isqrt a.toNat * isqrt a.toNat : Nat) : Int) ≤ (a.toNat : Int) := Int.ofNat_le.2 g1
    rw [Int.natCast_mul] at h
    omega
  show (isqrt a.toNat : Int) ≤ _
  generalize (isqrt a.toNat : Int) = s at *
  have h1 : 2 * s - r ≤ a / r := by
    rw [Int.le_ediv_iff_mul_le (by omega)]
    have h2 : 0 ≤ (s - r) * (s - r) := by
      rcases Int.le_total 0 (s - r) with h | h
      · exact Int.mul_nonneg h h
      · exact Int.mul_nonneg_of_nonpos_of_nonpos h h
    have e1 : (s - r) * (s - r) = s * s - 2 * (s * r) + r * r := by
      rw [Int.sub_mul, Int.mul_sub, Int.mul_sub, Int.mul_comm r s]; omega
    have e2 : (2 * s - r) * r = 2 * (s * r) - r * r := by rw [Int.sub_mul, Int.mul_assoc]
    omega
  omega

/-- Where the step doesn't fall, the root is reached. -/
theorem newton_end {a r : Int} (ha : 0 ≤ a) (hr : 1 ≤ r) (h : sqrtI a ≤ r) (h1 : r ≤ (r + a / r) / 2) : r = sqrtI a := by
  obtain ⟨_, g2⟩ := isqrt_spec a.toNat
  have hd : r ≤ a / r := by omega
  have hm : r * r ≤ a := (Int.le_ediv_iff_mul_le (by omega)).1 hd
  have hn : r.toNat * r.toNat ≤ a.toNat := by
    have e : ((r.toNat * r.toNat : Nat) : Int) = r * r := by rw [Int.natCast_mul, Int.toNat_of_nonneg (by omega)]
    omega
  have hle : r.toNat < isqrt a.toNat + 1 := Nat.mul_self_lt_mul_self_iff.1 (by omega)
  have hs : sqrtI a = (isqrt a.toNat : Int) := rfl
  omega

theorem newton_room {a r : Int} (hs : 1 ≤ sqrtI a) (h : sqrtI a ≤ r) (ha : 0 ≤ a) : a / r ≤ sqrtI a + 2 := by
  obtain ⟨_, g2⟩ := isqrt_spec a.toNat
  have e : ((isqrt a.toNat + 1) * (isqrt a.toNat + 1) : Nat) = (sqrtI a + 1) * (sqrtI a + 1) := by rw [Int.natCast_mul]; rfl
  have g3 : a < (sqrtI a + 1) * (sqrtI a + 1) := by omega
  generalize sqrtI a = s at *
  have h1 : (s + 3) * s ≤ (s + 3) * r := Int.mul_le_mul_of_nonneg_left h (by omega)
  have e1 : (s + 1) * (s + 1) = s * s + 2 * s + 1 := by rw [Int.add_mul, Int.mul_add]; omega
  have e2 : (s + 3) * s = s * s + 3 * s := Int.add_mul _ _ _
  have h2 : a / r < s + 3 := Int.ediv_lt_of_lt_mul (by omega) (by omega)
  omega

theorem sqrt_start {a : Int} {n : Nat} (ha : 1 ≤ a) (h : a < 2 ^ (n + 1)) : sqrtI a ≤ 2 ^ ((n + 2) / 2) := by
  obtain ⟨g1, _⟩ := isqrt_spec a.toNat
  have h1 : a.toNat < 2 ^ (n + 1) := by have := pow_cast (n + 1); omega
  have h2 : isqrt a.toNat < 2 ^ ((n + 2) / 2) := by
    refine Nat.mul_self_lt_mul_self_iff.1 ?_
    rw [← Nat.pow_add]
    have h3 : 2 ^ (n + 1) ≤ 2 ^ ((n + 2) / 2 + (n + 2) / 2) := Nat.pow_le_pow_right (by decide) (by omega)
    omega
  have h4 := pow_cast ((n + 2) / 2)
  have hs : sqrtI a = (isqrt a.toNat : Int) := rfl
  omega

end Go.Proofs.Ytklpicfeajmadaa
