/- Powers and logarithms of package fix reckoned with natural numbers alone, and that more is never less. -/
import Derived.Test.YtklpicfeajmadaaFixC
import Derived.Test.YtklpicfeajmadaaFixN
namespace Go.Proofs.Ytklpicfeajmadaa
open Go.RowKit

/-- What the power is at most, behind k steps. -/
def expTop : Nat → Nat
  | 0 => 1073741824
  | k + 1 => (expTop k * rootN k + 536870912) / 1073741824

theorem rootN_in : ∀ k, k < 8 → 1073741824 ≤ rootN k ∧ rootN k ≤ 2147483648 := by decide
theorem rootN_at : ∀ k, k < 8 → rootAt k = (rootN k : Int) := by decide
theorem expTop_in : ∀ k, k < 9 → expTop k ≤ 2147483648 := by decide +kernel

theorem expNat_succ (q k : Nat) : expNat q (k + 1) = bif Nat.beq (q / 2 ^ (7 - k) % 2) 1 then (expNat q k * rootN k + 536870912) / 1073741824 else expNat q k := rfl
theorem expTop_succ (k : Nat) : expTop (k + 1) = (expTop k * rootN k + 536870912) / 1073741824 := rfl

theorem exp_room {x t r : Nat} (c : Bool) (h1 : 1073741824 ≤ x) (h2 : x ≤ t) (r1 : 1073741824 ≤ r) :
    1073741824 ≤ (bif c then (x * r + 536870912) / 1073741824 else x) ∧ (bif c then (x * r + 536870912) / 1073741824 else x) ≤ (t * r + 536870912) / 1073741824 := by
  have m1 : 1073741824 * 1073741824 ≤ x * r := Nat.mul_le_mul h1 r1
  have m2 : x * r ≤ t * r := Nat.mul_le_mul_right _ h2
  have m3 : t * 1073741824 ≤ t * r := Nat.mul_le_mul_left _ r1
  generalize x * r = u at *
  generalize t * r = v at *
  cases c
  · rw [cond_false]; omega
  · rw [cond_true]; omega

theorem expNat_in (q k : Nat) (h : k ≤ 8) : 1073741824 ≤ expNat q k ∧ expNat q k ≤ expTop k := by
  induction k with
  | zero => exact ⟨Nat.le_refl _, Nat.le_refl _⟩
  | succ k ih =>
    obtain ⟨h1, h2⟩ := ih (by omega)
    rw [expNat_succ, expTop_succ]
    exact exp_room _ h1 h2 (rootN_in k (by omega)).1

theorem cf_nat {n : Nat} (h : n ≤ 2147483648) : cf (n : Int) = n := by
  unfold cf clampI
  rw [if_neg (by omega), if_neg (by omega), if_neg (by omega)]

theorem mul30_nat {a b : Nat} (ha : a ≤ 2147483648) (hb : b ≤ 2147483648) : mulI (a : Int) (b : Int) 30 = ((a * b + 536870912) / 1073741824 : Nat) := by
  rw [mulI, if_neg (by decide), if_neg (by decide), if_neg (by decide), cf_nat ha, cf_nat hb]
  have e1 : (2 : Int) ^ ((30 : Int).toNat - 1) = 536870912 := rfl
  have e2 : (2 : Int) ^ (30 : Int).toNat = 1073741824 := rfl
  rw [e1, e2, ← Int.natCast_mul]
  omega

theorem expIter_succ (q : Int) (k : Nat) : expIter q (k + 1) = expStep q (expIter q k) k := rfl

theorem expIter_nat (q k : Nat) (h : k ≤ 8) : expIter (q : Int) k = (expNat q k : Int) := by
  induction k with
  | zero => rfl
  | succ k ihk =>
    have ih := ihk (by omega)
    obtain ⟨h1, h2⟩ := expNat_in q k (by omega)
    have h3 := expTop_in k (by omega)
    obtain ⟨r1, r2⟩ := rootN_in k (by omega)
    have e3 : (q : Int) / 2 ^ (7 - k) % 2 = ((q / 2 ^ (7 - k) % 2 : Nat) : Int) := by
      rw [← pow_cast]; rfl
    rw [expIter_succ, expNat_succ, expStep, ih, e3]
    by_cases hb : q / 2 ^ (7 - k) % 2 = 1
    · rw [hb, if_pos (by decide), rootN_at k (by omega), mul30_nat (by omega) r2, show Nat.beq 1 1 = true from rfl, cond_true]
    · have hb2 : q / 2 ^ (7 - k) % 2 = 0 := by omega
      rw [hb2, if_neg (by decide), show Nat.beq 0 1 = false from rfl, cond_false]

theorem exp2_nat (q : Nat) (h : q ≤ 7935) : exp2I (q : Int) = (exp2N q : Int) := by
  have hc : clampI (q : Int) 0 7935 = (q : Int) := by
    unfold clampI
    rw [if_neg (by omega), if_neg (by omega), if_neg (by omega)]
  obtain ⟨h1, h2⟩ := expNat_in q 8 (by omega)
  have h3 := expTop_in 8 (by omega)
  rw [exp2I, hc, expIter_nat q 8 (by omega), mulI, if_neg (by omega), if_neg (by omega), cf_nat (by omega), show cf 1 = 1 from rfl, Int.mul_one]
  unfold exp2N
  by_cases hb : q / 256 = 30
  · rw [if_pos (by omega), hb, show Nat.beq 30 30 = true from rfl, cond_true]
  · have hbeq : Nat.beq (q / 256) 30 = false := by
      cases hh : Nat.beq (q / 256) 30
      · rfl
      · exact absurd (Nat.eq_of_beq_eq_true hh) hb
    rw [if_neg (by omega), hbeq, cond_false]
    have e1 : (30 - (q : Int) / 256).toNat - 1 = 29 - q / 256 := by omega
    have e2 : (30 - (q : Int) / 256).toNat = 30 - q / 256 := by omega
    rw [e1, e2, ← pow_cast, ← pow_cast, ← Int.natCast_add, ← Int.natCast_ediv]

theorem exp2N_step (k : Nat) (h : k < 7935) : exp2N k ≤ exp2N (k + 1) := by
  have h1 := span_all exp_steps k (Nat.zero_le _) (by omega)
  simp only [Bool.or_eq_true] at h1
  rcases h1 with h1 | h1
  · have := Nat.le_of_ble_eq_true h1; omega
  · exact Nat.le_of_ble_eq_true h1

theorem exp2N_mono (a d : Nat) (h : a + d ≤ 7935) : exp2N a ≤ exp2N (a + d) := by
  induction d with
  | zero => exact Nat.le_refl _
  | succ d ih => exact Nat.le_trans (ih (by omega)) (exp2N_step (a + d) (by omega))

theorem clampI_mono {a b lo hi : Int} (h : a ≤ b) : clampI a lo hi ≤ clampI b lo hi := by
  unfold clampI
  by_cases h1 : a < lo <;> by_cases h2 : hi < lo <;> by_cases h3 : hi < a <;> by_cases h4 : b < lo <;> by_cases h5 : hi < b <;> simp only [h1, h2, h3, h4, h5, if_true, if_false] <;> omega

theorem exp2I_clamp (q : Int) : exp2I q = (exp2N (clampI q 0 7935).toNat : Int) ∧ (clampI q 0 7935).toNat ≤ 7935 := by
  have hc := clampI_in q 0 7935 (by decide)
  have e : exp2I q = exp2I ((clampI q 0 7935).toNat : Int) := by
    have e2 : ((clampI q 0 7935).toNat : Int) = clampI q 0 7935 := Int.toNat_of_nonneg hc.1
    have e3 : clampI (clampI q 0 7935) 0 7935 = clampI q 0 7935 := by
      generalize clampI q 0 7935 = c at hc
      unfold clampI
      rw [if_neg (by omega), if_neg (by omega), if_neg (by omega)]
    rw [e2]
    unfold exp2I
    rw [e3]
  refine ⟨?_, by omega⟩
  rw [e, exp2_nat _ (by omega)]

theorem exp2I_mono {a b : Int} (h : a ≤ b) : exp2I a ≤ exp2I b := by
  obtain ⟨e1, g1⟩ := exp2I_clamp a
  obtain ⟨e2, g2⟩ := exp2I_clamp b
  have hm := clampI_mono (lo := 0) (hi := 7935) h
  have ha := clampI_in a 0 7935 (by decide)
  rw [e1, e2]
  have hd : (clampI a 0 7935).toNat + ((clampI b 0 7935).toNat - (clampI a 0 7935).toNat) = (clampI b 0 7935).toNat := by omega
  have := exp2N_mono (clampI a 0 7935).toNat ((clampI b 0 7935).toNat - (clampI a 0 7935).toNat) (by omega)
  rw [hd] at this
  omega

/-! ### Roots, products, lengths, logarithms -/
theorem sqrtI_mono {a b : Int} (h : a ≤ b) : sqrtI a ≤ sqrtI b := by
  obtain ⟨g1, _⟩ := isqrt_spec a.toNat
  obtain ⟨_, g2⟩ := isqrt_spec b.toNat
  have h1 : isqrt a.toNat < isqrt b.toNat + 1 := Nat.mul_self_lt_mul_self_iff.1 (by omega)
  show ((isqrt a.toNat : Nat) : Int) ≤ ((isqrt b.toNat : Nat) : Int)
  omega

theorem mulI_mono {a b c s : Int} (h : a ≤ b) (hc : 0 ≤ c) : mulI a c s ≤ mulI b c s := by
  have h1 : cf a ≤ cf b := clampI_mono h
  have h2 : 0 ≤ cf c := by
    have := clampI_mono (lo := -2147483648) (hi := 2147483648) hc
    exact Int.le_trans (by decide) this
  have h3 : cf a * cf c ≤ cf b * cf c := Int.mul_le_mul_of_nonneg_right h1 h2
  unfold mulI
  split
  · exact Int.le_refl _
  · split
    · exact Int.le_refl _
    · split
      · exact h3
      · exact Int.ediv_le_ediv (Int.pow_pos (by decide)) (by omega)

theorem bitLen_mono {a b : Int} (h : a ≤ b) (hb : b ≤ 9223372036854775807) : Lib.bitLen a.toNat ≤ Lib.bitLen b.toNat := by
  by_cases h0 : a.toNat = 0
  · rw [h0]; exact Nat.zero_le _
  · rw [bitLen_log a.toNat h0 (by omega), bitLen_log b.toNat (by omega) (by omega)]
    have h1 : 2 ^ a.toNat.log2 ≤ a.toNat := Nat.log2_self_le h0
    have h2 : b.toNat < 2 ^ (b.toNat.log2 + 1) := Nat.lt_log2_self
    have h3 : a.toNat.log2 < b.toNat.log2 + 1 := (Nat.pow_lt_pow_iff_right (by decide)).1 (Nat.lt_of_le_of_lt h1 (by omega))
    omega

/-- One state of the logarithm's steps is not above another. -/
def Under (p q : Int × Int) : Prop := p.2 < q.2 ∨ (p.2 = q.2 ∧ p.1 ≤ q.1)

theorem Under.step {p q : Int × Int} (hp : InOct p.1) (h : Under p q) : Under (logStep p) (logStep q) := by
  have hp2 := @logStep_two p
  have hq2 := @logStep_two q
  rcases h with h | ⟨h, hm⟩
  · left; omega
  · have hs : p.1 * p.1 ≤ q.1 * q.1 := Int.mul_le_mul hm hm (by have := hp.1; omega) (by have := hp.1; omega)
    unfold logStep Under
    by_cases c1 : 2147483648 ≤ p.1 * p.1 / 1073741824 <;> by_cases c2 : 2147483648 ≤ q.1 * q.1 / 1073741824
    · rw [if_pos c1, if_pos c2]; right; simp only; omega
    · omega
    · rw [if_neg c1, if_pos c2]; left; simp only; omega
    · rw [if_neg c1, if_neg c2]; right; simp only; omega

theorem Under.iter {p q : Int × Int} (hp : InOct p.1) (h : Under p q) : ∀ k, Under (logIter p k) (logIter q k)
  | 0 => h
  | k + 1 => Under.step (logIter_in hp k) (Under.iter hp h k)

theorem norm_in {a : Int} (h : 1 ≤ a) (h1 : a ≤ 9223372036854775807) : InOct (normI a a.toNat.log2) := by
  obtain ⟨g0, g1, g2⟩ := log_in a h h1
  by_cases hc : a.toNat.log2 ≤ 30
  · obtain ⟨k1, k2⟩ := norm_low g1 g2 hc
    rw [k1]; exact k2
  · obtain ⟨k1, k2⟩ := norm_high g1 g2 (by omega)
    rw [k1]; exact k2

theorem log2I_in {a : Int} (h : 1 ≤ a) : 256 * (a.toNat.log2 : Int) ≤ log2I a ∧ log2I a < 256 * (a.toNat.log2 : Int) + 256 := by
  rw [log2I, if_neg (by omega)]
  obtain ⟨h1, h2⟩ := @logIter_two (normI a a.toNat.log2, (a.toNat.log2 : Int)) 8
  have e : (2 : Int) ^ 8 = 256 := rfl
  rw [e] at h1 h2
  simp only at h1 h2
  omega

theorem log2I_mono {a b : Int} (h : a ≤ b) (hb : b ≤ 9223372036854775807) : log2I a ≤ log2I b := by
  by_cases ha : a < 1
  · rw [show log2I a = 0 by rw [log2I, if_pos ha]]
    by_cases hb1 : b < 1
    · rw [log2I, if_pos hb1]
      exact Int.le_refl _
    · have := (log2I_in (a := b) (by omega)).1
      omega
  · have hl := bitLen_mono h hb
    rw [bitLen_log a.toNat (by omega) (by omega), bitLen_log b.toNat (by omega) (by omega)] at hl
    by_cases hlt : a.toNat.log2 < b.toNat.log2
    · have h1 := (log2I_in (a := a) (by omega)).2
      have h2 := (log2I_in (a := b) (by omega)).1
      omega
    · have he : a.toNat.log2 = b.toNat.log2 := by omega
      have hu : Under (normI a a.toNat.log2, (a.toNat.log2 : Int)) (normI b b.toNat.log2, (b.toNat.log2 : Int)) := by
        right
        refine ⟨by simp only [he], ?_⟩
        show normI a a.toNat.log2 ≤ normI b b.toNat.log2
        rw [he]
        unfold normI
        exact Int.ediv_le_ediv (Int.pow_pos (by decide)) (Int.mul_le_mul_of_nonneg_right h (Int.le_of_lt (Int.pow_pos (by decide))))
      have hk := Under.iter (norm_in (by omega) (by omega)) hu 8
      rw [log2I, if_neg ha, log2I, if_neg (by omega)]
      rcases hk with hk | ⟨hk, _⟩ <;> omega

end Go.Proofs.Ytklpicfeajmadaa
