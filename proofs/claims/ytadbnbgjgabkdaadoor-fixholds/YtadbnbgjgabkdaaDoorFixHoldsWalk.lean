/- The law of what undoes one another answers true, in whatever memory where the roots lie as laid. -/
import Derived.Test.YtadbnbgjgabkdaaDoorFixE
import Derived.Test.YtadbnbgjgabkdaaDoorFixM
namespace Go.Proofs.YtadbnbgjgabkdaaDoor
open Go.RowKit

theorem logIter_front (p : Int × Int) (k : Nat) : logIter p (k + 1) = logIter (logStep p) k := by
  induction k with
  | zero => rfl
  | succ k ih => show logStep (logIter p (k + 1)) = logStep (logIter (logStep p) k); rw [ih]

theorem logN_succ (k m l : Nat) : logN (k + 1) m l = bif Nat.ble 2147483648 (m * m / 1073741824) then logN k (m * m / 1073741824 / 2) (l * 2 + 1) else logN k (m * m / 1073741824) (l * 2) := rfl

theorem logN_iter (k : Nat) : ∀ m l : Nat, (logN k m l : Int) = (logIter ((m : Int), (l : Int)) k).2 := by
  induction k with
  | zero => intro m l; rfl
  | succ k ih =>
    intro m l
    have e : (m : Int) * (m : Int) / 1073741824 = ((m * m / 1073741824 : Nat) : Int) := by rw [← Int.natCast_mul]; rfl
    rw [logIter_front, logN_succ]
    by_cases hc : 2147483648 ≤ m * m / 1073741824
    · rw [Nat.ble_eq_true_of_le hc, cond_true, ih]
      have hs : logStep ((m : Int), (l : Int)) = (((m * m / 1073741824 / 2 : Nat) : Int), ((l * 2 + 1 : Nat) : Int)) := by
        rw [logStep_hi (by simp only [e]; omega)]
        simp only [e]
        rfl
      rw [hs]
    · have hf : Nat.ble 2147483648 (m * m / 1073741824) = false := by
        cases h : Nat.ble 2147483648 (m * m / 1073741824)
        · rfl
        · exact absurd (Nat.le_of_ble_eq_true h) hc
      rw [hf, cond_false, ih]
      have hs : logStep ((m : Int), (l : Int)) = (((m * m / 1073741824 : Nat) : Int), ((l * 2 : Nat) : Int)) := by
        rw [logStep_lo (by simp only [e]; omega)]
        simp only [e]
        rfl
      rw [hs]

theorem log2_nat (x : Nat) (h : 1 ≤ x) : log2I (x : Int) = (log2N x : Int) := by
  rw [log2I, if_neg (by omega), log2N, logN_iter]
  have e : ((x : Nat) : Int).toNat = x := rfl
  have e2 : normI (x : Int) x.log2 = ((x * 2 ^ (30 - x.log2) / 2 ^ (x.log2 - 30) : Nat) : Int) := by
    rw [normI, ← pow_cast, ← pow_cast, ← Int.natCast_mul]; rfl
  rw [e, e2]

theorem exp2N_pos (q : Nat) (h : q ≤ 7935) : 1 ≤ exp2N q := by
  have h0 : exp2N 0 = 1 := by decide +kernel
  have := exp2N_mono 0 q (by omega)
  rw [Nat.zero_add] at this
  omega

theorem back_in {q : Int} (h : 2048 ≤ q) (h2 : q ≤ 7900) : q - 2 ≤ log2I (exp2I q) ∧ log2I (exp2I q) ≤ q + 2 := by
  have h3 := span_all log_backs (q - 2048).toNat (Nat.zero_le _) (by omega)
  simp only [Bool.or_eq_true, Bool.and_eq_true] at h3
  have e : (q - 2048).toNat + 2048 = q.toNat := by omega
  rw [e] at h3
  have e2 : exp2I q = (exp2N q.toNat : Int) := by
    have := exp2_nat q.toNat (by omega)
    rwa [Int.toNat_of_nonneg (by omega)] at this
  rw [e2, log2_nat _ (exp2N_pos _ (by omega))]
  rcases h3 with h3 | ⟨h3, h4⟩
  · have := Nat.le_of_ble_eq_true h3
    omega
  · have g1 := Nat.le_of_ble_eq_true h3
    have g2 := Nat.le_of_ble_eq_true h4
    omega

theorem exp2I_le (q : Int) : exp2I q ≤ 2147483648 := by
  obtain ⟨e, g⟩ := exp2I_clamp q
  have h0 : exp2N 7935 ≤ 2147483648 := by decide +kernel
  have h1 := exp2N_mono (clampI q 0 7935).toNat (7935 - (clampI q 0 7935).toNat) (by omega)
  rw [show (clampI q 0 7935).toNat + (7935 - (clampI q 0 7935).toNat) = 7935 by omega] at h1
  omega

theorem sqrtI_spec {a : Int} (h : 1 ≤ a) (h2 : a ≤ 4611686018427387904) : 1 ≤ sqrtI a ∧ sqrtI a ≤ 2147483648 ∧ sqrtI a * sqrtI a ≤ a ∧ a < (sqrtI a + 1) * (sqrtI a + 1) ∧ (sqrtI a + 1) * (sqrtI a + 1) ≤ 4611686022722355201 := by
  obtain ⟨g1, g2⟩ := isqrt_spec a.toNat
  have e1 : ((isqrt a.toNat * isqrt a.toNat : Nat) : Int) = sqrtI a * sqrtI a := Int.natCast_mul _ _
  have e2 : (((isqrt a.toNat + 1) * (isqrt a.toNat + 1) : Nat) : Int) = (sqrtI a + 1) * (sqrtI a + 1) := Int.natCast_mul _ _
  have e3 : sqrtI a = ((isqrt a.toNat : Nat) : Int) := rfl
  have h3 : 0 < isqrt a.toNat := by
    rcases Nat.eq_zero_or_pos (isqrt a.toNat) with h0 | h0
    · rw [h0] at g2; omega
    · exact h0
  have h4 : isqrt a.toNat < 2147483648 + 1 := Nat.mul_self_lt_mul_self_iff.1 (by omega)
  have h5 : (sqrtI a + 1) * (sqrtI a + 1) ≤ 2147483649 * 2147483649 := Int.mul_le_mul (by omega) (by omega) (by omega) (by decide)
  refine ⟨by omega, by omega, by omega, by omega, h5⟩

theorem top_bit {a : Int} {n : Nat} (h1 : (2 : Int) ^ n ≤ a) (h2 : a < 2 ^ (n + 1)) : a / 2 ^ n = 1 := by
  have hp : (0 : Int) < 2 ^ n := Int.pow_pos (by decide)
  rw [Int.pow_succ] at h2
  have g1 : 1 ≤ a / 2 ^ n := (Int.le_ediv_iff_mul_le hp).2 (by omega)
  have g2 : a / 2 ^ n < 2 := (Int.ediv_lt_iff_lt_mul hp).2 (by omega)
  omega

set_option maxHeartbeats 1000000 in
theorem fixHolds.walk (a q : Int) (w : World) (wa : (Lit.int .i64 a).wf = true) (wq : (Lit.int .i64 q).wf = true) (hr : RootsAt w) :
    Calls Tryd.prog 5 #[.int .i64 a, .int .i64 q] w fun e w' => e = .returned (.bool true) ∧ Below w.heap.size w w' := by
  have ba := bounds_i64 wa
  have bq := bounds_i64 wq
  clear wa wq
  have hz := hr.size
  have hc : a < 1 ∨ (1 ≤ a ∧ 4611686018427387904 < a) ∨ (1 ≤ a ∧ a ≤ 4611686018427387904) := by omega
  rcases hc with h1 | ⟨h1, h2⟩ | ⟨h1, h2⟩
  iterate 2
    · go_enter Tryd.func5, Tryd.ntmps5
      go_wp2_with (go_at_call 9; refine (awake_any _ hr).mono ?_; rintro e w0 ⟨rfl, hw0⟩)
      go_ret
      exact ⟨rfl, hw0⟩
  · obtain ⟨s1, s2, s3, s4, s5⟩ := sqrtI_spec h1 h2
    obtain ⟨l1, l2, l3⟩ := log_in a h1 (by omega)
    have l4 := log2I_in h1
    have l5 := top_bit l2 l3
    have l6 : (Lib.bitLen a.toNat : Int) = (a.toNat.log2 : Int) + 1 := by rw [bitLen_log a.toNat (by omega) (by omega)]; rfl
    clear l2 l3
    generalize hN : a.toNat.log2 = N at *
    clear hN
    have HL : Hid ((Lib.bitLen a.toNat : Int) = (N : Int) + 1) := l6
    clear l6
    generalize hR : sqrtI a = R at *
    have HR : Hid (sqrtI a = R) := hR
    clear hR
    have s6 : R < 3037000499 := by omega
    have s7 : 0 ≤ R * R := Int.mul_nonneg (by omega) (by omega)
    have s8 := exp2I_le q
    have hq : q < 2048 ∨ (2048 ≤ q ∧ 7900 < q) ∨ (2048 ≤ q ∧ q ≤ 7900) := by omega
    rcases hq with q1 | ⟨q1, q2⟩ | ⟨q1, q2⟩
    case' inr.inr =>
      have q3 := back_in q1 q2
      have q4 : -2 ≤ log2I (exp2I q) - q := by omega
      have q5 : log2I (exp2I q) - q ≤ 2 := by omega
    all_goals
      go_enter Tryd.func5, Tryd.ntmps5
      go_wp2_with (first
        | (go_at_call 9; refine (awake_any _ hr).mono ?_; rintro e w0 ⟨rfl, hw0⟩; have hr0 := hr.below hw0 hz)
        | (go_at_call 13; refine (log2_any _ _ ?_).mono ?_; omega; rintro e w' ⟨rfl, rfl⟩)
        | (go_at_call 17; refine (exp2_any _ _ ?_).mono ?_; exact hr0; rintro e w' ⟨rfl, rfl⟩)
        | (go_at_call 14; refine (sqrt_any _ _ ?_).mono ?_; omega; rw [HR.out]; rintro e w' ⟨rfl, rfl⟩)
        | (go_at_call 15; refine (len_any _ _ ?_).mono ?_; omega; rw [HL.out]; rintro e w' ⟨rfl, rfl⟩))
      go_ret
      exact ⟨rfl, hw0⟩
end Go.Proofs.YtadbnbgjgabkdaaDoor
