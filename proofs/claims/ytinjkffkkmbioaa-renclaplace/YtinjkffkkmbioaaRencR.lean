/- By how much Tell grows, as plain numbers. Nothing here is of any program. -/
import Derived.Test.YtinjkffkkmbioaaRencL
namespace Go.Proofs.Ytinjkffkkmbioaa

theorem lenN_double_one (m : Nat) : lenN m ≤ lenN (m / 2) + 1 := by
  by_cases h : m = 0
  · subst h; decide
  · by_cases h1 : m = 1
    · subst h1; decide
    · unfold lenN
      rw [if_neg h, if_neg (by omega)]
      have h3 : m / 2 < 2 ^ ((m / 2).log2 + 1) := Nat.lt_log2_self
      have h4 : m.log2 < (m / 2).log2 + 2 := (Nat.log2_lt h).2 (by rw [Nat.pow_succ]; omega)
      omega

/-- Halved k times, a number is at most k bits shorter. -/
theorem lenN_shift (n : Nat) : ∀ k, lenN n ≤ lenN (n / 2 ^ k) + k
  | 0 => by rw [Nat.pow_zero, Nat.div_one]; exact Nat.le_refl _
  | k + 1 => by
    have h := lenN_shift n k
    have h2 := lenN_double_one (n / 2 ^ k)
    rw [Nat.pow_succ, ← Nat.div_div_eq_div_mul]
    omega

theorem tellE_put_le {e : Sp} (h : SpOk e) {fl fh ft : Nat} (h1 : fl < fh) (h3 : fh ≤ ft) (hft : ft ≤ 32768) (R R' : Nat) : tellE (putE e fl fh ft) R' ≤ tellE e R + 15 + R' - R := by
  obtain ⟨a1, a2⟩ := narrowE_rng h h1 h3 hft
  have hq : e.rng / 2 ^ 15 ≤ e.rng / ft := Nat.div_le_div_left (by omega) (by omega)
  have hm : e.rng / ft * ft ≤ e.rng := Nat.div_mul_le_self _ _
  have m1 : e.rng / ft * 1 ≤ e.rng / ft * (fh - fl) := Nat.mul_le_mul_left _ (by omega)
  have m3 : e.rng / ft * (ft - fh) + e.rng / ft * (fh - fl) ≤ e.rng / ft * ft := by rw [← Nat.mul_add]; exact Nat.mul_le_mul_left _ (by omega)
  have hr : e.rng / 2 ^ 15 ≤ (narrowE e fl fh ft).rng := by
    show e.rng / 2 ^ 15 ≤ (if 0 < fl then e.rng / ft * (fh - fl) else e.rng - e.rng / ft * (ft - fh))
    generalize e.rng / 2 ^ 15 = q at *
    split <;> omega
  have hl := lenN_shift e.rng 15
  have hl2 := lenN_mono hr
  unfold putE
  rw [tellE_norm 3 _ R' a1]
  have hk : (narrowE e fl fh ft).k = e.k := rfl
  unfold tellE
  rw [hk]
  omega

theorem spanW_grows {x : Wr} (h : okW x) {e : Sp} (he : SpOk e) (R : Nat) : tellE (spanW x e) (R + rawN x) ≤ tellE e R + 48 := by
  unfold okW at h
  unfold spanW rawN
  by_cases h0 : x.op = 0
  · rw [if_pos h0] at h ⊢
    rw [if_neg (by omega), if_neg (by omega)]
    obtain ⟨g1, g2, g3⟩ := h
    obtain ⟨p1, p2⟩ := sym_part g1 (v := x.v.toNat) (by omega)
    have := tellE_put_le he p1 p2 (by decide) R (R + 0)
    unfold symE
    omega
  rw [if_neg h0] at h ⊢
  by_cases h1 : x.op = 1
  · rw [if_pos h1] at h ⊢
    rw [if_neg (by omega), if_neg (by omega)]
    have hp1 : 2 ^ 1 ≤ 2 ^ x.n.toNat := Nat.pow_le_pow_right (by decide) (by omega)
    have hp2 : 2 ^ x.n.toNat ≤ 2 ^ 15 := Nat.pow_le_pow_right (by decide) (by omega)
    have hl := he.low
    have hd1 : 1 ≤ e.rng / 2 ^ x.n.toNat := (Nat.le_div_iff_mul_le (by omega)).2 (by omega)
    have hd2 : e.rng / 2 ^ x.n.toNat ≤ e.rng / 2 ^ 1 := Nat.div_le_div_left hp1 (by decide)
    have hs := lenN_shift e.rng x.n.toNat
    have hs1 := lenN_shift e.rng 1
    have e1 : e.rng / 2 ^ 1 = e.rng / 2 := rfl
    rw [e1] at hd2 hs1
    unfold putFlagE
    rw [tellE_norm 3 _ _ (by unfold flagE; split; exact hd1; show 1 ≤ e.rng - e.rng / 2 ^ x.n.toNat; omega)]
    unfold flagE
    split
    · unfold tellE
      simp only
      omega
    · have hm := lenN_mono (show e.rng / 2 ≤ e.rng - e.rng / 2 ^ x.n.toNat by omega)
      unfold tellE
      simp only
      omega
  rw [if_neg h1] at h ⊢
  by_cases h2 : x.op = 2
  · rw [if_pos h2] at h ⊢
    rw [if_pos h2]
    unfold tellE
    omega
  rw [if_neg h2] at h ⊢
  rw [if_neg h2]
  by_cases h3 : x.op = 3
  · rw [if_pos h3] at h ⊢
    rw [if_pos h3]
    obtain ⟨o1, o2, o3, o4⟩ := h
    unfold uintE
    by_cases c1 : x.n.toNat ≤ 1
    · rw [if_pos c1, if_pos (by omega)]
      unfold tellE
      omega
    · rw [if_neg c1]
      by_cases c2 : x.n.toNat ≤ 256
      · rw [if_pos c2, if_pos c2]
        have := tellE_put_le he (Nat.lt_succ_self _) (show x.v.toNat < x.n.toNat by omega) (show x.n.toNat ≤ 32768 by omega) R (R + 0)
        simp only [Nat.succ_eq_add_one] at this
        omega
      · rw [if_neg c2, if_neg c2]
        obtain ⟨_, s2, s3, s4⟩ := shift_in (ft := x.n.toNat) (by omega) (by omega)
        have := tellE_put_le he (Nat.lt_succ_self _) (part_of (by omega) (show x.v.toNat < x.n.toNat by omega)) (show partN x.n.toNat ≤ 32768 by omega) R (R + shiftN x.n.toNat)
        simp only [Nat.succ_eq_add_one] at this
        omega
  rw [if_neg h3] at h ⊢
  rw [if_neg h3]
  by_cases h4 : x.op = 4
  · rw [if_pos h4] at h ⊢
    obtain ⟨⟨o1, o2, o3, o4⟩, hf, _⟩ := h
    obtain ⟨a1, a2, _, _⟩ := lapAll_in (fs := x.n.toNat) (decay := x.m.toNat) (f := x.f) (by omega) (by omega)
    have := tellE_put_le he (show (lapAll x.n.toNat x.m.toNat x.f).2.1 < min (lapAll x.n.toNat x.m.toNat x.f).2.2 32768 by omega) (show min (lapAll x.n.toNat x.m.toNat x.f).2.2 32768 ≤ 32768 by omega) (by decide) R (R + 0)
    unfold lapE
    omega
  · rw [if_neg h4] at h ⊢
    obtain ⟨g1, g2, g3⟩ := h
    obtain ⟨p1, p2⟩ := sym_part g1 (v := x.v.toNat) (by omega)
    have := tellE_put_le he p1 p2 (by decide) R (R + 0)
    unfold symE
    omega

end Go.Proofs.Ytinjkffkkmbioaa
