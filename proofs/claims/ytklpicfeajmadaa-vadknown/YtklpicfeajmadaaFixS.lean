/- What the document's own answers of chapter 1 (the reference) come to: logarithms, powers, roots, cosines. -/
import Derived.Test.YtklpicfeajmadaaFixR
namespace Go.Proofs.Ytklpicfeajmadaa
open Go.RowKit

/-! ### Log2 -/
theorem logIter_shift (m l : Int) (k : Nat) : logIter (m, l) k = ((logIter (m, 0) k).1, l * 2 ^ k + (logIter (m, 0) k).2) := by
  induction k with
  | zero => simp [logIter]
  | succ k ih =>
    show logStep (logIter (m, l) k) = ((logStep (logIter (m, 0) k)).1, l * 2 ^ (k + 1) + (logStep (logIter (m, 0) k)).2)
    rw [ih]
    generalize logIter (m, 0) k = q
    unfold logStep
    rw [Int.pow_succ, ← Int.mul_assoc]
    simp only
    split
    · simp only [Prod.mk.injEq, true_and]; omega
    · simp only [Prod.mk.injEq, true_and]; omega

theorem rlog2_any (a : Int) (w : World) (ha : a ≤ 9223372036854775807) :
    Calls Try.prog 19 #[.int .i64 a] w fun e w' => e = .returned (.int .i64 (log2I a)) ∧ w' = w := by
  by_cases h1 : a < 1
  · have e : log2I a = 0 := by simp [log2I, h1]
    rw [e]; clear e
    go_enter Try.func19, Try.ntmps19
    go_wp2
    go_ret
    exact ⟨rfl, rfl⟩
  · obtain ⟨hn, hl1, hl2⟩ := log_in a (by omega) ha
    have hbl := bitLen_log a.toNat (by omega) (by omega)
    have e : log2I a = 256 * (a.toNat.log2 : Int) + (logIter (normI a a.toNat.log2, 0) 8).2 := by
      rw [log2I, if_neg h1, logIter_shift]
      show (a.toNat.log2 : Int) * 2 ^ 8 + _ = _
      have : (2 : Int) ^ 8 = 256 := rfl
      rw [this]; omega
    rw [e]; clear e
    generalize hN : a.toNat.log2 = N at *
    have hbl' : (Lib.bitLen a.toNat : Int) = N + 1 := by omega
    clear hbl hN
    have hlow : ∀ j : Nat, N + 1 + j ≤ 31 → Hid (a * 2 ^ j < 2147483648) := fun j hj => by
      show a * 2 ^ j < 2147483648
      have hp : (0 : Int) < 2 ^ j := Int.pow_pos (by decide)
      have e2 : (2 : Int) ^ (N + 1) * 2 ^ j ≤ 2147483648 := by
        rw [← Int.pow_add, ← pow_cast]
        have : (2 : Nat) ^ (N + 1 + j) ≤ 2 ^ 31 := Nat.pow_le_pow_right (by decide) hj
        have h31 : (2 : Nat) ^ 31 = 2147483648 := by decide
        omega
      have := Int.mul_lt_mul_of_pos_right hl2 hp
      omega
    have hn1 : N ≤ 30 → Hid (a * 2 ^ (30 - N) = normI a N) := fun hc => (norm_low hl1 hl2 hc).1.symm
    have hn2 : 30 ≤ N → Hid (a / 2 ^ (N - 30) = normI a N) := fun hc => (norm_high hl1 hl2 hc).1.symm
    have hin : InOct (normI a N) := by
      by_cases hc : N ≤ 30
      · obtain ⟨g1, g2⟩ := norm_low hl1 hl2 hc
        rw [g1]; exact g2
      · obtain ⟨g1, g2⟩ := norm_high hl1 hl2 (by omega)
        rw [g1]; exact g2
    clear hl1 hl2
    have hM : ∃ M, normI a N = M := ⟨_, rfl⟩
    obtain ⟨M, hM⟩ := hM
    rw [hM] at hn1 hn2 hin ⊢
    clear hM
    go_enter Try.func19, Try.ntmps19
    go_wp2_with (go_at_call 23; refine (rlen_any _ _ ?_).mono ?_; assumption; rw [hbl']; rintro e w' ⟨rfl, rfl⟩)
    go_loop [4, 5] (fun m i => ∃ j : Nat, (j = 0 ∨ N + 1 + j ≤ 31) ∧ i = .int .i64 ((N + 1 + j : Nat) : Int) ∧ m = .int .i64 (a * 2 ^ j)) (fun _ i => 31 - (intOf i).toNat)
    case atStart => exact ⟨0, .inl rfl, by simp, by simp⟩
    case round =>
      obtain ⟨j, hj, rfl, rfl⟩ := hrel
      by_cases hlt : N + 1 + j < 31
      · have hb := (hlow (j + 1) (by omega)).out
        have he : a * 2 ^ (j + 1) = a * 2 ^ j * 2 := by rw [Int.pow_succ, ← Int.mul_assoc]
        have hp : 0 ≤ a * 2 ^ j := Int.mul_nonneg (by omega) (Int.le_of_lt (Int.pow_pos (by decide)))
        rw [he] at hb
        have HE : Hid (a * 2 ^ (j + 1) = a * 2 ^ j * 2) := he
        clear he hlow hn1 hn2
        generalize a * 2 ^ j = A at *
        go_wp2
        go_round
        case rel => exact ⟨j + 1, .inr (by omega), by go_num, by rw [HE.out]⟩
        case measure => simp [intOf]; omega
      · have HM : Hid ((N ≤ 30 → a * 2 ^ j = M) ∧ (30 < N → j = 0 ∧ a / 2 ^ (N - 30) = M)) := by
          refine ⟨fun hc => ?_, fun hc => ⟨by omega, (hn2 (by omega)).out⟩⟩
          have hj2 : j = 30 - N := by omega
          rw [hj2]
          exact (hn1 hc).out
        have hne : N + 1 + j = 31 ∨ 30 < N := by omega
        clear hlow hn1 hn2
        by_cases hc : N ≤ 30
        · have hm := HM.out.1 hc
          have hj3 : N + 1 + j = 31 := by omega
          have hN3 : N < 31 := by omega
          rw [hm]
          clear hm HM hne hj hlt
          go_wp2
          go_loop [4, 6, 7] (fun m f i => ∃ k : Nat, k ≤ 8 ∧ i = .int .i64 k ∧ m = .int .i64 (logIter (M, 0) k).1 ∧ f = .int .i64 (logIter (M, 0) k).2) (fun _ _ i => 8 - (intOf i).toNat)
          case atStart => exact ⟨0, by decide, rfl, rfl, rfl⟩
          case round =>
            obtain ⟨k, hk, rfl, rfl, rfl⟩ := hrel
            have hb := sq_in (logIter_in (p := (M, 0)) hin k)
            have hl := logIter_small (p := (M, 0)) (show (0 : Int) ≤ 0 by decide) (show (0 : Int) ≤ 62 by decide) k hk
            by_cases hlt : k < 8
            · by_cases hcc : 2147483648 ≤ (logIter (M, 0) k).1 * (logIter (M, 0) k).1 / 1073741824
              · have HS : Hid (logIter (M, 0) (k + 1) = ((logIter (M, 0) k).1 * (logIter (M, 0) k).1 / 1073741824 / 2, (logIter (M, 0) k).2 * 2 + 1)) := logStep_hi hcc
                go_wp2
                go_round
                case rel => exact ⟨k + 1, by omega, by go_num, by rw [HS.out], by rw [HS.out]; exact congrArg _ (by omega)⟩
                case measure => simp [intOf]; omega
              · have HS : Hid (logIter (M, 0) (k + 1) = ((logIter (M, 0) k).1 * (logIter (M, 0) k).1 / 1073741824, (logIter (M, 0) k).2 * 2)) := logStep_lo hcc
                go_wp2
                go_round
                case rel => exact ⟨k + 1, by omega, by go_num, by rw [HS.out], by rw [HS.out]; exact congrArg _ (by omega)⟩
                case measure => simp [intOf]; omega
            · have hk8 : k = 8 := by omega
              subst hk8
              go_wp2
              go_ret
              exact ⟨ret_int (by omega), rfl⟩
        · obtain ⟨hj0, hm⟩ := HM.out.2 (by omega)
          subst hj0
          have hm2 : a / 2 ^ (N + 1 - 31) = M := hm
          clear HM hne hj hlt
          rw [Int.pow_zero, Int.mul_one, Nat.add_zero]
          go_wp2
          go_loop [4, 6, 7] (fun m f i => ∃ k : Nat, k ≤ 8 ∧ i = .int .i64 k ∧ m = .int .i64 (logIter (M, 0) k).1 ∧ f = .int .i64 (logIter (M, 0) k).2) (fun _ _ i => 8 - (intOf i).toNat)
          case atStart => exact ⟨0, by decide, rfl, rfl, rfl⟩
          case round =>
            obtain ⟨k, hk, rfl, rfl, rfl⟩ := hrel
            have hb := sq_in (logIter_in (p := (M, 0)) hin k)
            have hl := logIter_small (p := (M, 0)) (show (0 : Int) ≤ 0 by decide) (show (0 : Int) ≤ 62 by decide) k hk
            by_cases hlt : k < 8
            · by_cases hcc : 2147483648 ≤ (logIter (M, 0) k).1 * (logIter (M, 0) k).1 / 1073741824
              · have HS : Hid (logIter (M, 0) (k + 1) = ((logIter (M, 0) k).1 * (logIter (M, 0) k).1 / 1073741824 / 2, (logIter (M, 0) k).2 * 2 + 1)) := logStep_hi hcc
                go_wp2
                go_round
                case rel => exact ⟨k + 1, by omega, by go_num, by rw [HS.out], by rw [HS.out]; exact congrArg _ (by omega)⟩
                case measure => simp [intOf]; omega
              · have HS : Hid (logIter (M, 0) (k + 1) = ((logIter (M, 0) k).1 * (logIter (M, 0) k).1 / 1073741824, (logIter (M, 0) k).2 * 2)) := logStep_lo hcc
                go_wp2
                go_round
                case rel => exact ⟨k + 1, by omega, by go_num, by rw [HS.out], by rw [HS.out]; exact congrArg _ (by omega)⟩
                case measure => simp [intOf]; omega
            · have hk8 : k = 8 := by omega
              subst hk8
              go_wp2
              go_ret
              exact ⟨ret_int (by omega), rfl⟩

/-! ### Exp2 -/
def rootsList : List Int := [1518500250, 1276901417, 1170923762, 1121280436, 1097253708, 1085434106, 1079572136, 1076653033]

theorem root_cell (w : World) : ∀ k : Nat, k < 8 → (w.alloc (.cells rootsArr 2)).cell? ⟨w.heap.size, k, none⟩ = some (.int .i64 (rootAt k)) := fun k hk => by
  rw [World.cell?_alloc_new]
  have h : k = 0 ∨ k = 1 ∨ k = 2 ∨ k = 3 ∨ k = 4 ∨ k = 5 ∨ k = 6 ∨ k = 7 := by omega
  rcases h with rfl | rfl | rfl | rfl | rfl | rfl | rfl | rfl <;> rfl

/-! ### Sqrt -/
theorem sqrtI_unique {a r : Int} (h0 : 0 ≤ a) (hr : 0 ≤ r) (h1 : r * r ≤ a) (h2 : a < (r + 1) * (r + 1)) : r = sqrtI a := by
  have e1 : ((r.toNat * r.toNat : Nat) : Int) = r * r := by rw [Int.natCast_mul, Int.toNat_of_nonneg hr]
  have e2 : (((r.toNat + 1) * (r.toNat + 1) : Nat) : Int) = (r + 1) * (r + 1) := by rw [Int.natCast_mul, Int.natCast_add, Int.toNat_of_nonneg hr]; rfl
  have h := isqrt_unique (n := a.toNat) (r := r.toNat) (by omega) (by omega)
  have e3 : sqrtI a = ((isqrt a.toNat : Nat) : Int) := rfl
  rw [e3, ← h]
  omega

theorem pow_range (j : Nat) (h : j ≤ 31) : 1 ≤ (2 : Int) ^ j ∧ (2 : Int) ^ j ≤ 2147483648 := by
  have g1 : (2 : Nat) ^ j ≤ 2 ^ 31 := Nat.pow_le_pow_right (by decide) h
  have g2 := Nat.two_pow_pos j
  have g3 := pow_cast j
  have g4 : (2 : Nat) ^ 31 = 2147483648 := by decide
  omega

theorem big_square {x a : Int} (ha : a ≤ 9223372036854775807) (h : 3037000499 < x) : ¬ x * x ≤ a := by
  have : (3037000500 : Int) * 3037000500 ≤ x * x := Int.mul_le_mul (by omega) (by omega) (by decide) (by omega)
  omega

theorem small_square {x : Int} (h0 : 0 ≤ x) (h : x ≤ 3037000499) : 0 ≤ x * x ∧ x * x ≤ 9223372030926249001 := by
  have h1 : x * x ≤ 3037000499 * 3037000499 := Int.mul_le_mul h h h0 (by decide)
  have h2 := Int.mul_nonneg h0 h0
  omega

theorem serStep_low (z : Int) : serStep z 0 (-296) = -296 ∧ serStep z 0 2959 = 2959 := by
  have e : mulI z 0 30 = 0 := by
    rw [mulI, if_neg (by decide), if_neg (by decide), if_neg (by decide), show cf 0 = 0 from rfl, Int.mul_zero]
    decide
  unfold serStep
  rw [e]
  decide

end Go.Proofs.Ytklpicfeajmadaa
