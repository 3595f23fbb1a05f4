/- What the document's own answers of chapter 1 (the reference) come to: logarithms, powers, roots, cosines. -/
import Derived.Test.YtefecpidccpimaaFixR
namespace Go.Proofs.Ytefecpidccpimaa
open Go.RowKit

/-! ### Log2 -/
theorem logIter_shift (m l : Int) (k : Nat) : logIter (m, l) k = ((logIter (m, 0) k).1, l * 2 ^ k + (logIter (m, 0) k).2) := by
  induction k with
  | zero => simp [logIter]
  | succ k ih =>
    show logStep (logIter (m, l) k) = ((logStep (logIter (m, 0) k)).1, l * 2 ^ (k + 1) + (logStep (logIter (m, 0) k)).2)
    rw [ih]
    generalize logIter (m, 0) k = q
    unfold logStep
    rw [Int.pow_succ, ← Int.mul_assoc]
    simp only
    split
    · simp only [Prod.mk.injEq, true_and]; omega
    · simp only [Prod.mk.injEq, true_and]; omega

/-! ### Exp2 -/
def rootsList : List Int := [1518500250, 1276901417, 1170923762, 1121280436, 1097253708, 1085434106, 1079572136, 1076653033]

theorem root_cell (w : World) : ∀ k : Nat, k < 8 → (w.alloc (.cells rootsArr 2)).cell? ⟨w.heap.size, k, none⟩ = some (.int .i64 (rootAt k)) := fun k hk => by
  rw [World.cell?_alloc_new]
  have h : k = 0 ∨ k = 1 ∨ k = 2 ∨ k = 3 ∨ k = 4 ∨ k = 5 ∨ k = 6 ∨ k = 7 := by omega
  rcases h with rfl | rfl | rfl | rfl | rfl | rfl | rfl | rfl <;> rfl

/-! ### Sqrt -/
theorem sqrtI_unique {a r : Int} (h0 : 0 ≤ a) (hr : 0 ≤ r) (h1 : r * r ≤ a) (h2 : a < (r + 1) * (r + 1)) : r = sqrtI a := by
  have e1 : ((r.toNat * r.toNat : Nat) : Int) = r * r := by rw [Int.natCast_mul, Int.toNat_of_nonneg hr]
  have e2 : (((r.toNat + 1) * (r.toNat + 1) : Nat) : Int) = (r + 1) * (r + 1) := by rw [Int.natCast_mul, Int.natCast_add, Int.toNat_of_nonneg hr]; rfl
  have h := isqrt_unique (n := a.toNat) (r := r.toNat) (by omega) (by omega)
  have e3 : sqrtI a = ((isqrt a.toNat : Nat) : Int) := rfl
  rw [e3, ← h]
  omega

theorem pow_range (j : Nat) (h : j ≤ 31) : 1 ≤ (2 : Int) ^ j ∧ (2 : Int) ^ j ≤ 2147483648 := by
  have g1 : (2 : Nat) ^ j ≤ 2 ^ 31 := Nat.pow_le_pow_right (by decide) h
  have g2 := Nat.two_pow_pos j
  have g3 := pow_cast j
  have g4 : (2 : Nat) ^ 31 = 2147483648 := by decide
  omega

theorem big_square {x a : Int} (ha : a ≤ 9223372036854775807) (h : 3037000499 < x) : ¬ x * x ≤ a := by
  have : (3037000500 : Int) * 3037000500 ≤ x * x := Int.mul_le_mul (by omega) (by omega) (by decide) (by omega)
  omega

theorem small_square {x : Int} (h0 : 0 ≤ x) (h : x ≤ 3037000499) : 0 ≤ x * x ∧ x * x ≤ 9223372030926249001 := by
  have h1 : x * x ≤ 3037000499 * 3037000499 := Int.mul_le_mul h h h0 (by decide)
  have h2 := Int.mul_nonneg h0 h0
  omega

set_option maxHeartbeats 400000 in
theorem rsqrt_any (a : Int) (w : World) (ha : a ≤ 9223372036854775807) :
    Calls Try.prog 36 #[.int .i64 a] w fun e w' => e = .returned (.int .i64 (sqrtI a)) ∧ w' = w := by
  by_cases h0 : a < 0
  · have e : sqrtI a = 0 := by
      have : a.toNat = 0 := by omega
      rw [sqrtI, this]; rfl
    rw [e]; clear e
    go_enter Try.func36, Try.ntmps36
    go_wp2
    go_loop [3, 4, 5] (fun r i _ => r = .int .i64 0 ∧ ∃ j : Nat, j ≤ 32 ∧ i = .int .i64 ((j : Int) - 1)) (fun _ i _ => (intOf i + 1).toNat)
    case atStart => exact ⟨rfl, 32, by decide, rfl⟩
    case round =>
      obtain ⟨rfl, j, hj, rfl⟩ := hrel
      by_cases hlt : 1 ≤ j
      · obtain ⟨j', rfl⟩ : ∃ j', j = j' + 1 := ⟨j - 1, by omega⟩
        have hp := pow_range j' (by omega)
        have hs := small_square (x := 2 ^ j') (by omega) (by omega)
        have hje : ((j' + 1 : Nat) : Int) - 1 = (j' : Int) := by omega
        rw [hje]; clear hje
        go_wp2
        all_goals
          go_round
          case rel => exact ⟨rfl, j', by omega, by go_num⟩
          case measure => simp [intOf] <;> omega
      · have hj0 : j = 0 := by omega
        subst hj0
        go_wp2
        go_ret
        exact ⟨rfl, rfl⟩
  · go_enter Try.func36, Try.ntmps36
    go_wp2
    go_loop [3, 4, 5] (fun r i _ => ∃ (R : Int) (j : Nat), j ≤ 32 ∧ i = .int .i64 ((j : Int) - 1) ∧ r = .int .i64 R ∧ 0 ≤ R ∧ R ≤ 3037000499 ∧ R * R ≤ a ∧ a < (R + 2 ^ j) * (R + 2 ^ j)) (fun _ i _ => (intOf i + 1).toNat)
    case atStart =>
      refine ⟨0, 32, by decide, rfl, rfl, by decide, by decide, by omega, ?_⟩
      have : ((0 : Int) + 2 ^ 32) * (0 + 2 ^ 32) = 18446744073709551616 := by decide
      omega
    case round =>
      obtain ⟨R, j, hj, rfl, rfl, hR, hR2, hq1, hq2⟩ := hrel
      have Q1 : Hid (R * R ≤ a) := hq1
      by_cases hlt : 1 ≤ j
      · obtain ⟨j', rfl⟩ : ∃ j', j = j' + 1 := ⟨j - 1, by omega⟩
        have hp := pow_range j' (by omega)
        have Q2 : Hid (a < (R + 2 ^ j' + 2 ^ j') * (R + 2 ^ j' + 2 ^ j')) := by
          show a < (R + 2 ^ j' + 2 ^ j') * (R + 2 ^ j' + 2 ^ j')
          have e : R + 2 ^ (j' + 1) = R + 2 ^ j' + 2 ^ j' := by rw [Int.pow_succ]; omega
          rw [e] at hq2; exact hq2
        clear hq1 hq2
        have hje : ((j' + 1 : Nat) : Int) - 1 = (j' : Int) := by omega
        rw [hje]; clear hje
        by_cases hx : R + 2 ^ j' ≤ 3037000499
        · have hs := small_square (x := R + 2 ^ j') (by omega) hx
          by_cases hy : (R + 2 ^ j') * (R + 2 ^ j') ≤ a
          · have HY : Hid ((R + 2 ^ j') * (R + 2 ^ j') ≤ a) := hy
            go_wp2
            go_round
            case rel => exact ⟨R + 2 ^ j', j', by omega, by go_num, rfl, by omega, hx, HY.out, Q2.out⟩
            case measure => simp [intOf] <;> omega
          · have HY : Hid (a < (R + 2 ^ j') * (R + 2 ^ j')) := Int.not_le.1 hy
            go_wp2
            go_round
            case rel => exact ⟨R, j', by omega, by go_num, rfl, hR, hR2, Q1.out, HY.out⟩
            case measure => simp [intOf] <;> omega
        · have HY : Hid (a < (R + 2 ^ j') * (R + 2 ^ j')) := Int.not_le.1 (big_square ha (by omega))
          go_wp2
          go_round
          case rel => exact ⟨R, j', by omega, by go_num, rfl, hR, hR2, Q1.out, HY.out⟩
          case measure => simp [intOf] <;> omega
      · have hj0 : j = 0 := by omega
        subst hj0
        have hu : Hid (R = sqrtI a) := sqrtI_unique (by omega) hR Q1.out (by simpa using hq2)
        clear hq1 hq2 Q1
        go_wp2
        go_ret
        exact ⟨ret_int hu.out, rfl⟩

/-! ### Cosines -/
theorem rseries_any (z s : Int) (zs : List Int) (b off : Nat) (w : World) (hl : zs.length ≤ 9223372036854775807)
    (hc : ∀ i, i < zs.length → w.cell? ⟨b, off + i, none⟩ = some (.int .i64 (zs[i]?.getD 0))) (hz : ∀ i : Nat, -4294967296 ≤ zs[i]?.getD 0 ∧ zs[i]?.getD 0 ≤ 4294967296) (cap : Nat) :
    Calls Try.prog 47 #[.int .i64 z, .int .i64 s, .slice (some ⟨b, off, none⟩) zs.length cap] w fun e w' => e = .returned (.int .i64 (zs.foldl (serStep z) s)) ∧ ∃ n, w' = w.drewN n := by
  have HC : Hid (∀ W : World, W.heap = w.heap → ∀ i, i < zs.length → W.cell? ⟨b, off + i, none⟩ = some (.int .i64 (zs[i]?.getD 0))) := fun W hW i hi => by
    have h := hc i hi
    unfold World.cell? at h ⊢
    rw [hW]; exact h
  clear hc
  go_enter Try.func47, Try.ntmps47
  go_wp2
  go_loopw [1, 7] (fun s' i W => (∃ n, W = w.drewN n) ∧ ∃ k : Nat, k ≤ zs.length ∧ i = .int .i64 k ∧ s' = .int .i64 ((zs.take k).foldl (serStep z) s)) (fun _ i _ => zs.length - (intOf i).toNat)
  case atStart => exact ⟨⟨0, rfl⟩, 0, Nat.zero_le _, rfl, rfl⟩
  case round =>
    obtain ⟨⟨nd, rfl⟩, k, hk, rfl, rfl⟩ := hrel
    by_cases hlt : k < zs.length
    · have hck := HC.out w rfl k hlt
      have hzk := hz k
      have hmi := mul30_in z ((zs.take k).foldl (serStep z) s)
      have HS : Hid ((zs.take (k + 1)).foldl (serStep z) s = serStep z ((zs.take k).foldl (serStep z) s) (zs[k]?.getD 0)) := by
        show (zs.take (k + 1)).foldl (serStep z) s = _
        rw [take_step zs k hlt, List.foldl_append]; rfl
      clear hz
      generalize zs[k]?.getD 0 = v at hck hzk HS
      generalize (zs.take k).foldl (serStep z) s = S at *
      go_wp2
      go_quiet (first | (go_at_call 21; go_loud (exact (rmul_any _ _ _ _).mono (fun _ _ ⟨he, hw⟩ => ⟨he, _, hw⟩))))
      all_goals
        go_wp2
        go_roundw
        case rel => exact ⟨⟨_, rfl⟩, k + 1, by omega, by go_num, by rw [HS.out]; rfl⟩
        case measure => simp [intOf]; omega
    · go_wp2
      go_ret
      exact ⟨ret_int (by rw [List.take_of_length_le (by omega)]), nd, rfl⟩

theorem serStep_low (z : Int) : serStep z 0 (-296) = -296 ∧ serStep z 0 2959 = 2959 := by
  have e : mulI z 0 30 = 0 := by
    rw [mulI, if_neg (by decide), if_neg (by decide), if_neg (by decide), show cf 0 = 0 from rfl, Int.mul_zero]
    decide
  unfold serStep
  rw [e]
  decide

theorem rser_low (z : Int) (w : World) :
    Calls Try.prog 47 #[.int .i64 z, .int .i64 (-296), .slice (some ⟨w.heap.size, 0, none⟩) 5 5] (w.alloc (.cells #[.int .i64 26631, .int .i64 (-1491308), .int .i64 44739243, .int .i64 (-536870912), .int .i64 1073741824] 2)) fun e w' => e = .returned (.int .i64 (serI z serLow)) ∧ ∃ n, w' = (w.alloc (.cells #[.int .i64 26631, .int .i64 (-1491308), .int .i64 44739243, .int .i64 (-536870912), .int .i64 1073741824] 2)).drewN n := by
  have e : serI z serLow = [26631, -1491308, 44739243, -536870912, 1073741824].foldl (serStep z) (-296) := by
    show List.foldl (serStep z) (serStep z 0 (-296)) [26631, -1491308, 44739243, -536870912, 1073741824] = _
    rw [(serStep_low z).1]
  rw [e]
  exact rseries_any z (-296) [26631, -1491308, 44739243, -536870912, 1073741824] w.heap.size 0 _ (by decide) (fun i hi => by
    rw [World.cell?_alloc_new]
    have h : i = 0 ∨ i = 1 ∨ i = 2 ∨ i = 3 ∨ i = 4 := by simp at hi; omega
    rcases h with rfl | rfl | rfl | rfl | rfl <;> rfl)
    (at_list (fun x => -4294967296 ≤ x ∧ x ≤ 4294967296) (by decide) _ (by decide)) 5

theorem rser_high (z : Int) (w : World) :
    Calls Try.prog 47 #[.int .i64 z, .int .i64 2959, .slice (some ⟨w.heap.size, 0, none⟩) 4 4] (w.alloc (.cells #[.int .i64 (-213044), .int .i64 8947849, .int .i64 (-178956971), .int .i64 1073741824] 2)) fun e w' => e = .returned (.int .i64 (serI z serHigh)) ∧ ∃ n, w' = (w.alloc (.cells #[.int .i64 (-213044), .int .i64 8947849, .int .i64 (-178956971), .int .i64 1073741824] 2)).drewN n := by
  have e : serI z serHigh = [-213044, 8947849, -178956971, 1073741824].foldl (serStep z) 2959 := by
    show List.foldl (serStep z) (serStep z 0 2959) [-213044, 8947849, -178956971, 1073741824] = _
    rw [(serStep_low z).2]
  rw [e]
  exact rseries_any z 2959 [-213044, 8947849, -178956971, 1073741824] w.heap.size 0 _ (by decide) (fun i hi => by
    rw [World.cell?_alloc_new]
    have h : i = 0 ∨ i = 1 ∨ i = 2 ∨ i = 3 := by simp at hi; omega
    rcases h with rfl | rfl | rfl | rfl <;> rfl)
    (at_list (fun x => -4294967296 ≤ x ∧ x ≤ 4294967296) (by decide) _ (by decide)) 4

theorem rquarter_any (a : Int) (w : World) (h0 : 0 ≤ a) (h1 : a ≤ 16384) :
    Calls Try.prog 41 #[.int .i64 a] w fun e w' => e = .returned (.int .i64 (quarterI a)) ∧ Below w.heap.size w w' := by
  by_cases hc : a ≤ 8192
  · have e : quarterI a = mulI (serI (mulI (mulI a 1686629713 14) (mulI a 1686629713 14) 30) serLow) 1 15 := by rw [quarterI, if_pos hc]
    rw [e]; clear e
    go_enter Try.func41, Try.ntmps41
    go_wp2_with (first
      | (go_at_call 47; refine (rser_low _ _).mono ?_; rintro e w' ⟨rfl, nd, rfl⟩)
      | (go_at_call 21; refine (rmul_any _ _ _ _).mono ?_; rintro e w' ⟨rfl, rfl⟩))
    go_ret
    exact ⟨rfl, below_drewN ((Below.refl _ _).alloc (Nat.le_refl _) _) _⟩
  · have e : quarterI a = mulI (mulI (mulI (16384 - a) 1686629713 14) (serI (mulI (mulI (16384 - a) 1686629713 14) (mulI (16384 - a) 1686629713 14) 30) serHigh) 30) 1 15 := by rw [quarterI, if_neg hc]
    rw [e]; clear e
    go_enter Try.func41, Try.ntmps41
    go_wp2_with (first
      | (go_at_call 47; refine (rser_high _ _).mono ?_; rintro e w' ⟨rfl, nd, rfl⟩)
      | (go_at_call 21; refine (rmul_any _ _ _ _).mono ?_; rintro e w' ⟨rfl, rfl⟩))
    go_ret
    exact ⟨rfl, below_drewN ((Below.refl _ _).alloc (Nat.le_refl _) _) _⟩

theorem rcos_any (a : Int) (w : World) :
    Calls Try.prog 32 #[.int .i64 a] w fun e w' => e = .returned (.int .i64 (cosI a)) ∧ Below w.heap.size w w' := by
  have hm : 0 ≤ a % 65536 ∧ a % 65536 < 65536 := by omega
  have hand := and65535 a
  unfold cosI halfI
  generalize hq : a % 65536 = q at *
  clear hq
  by_cases h1 : 32768 < q
  · rw [if_pos h1]
    by_cases h2 : 16384 < 65536 - q
    · rw [if_pos h2]
      have hb := quarterI_in (32768 - (65536 - q))
      go_enter Try.func32, Try.ntmps32
      go_wp2_with (go_at_call 41; refine (rquarter_any _ _ (by omega) (by omega)).mono ?_; rintro e w1 ⟨rfl, hw1⟩)
      go_ret
      exact ⟨rfl, hw1⟩
    · rw [if_neg h2]
      go_enter Try.func32, Try.ntmps32
      go_wp2_with (go_at_call 41; refine (rquarter_any _ _ (by omega) (by omega)).mono ?_; rintro e w1 ⟨rfl, hw1⟩)
      go_ret
      exact ⟨rfl, hw1⟩
  · rw [if_neg h1]
    by_cases h2 : 16384 < q
    · rw [if_pos h2]
      have hb := quarterI_in (32768 - q)
      go_enter Try.func32, Try.ntmps32
      go_wp2_with (go_at_call 41; refine (rquarter_any _ _ (by omega) (by omega)).mono ?_; rintro e w1 ⟨rfl, hw1⟩)
      go_ret
      exact ⟨rfl, hw1⟩
    · rw [if_neg h2]
      go_enter Try.func32, Try.ntmps32
      go_wp2_with (go_at_call 41; refine (rquarter_any _ _ (by omega) (by omega)).mono ?_; rintro e w1 ⟨rfl, hw1⟩)
      go_ret
      exact ⟨rfl, hw1⟩

end Go.Proofs.Ytefecpidccpimaa
