/- The law of bits from the end answers true. -/
import Derived.Test.YtfdfknfbnbeloaaRcJ
import Derived.Laws.Bits64
namespace Go.Proofs.Ytfdfknfbnbeloaa
open Go.RowKit

theorem and15 (n : Int) : bits .and .i64 n 15 = n % 16 := and_mask_i64 n 4 (by decide)

theorem and1_u8 (x : Nat) (h : x < 256) : bits .and .u8 (x : Int) 1 = ((x % 2 : Nat) : Int) := by
  have h1 : ∀ y : Fin 256, bits .and .u8 (y.val : Int) 1 = ((y.val % 2 : Nat) : Int) := by decide +kernel
  exact h1 ⟨x, h⟩

theorem or_bit (bs : List Nat) (R j : Nat) (hj : j ≤ 20) : bits .or .i64 (bitsN bs R j : Nat) ((bitAt bs (R + j) : Nat) * 2 ^ j) = (bitsN bs R (j + 1) : Nat) ∧ 0 ≤ ((bitAt bs (R + j) : Nat) : Int) * 2 ^ j ∧ ((bitAt bs (R + j) : Nat) : Int) * 2 ^ j ≤ 1048576 := by
  have h1 := bitsN_lt bs R j
  have h2 := bitAt_le bs (R + j)
  have h3 : 2 ^ j ≤ 2 ^ 20 := Nat.pow_le_pow_right (by decide) hj
  have h4 : 2 ^ 20 = 1048576 := by decide
  have h5 : bitAt bs (R + j) * 2 ^ j ≤ 1 * 1048576 := Nat.mul_le_mul h2 (by omega)
  have e : ((bitAt bs (R + j) : Nat) : Int) * 2 ^ j = ((bitAt bs (R + j) * 2 ^ j : Nat) : Int) := by rw [Int.natCast_mul, pow_cast]
  rw [e]
  refine ⟨?_, Int.natCast_nonneg _, by omega⟩
  rw [or_i64 _ _ (by omega) (by omega), or_shift _ _ _ h1]
  rfl

theorem want_next {bs : List Nat} (hb : Bytes bs) (R c : Nat) (hc : c ≤ 20) :
    bits .or .i64 (bitsN bs R c : Nat) (wrap64 (wrap64 (bits .and .u8 ((backAt bs ((R + c) / 8) : Nat) / 2 ^ ((R + c) % 8)) 1) * 2 ^ c)) = (bitsN bs R (c + 1) : Nat) := by
  obtain ⟨h1, h2, h3⟩ := or_bit bs R c hc
  have hl := bitAt_le bs (R + c)
  have hx := backAt_lt hb ((R + c) / 8)
  have hd : backAt bs ((R + c) / 8) / 2 ^ ((R + c) % 8) ≤ backAt bs ((R + c) / 8) := Nat.div_le_self _ _
  have e : ((backAt bs ((R + c) / 8) : Nat) : Int) / 2 ^ ((R + c) % 8) = ((backAt bs ((R + c) / 8) / 2 ^ ((R + c) % 8) : Nat) : Int) := by rw [Int.natCast_ediv, pow_cast]
  rw [e, and1_u8 _ (by omega)]
  show bits .or .i64 _ (wrap64 (wrap64 ((bitAt bs (R + c) : Nat) : Int) * 2 ^ c)) = _
  rw [IntWalk.wrap64_in ((bitAt bs (R + c) : Nat) : Int) ⟨by omega, by omega⟩, IntWalk.wrap64_in _ ⟨by omega, by omega⟩, h1]

/-- The state of a reader that has read R bits from the end alone, and was S at first. -/
def rawAt (S : St) (R : Nat) : St := { S with raw := R, cnt := 33 + R }

theorem rawAt_zero {S : St} (h3 : S.cnt = 33) (h4 : S.raw = 0) : rawAt S 0 = S := by
  obtain ⟨a, b, c, d, e, f, g⟩ := S
  subst h3 h4
  rfl

theorem rawAt_inv {S : St} (h : Inv S) (hf : S.front = 4) (R : Nat) : Inv (rawAt S R) :=
  ⟨h.low, h.high, h.val, h.last, by show 33 + R = 8 * S.front + 1 + R; omega⟩

theorem rawAt_tell {S : St} (h1 : S.rng = 2147483648) (R : Nat) : tellZ (rawAt S R) = 1 + R := by
  show ((33 + R : Nat) : Int) - (lenN S.rng : Int) = _
  rw [h1]
  have e : lenN 2147483648 = 32 := by decide
  rw [e]
  omega

theorem rawAt_bits (bs : List Nat) (S : St) (R n : Nat) (h : n ≤ 24) : bitsS bs n (rawAt S R) = (bitsN bs R n, rawAt S (R + n)) := by
  rw [bitsS, if_pos (by omega), Int.toNat_natCast]
  show (bitsN bs R n, ({ S with raw := R + n, cnt := 33 + R + n } : St)) = (bitsN bs R n, { S with raw := R + n, cnt := 33 + (R + n) })
  rw [Nat.add_assoc]

set_option maxRecDepth 100000 in
set_option maxHeartbeats 4000000 in
theorem rcRaw.run (g0 : Nat) (a0 : Option Addr) (n0 cap0 : Nat) (bs : List Nat) (a2 : Option Addr) (len cap : Nat) (zs : List Int) (w : World)
    (h0 : ArgIn w g0 a0 n0 cap0 bs) (k0 : n0 ≤ 200) (k2 : len ≤ 100) (h2 : RowAt w a2 len zs) :
    Calls Try.prog 8 #[.slice a0 n0 cap0, .slice a2 len cap] w fun e w' => e = .returned (.bool true) ∧ Below w.heap.size w w' := by
  have hb := Below.refl w.heap.size w
  have A0 : Hid (∀ W, Below w.heap.size w W → ArgIn W g0 a0 n0 cap0 bs) := fun W hW => h0.keep hW
  have A2 : Hid (∀ W, Below w.heap.size w W → RowAt W a2 len zs) := fun W hW => h2.keep hW (Nat.le_refl _)
  have B0 : Hid (Bytes bs) := h0.bytes.2.1
  have L0 : Hid (bs.length = n0) := h0.bytes.1
  obtain ⟨S1, S2, S3, S4, S5⟩ := initS_is bs
  have SI := initS_inv h0.bytes.2.1
  have HS : Hid (∃ S, initS bs = S) := ⟨_, rfl⟩
  obtain ⟨S, hS⟩ := HS.out
  rw [hS] at S1 S2 S3 S4 SI
  have HSS : Hid (∀ p q W, Rd p q bs (initS bs) W → Rd p q bs (rawAt S 0) W) := fun p q W h => by rw [rawAt_zero S3 S4, ← hS]; exact h
  have HI : Hid (∀ R, Inv (rawAt S R)) := rawAt_inv SI S2
  have HT : Hid (∀ R, tellZ (rawAt S R) = 1 + R) := rawAt_tell S1
  clear hS HS S1 S2 S3 S4 S5 SI h0 h2
  go_enter Try.func8, Try.ntmps8
  go_wp2_with (first
    | (go_at_call 9; go_loud (refine (awake_any _).mono ?_; rintro e w1 ⟨rfl, hb1⟩; replace hb := hb.trans (hb1.mono hb.size); clear hb1))
    | (go_at_call 10; go_loud (refine (new_any g0 a0 n0 cap0 bs _ (A0.out _ hb)).mono ?_; rintro e w2 ⟨p, q, rfl, hd, hq, hp, hb1⟩; replace hd := HSS.out _ _ _ hd; replace hp := Nat.le_trans hb.size (Nat.le_trans hq hp); replace hb := hb.trans (hb1.mono hb.size); clear hb1)))
  go_loopw [6, 7] (fun at_ i W => Below w.heap.size w W ∧ ∃ k R : Nat, k ≤ len ∧ i = .int .i64 k ∧ at_ = .int .i64 R ∧ R ≤ 15 * k ∧ Rd p q bs (rawAt S R) W) (fun _ i _ => len - (intOf i).toNat)
  case atStart => exact ⟨hb, 0, 0, Nat.zero_le _, rfl, rfl, Nat.le_refl _, hd⟩
  case round =>
    clear hb hd
    obtain ⟨hb, k, R, hk, rfl, rfl, hR, hd⟩ := hrel
    by_cases hlt : k < len
    · obtain ⟨b, off, rfl, _, hcc⟩ := (A2.out wr hb).2 (by omega)
      have hz := hcc k hlt
      clear hcc
      generalize zs[k]?.getD 0 = z at *
      have hz15 := and15 z
      have hm0 : 0 ≤ z % 16 ∧ z % 16 < 16 := ⟨Int.emod_nonneg _ (by decide), Int.emod_lt_of_pos _ (by decide)⟩
      obtain ⟨m, hm⟩ := Int.eq_ofNat_of_zero_le hm0.1
      rw [hm] at hz15 hm0
      have hm1 : m ≤ 15 := by omega
      clear hm hm0
      go_wp2
      go_loop [9, 10] (fun want j => ∃ c : Nat, c ≤ m ∧ j = .int .i64 c ∧ want = .int .i64 (bitsN bs R c)) (fun _ j => m - (intOf j).toNat)
      case atStart => exact ⟨0, Nat.zero_le _, rfl, rfl⟩
      case round =>
        obtain ⟨c, hc, rfl, rfl⟩ := hrel
        by_cases hlt2 : c < m
        · have hO := or_bit bs R c (by omega)
          have hl2 := bitAt_le bs (R + c)
          have hbv := bitsN_32 bs R c (by omega)
          have HD : Hid (bitAt bs (R + c) = backAt bs ((R + c) / 8) / 2 ^ ((R + c) % 8) % 2) := rfl
          have HN : Hid (bitsN bs R (c + 1) = bitsN bs R c + bitAt bs (R + c) * 2 ^ c) := rfl
          by_cases hpn : (R + c) / 8 < n0
          · obtain ⟨o, rfl, hcb⟩ := (A0.out wr hb).bytes.2.2 (by omega)
            have hx := hcb (n0 - 1 - (R + c) / 8) (by omega)
            have hx2 := B0.out (n0 - 1 - (R + c) / 8)
            have e : backAt bs ((R + c) / 8) = byteAt bs (n0 - 1 - (R + c) / 8) := by rw [backAt, L0.out, if_pos hpn]
            rw [← e] at hx hx2
            clear hcb e
            have HW : Hid (bits .or .i64 (bitsN bs R c : Nat) (wrap64 (wrap64 (bits .and .u8 ((backAt bs ((R + c) / 8) : Nat) / 2 ^ ((R + c) % 8)) 1) * 2 ^ c)) = (bitsN bs R (c + 1) : Nat)) := want_next B0.out R c (by omega)
            clear hO HD HN
            go_wp2
            go_round
            case rel => exact ⟨c + 1, by omega, by go_num, by rw [HW.out]⟩
            case measure => simp [intOf]; omega
          · have HW : Hid (bitsN bs R c = bitsN bs R (c + 1)) := by
              show _ = bitsN bs R c + bitAt bs (R + c) * 2 ^ c
              have e : backAt bs ((R + c) / 8) = 0 := by rw [backAt, L0.out, if_neg hpn]
              rw [bitAt, e, Nat.zero_div, Nat.zero_mod, Nat.zero_mul, Nat.add_zero]
            clear hO HD HN
            go_wp2
            go_round
            case rel => exact ⟨c + 1, by omega, by go_num, by rw [← HW.out]⟩
            case measure => simp [intOf]; omega
        · obtain rfl : c = m := by omega
          have HT2 : Hid (tellZ (rawAt S (R + c)) = 1 + ((R : Int) + (c : Int))) := by show _ = _; rw [HT.out]; omega
          have hcnt : (rawAt S R).cnt ≤ 1000000000000000 := by show 33 + R ≤ _; omega
          have hcnt2 : (rawAt S (R + c)).cnt ≤ 2000000000000000 := by show 33 + (R + c) ≤ _; omega
          go_wp2_with (first
            | (go_at_call 14; go_loud (refine (bits_any p q bs (rawAt S R) c _ hd (HI.out R) hcnt).mono ?_; rw [rawAt_bits bs S R c (by omega)]; rintro e w3 ⟨rfl, hd', hb3⟩; replace hd := hd'; replace hb := hb.trans (hb3.below hp); clear hd' hb3))
            | (go_at_call 11; go_loud (refine (tell_any p q bs (rawAt S (R + c)) _ hd (HI.out _) hcnt2).mono ?_; rw [HT2.out]; rintro e w4 ⟨rfl, kk, rfl⟩; replace hd := hd.drewN kk; replace hb := Below.drewN hb kk)))
          go_roundw
          case rel => exact ⟨hb, k + 1, R + c, by omega, by go_num, by go_num, by omega, hd⟩
          case measure => simp [intOf]; omega
    · go_wp2
      go_ret
      exact ⟨rfl, hb⟩

theorem rcRaw.walk (a0 : Option Addr) (n0 cap0 : Nat) (z0 : List Int) (a2 : Option Addr) (len cap : Nat) (z2 : List Int) (w : World)
    (h0 : IsRow .u8 w a0 n0 cap0 z0) (h2 : IsRow .i64 w a2 len cap z2) :
    Calls Try.prog 8 #[.slice a0 n0 cap0, .slice a2 len cap] w fun e w' => e = .returned (.bool true) ∧ Below w.heap.size w w' := by
  by_cases k0 : n0 ≤ 200
  · by_cases k2 : len ≤ 100
    · obtain ⟨g0, A0, _⟩ := arg_of_row h0 (by omega)
      exact rcRaw.run g0 a0 n0 cap0 _ a2 len cap _ w A0 k0 k2 (row_at h2).1
    · have hb := Below.refl w.heap.size w
      have hl := row_len h2
      go_enter Try.func8, Try.ntmps8
      go_wp2_with (go_at_call 9; refine (awake_any _).mono ?_; rintro e w1 ⟨rfl, hb1⟩; replace hb := hb.trans (hb1.mono hb.size); clear hb1)
      go_ret
      exact ⟨rfl, hb⟩
  · have hb := Below.refl w.heap.size w
    have hl := row_len h0
    go_enter Try.func8, Try.ntmps8
    go_wp2_with (go_at_call 9; refine (awake_any _).mono ?_; rintro e w1 ⟨rfl, hb1⟩; replace hb := hb.trans (hb1.mono hb.size); clear hb1)
    go_ret
    exact ⟨rfl, hb⟩

end Go.Proofs.Ytfdfknfbnbeloaa
