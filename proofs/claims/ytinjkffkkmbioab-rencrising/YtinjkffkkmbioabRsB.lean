/- The document's own reader: bits from the end. -/
import Derived.Test.YtinjkffkkmbioabRsA
import Derived.Laws.Bits64
namespace Go.Proofs.Ytinjkffkkmbioab
open Go.RowKit

theorem or_u64 (a b : Nat) (ha : a < 9223372036854775808) (hb : b < 9223372036854775808) : bits .or .u64 (a : Int) (b : Int) = ((a ||| b : Nat) : Int) := by
  have hx : a ||| b < 2 ^ 63 := Nat.or_lt_two_pow (by omega) (by omega)
  show IntKind.u64.wrap ((BitVec.ofInt 64 (a : Int) ||| BitVec.ofInt 64 (b : Int)).toNat : Int) = _
  rw [BitVec.toNat_or, ofInt_nat a (by omega), ofInt_nat b (by omega), IntKind.wrap_u64]
  omega

theorem and_u64 (a b : Nat) (ha : a < 9223372036854775808) (hb : b < 9223372036854775808) : bits .and .u64 (a : Int) (b : Int) = ((a &&& b : Nat) : Int) := by
  have hx : a &&& b < 2 ^ 63 := Nat.and_lt_two_pow _ (by omega)
  show IntKind.u64.wrap ((BitVec.ofInt 64 (a : Int) &&& BitVec.ofInt 64 (b : Int)).toNat : Int) = _
  rw [BitVec.toNat_and, ofInt_nat a (by omega), ofInt_nat b (by omega), IntKind.wrap_u64]
  omega

theorem and_bits_u (bs : List Nat) (raw m x : Nat) (hm : m ≤ 24) (hx : m ≤ x) (hx2 : x ≤ 31) : bits .and .u64 (bitsN bs raw x : Nat) ((2 : Int) ^ m - 1) = (bitsN bs raw m : Nat) := by
  have h1 := bitsN_32 bs raw x hx2
  have h3 : 2 ^ m ≤ 2 ^ 24 := Nat.pow_le_pow_right (by decide) hm
  have h4 : 2 ^ 24 = 16777216 := by decide
  have hp := Nat.two_pow_pos m
  have e : (2 : Int) ^ m - 1 = ((2 ^ m - 1 : Nat) : Int) := by rw [← pow_cast]; omega
  obtain ⟨y, rfl⟩ : ∃ y, x = m + y := ⟨x - m, by omega⟩
  rw [e, and_u64 _ _ (by omega) (by omega), and_mask, bitsN_mod]

theorem or_byte_u {bs : List Nat} (hb : Bytes bs) {raw back waiting : Nat} (h : 8 * back = raw + waiting) (hw : waiting ≤ 23) :
    bits .or .u64 (bitsN bs raw waiting : Nat) ((backAt bs back : Nat) * 2 ^ waiting) = (bitsN bs raw (waiting + 8) : Nat) ∧ 0 ≤ ((backAt bs back : Nat) : Int) * 2 ^ waiting ∧ ((backAt bs back : Nat) : Int) * 2 ^ waiting ≤ 2147483648 := by
  have h1 := bitsN_lt bs raw waiting
  have h2 := backAt_lt hb back
  have h3 : 2 ^ waiting ≤ 2 ^ 23 := Nat.pow_le_pow_right (by decide) hw
  have h4 : 2 ^ 23 = 8388608 := by decide
  have h5 : backAt bs back * 2 ^ waiting ≤ 255 * 8388608 := Nat.mul_le_mul (by omega) (by omega)
  have e : ((backAt bs back : Nat) : Int) * 2 ^ waiting = ((backAt bs back * 2 ^ waiting : Nat) : Int) := by rw [Int.natCast_mul, pow_cast]
  rw [e]
  refine ⟨?_, Int.natCast_nonneg _, by omega⟩
  rw [or_u64 _ _ (by omega) (by omega), or_shift _ _ _ h1, bitsN_add, ← h, bitsN_byte hb]

end Go.Proofs.Ytinjkffkkmbioab
