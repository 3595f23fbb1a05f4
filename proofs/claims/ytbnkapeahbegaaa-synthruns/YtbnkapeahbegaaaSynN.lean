/- A voice as plain numbers, on: how great its sums may be; the lists that stand with the oldest first. Nothing here is of any program. -/
import Derived.Test.YtbnkapeahbegaaaSynM
namespace Go.Proofs.Ytbnkapeahbegaaa
open Go.RowKit

/-! ### How great -/
def Tame (l : List Int) : Prop := ∀ i : Nat, -16777216 ≤ l[i]?.getD 0 ∧ l[i]?.getD 0 ≤ 16777216
theorem Tame.nil : Tame [] := fun i => by
  rw [List.getElem?_nil]
  exact ⟨by decide, by decide⟩
theorem Tame.cons {l : List Int} (h : Tame l) {x : Int} (h1 : -16777216 ≤ x) (h2 : x ≤ 16777216) : Tame (x :: l) := fun i => by
  cases i with
  | zero => exact ⟨h1, h2⟩
  | succ i => exact h i
theorem Nought.tame {l : List Int} (h : Nought l) : Tame l := fun i => by
  rw [h i]
  exact ⟨by decide, by decide⟩

/-- What a part may be: as much as the sums need. -/
structure PartP.Fine (p : PartP) : Prop where
  loud0 : 0 ≤ p.loud
  loud1 : p.loud ≤ 262144
  lag : p.lag = 0 ∨ 3 ≤ p.lag ∧ p.lag ≤ 318
  taps : ∀ j : Nat, -128 ≤ p.taps[j]?.getD 0 ∧ p.taps[j]?.getD 0 ≤ 128
  filts : ∀ j : Nat, -131072 ≤ p.filt[j]?.getD 0 ∧ p.filt[j]?.getD 0 ≤ 131072
  flen : p.filt.length ≤ 32
theorem PartP.Fine.lag_le {p : PartP} (h : p.Fine) : p.lag ≤ 318 := by
  rcases h.lag with h1 | h1 <;> omega

theorem mul_within {a b A B : Int} (hA : 0 ≤ A) (hB : 0 ≤ B) (h1 : -A ≤ a) (h2 : a ≤ A) (h3 : -B ≤ b) (h4 : b ≤ B) : -(A * B) ≤ a * b ∧ a * b ≤ A * B := by
  have e1 : a.natAbs ≤ A.toNat := by omega
  have e2 : b.natAbs ≤ B.toNat := by omega
  have e3 := Nat.mul_le_mul e1 e2
  rw [← Int.natAbs_mul] at e3
  have e4 : ((A.toNat * B.toNat : Nat) : Int) = A * B := by
    rw [Int.natCast_mul, Int.toNat_of_nonneg hA, Int.toNat_of_nonneg hB]
  have e5 : (((a * b).natAbs : Nat) : Int) ≤ A * B := by rw [← e4]; exact Int.ofNat_le.2 e3
  omega

theorem cf_at {a : Int} (h1 : -2147483648 ≤ a) (h2 : a ≤ 2147483648) : cf a = a := by
  unfold cf clampI
  rw [if_neg (by omega), if_neg (by omega), if_neg (by omega)]

theorem tap_in {t x : Int} (h1 : -128 ≤ t) (h2 : t ≤ 128) (h3 : -16777216 ≤ x) (h4 : x ≤ 16777216) : -16777216 ≤ mulI t x 7 ∧ mulI t x 7 ≤ 16777216 := by
  have hm := mul_within (A := 128) (B := 16777216) (by decide) (by decide) h1 h2 h3 h4
  unfold mulI
  rw [if_neg (by decide), if_neg (by decide), if_neg (by decide), cf_at (by omega) (by omega), cf_at (by omega) (by omega)]
  have e1 : (2 : Int) ^ ((7 : Int).toNat - 1) = 64 := rfl
  have e2 : (2 : Int) ^ (7 : Int).toNat = 128 := rfl
  rw [e1, e2]
  omega

theorem fil_in {t x : Int} (h1 : -131072 ≤ t) (h2 : t ≤ 131072) (h3 : -16777216 ≤ x) (h4 : x ≤ 16777216) : -536870912 ≤ mulI t x 12 ∧ mulI t x 12 ≤ 536870912 := by
  have hm := mul_within (A := 131072) (B := 16777216) (by decide) (by decide) h1 h2 h3 h4
  unfold mulI
  rw [if_neg (by decide), if_neg (by decide), if_neg (by decide), cf_at (by omega) (by omega), cf_at (by omega) (by omega)]
  have e1 : (2 : Int) ^ ((12 : Int).toNat - 1) = 2048 := rfl
  have e2 : (2 : Int) ^ (12 : Int).toNat = 4096 := rfl
  rw [e1, e2]
  omega

theorem lagsN_in {p : PartP} (hp : p.Fine) {R : List Int} (hR : Tame R) (b : Int) : ∀ k : Nat, b - k * 16777216 ≤ lagsN p R b k ∧ lagsN p R b k ≤ b + k * 16777216
  | 0 => by
    show b - (0 : Nat) * 16777216 ≤ b ∧ b ≤ b + (0 : Nat) * 16777216
    omega
  | k + 1 => by
    have h1 := lagsN_in hp hR b k
    have h2 := tap_in (hp.taps k).1 (hp.taps k).2 (hR (p.lag - 2 + k - 1)).1 (hR (p.lag - 2 + k - 1)).2
    show b - ((k + 1 : Nat) : Int) * 16777216 ≤ lagsN p R b k + mulI (p.taps[k]?.getD 0) (R[p.lag - 2 + k - 1]?.getD 0) 7 ∧ lagsN p R b k + mulI (p.taps[k]?.getD 0) (R[p.lag - 2 + k - 1]?.getD 0) 7 ≤ b + ((k + 1 : Nat) : Int) * 16777216
    omega

theorem filtN_in {p : PartP} (hp : p.Fine) {O : List Int} (hO : Tame O) (b : Int) : ∀ k : Nat, b - k * 536870912 ≤ filtN p O b k ∧ filtN p O b k ≤ b + k * 536870912
  | 0 => by
    show b - (0 : Nat) * 536870912 ≤ b ∧ b ≤ b + (0 : Nat) * 536870912
    omega
  | k + 1 => by
    have h1 := filtN_in hp hO b k
    have h2 := fil_in (hp.filts k).1 (hp.filts k).2 (hO (k + 1 - 1)).1 (hO (k + 1 - 1)).2
    show b - ((k + 1 : Nat) : Int) * 536870912 ≤ filtN p O b k + mulI (p.filt[k]?.getD 0) (O[k + 1 - 1]?.getD 0) 12 ∧ filtN p O b k + mulI (p.filt[k]?.getD 0) (O[k + 1 - 1]?.getD 0) 12 ≤ b + ((k + 1 : Nat) : Int) * 536870912
    omega

theorem loud_in {p : PartP} (hp : p.Fine) {x : Int} (h1 : -16 ≤ x) (h2 : x ≤ 16) : -4194304 ≤ x * p.loud ∧ x * p.loud ≤ 4194304 := by
  have h0 := hp.loud0
  have := mul_within (A := 16) (B := 262144) (by decide) (by decide) h1 h2 (by omega) hp.loud1
  omega

theorem runS_tame {p : PartP} : ∀ (l R O : List Int), Tame R → Tame O → Tame (runS p l R O).2.1 ∧ Tame (runS p l R O).2.2
  | [], _, _, h, g => ⟨h, g⟩
  | x :: l, R, O, h, g => runS_tame l (driveI p x R :: R) (outI p (driveI p x R) O :: O) (h.cons (keep24_in _).1 (keep24_in _).2) (g.cons (keep24_in _).1 (keep24_in _).2)

/-! ### A part that is cut in two, as far back as a run looks -/
theorem runS_two {p : PartP} (hp : p.lag ≤ 318) (hf : p.filt.length ≤ 32) {l m R O R1 O1 : List Int} (hR : Alike 320 R1 (runS p l R O).2.1) (hO : Alike 32 O1 (runS p l R O).2.2) :
    (runS p (l ++ m) R O).1 = (runS p l R O).1 ++ (runS p m R1 O1).1 ∧ Alike 320 (runS p (l ++ m) R O).2.1 (runS p m R1 O1).2.1 ∧ Alike 32 (runS p (l ++ m) R O).2.2 (runS p m R1 O1).2.2 := by
  rw [runS_append]
  obtain ⟨h1, h2, h3⟩ := runS_alike hp hf m _ _ _ _ hR.symm hO.symm
  exact ⟨by rw [h1], h2, h3⟩

/-! ### The oldest first -/
/-- The number so many from a list's end. -/
def aheadI (l : List Int) (n : Int) : Int := if n < 1 then 0 else if (l.length : Int) < n then 0 else l[l.length - n.toNat]?.getD 0
theorem aheadI_past (l : List Int) {n : Nat} (hn : 1 ≤ n) : aheadI l n = pastI l.reverse n := by
  unfold aheadI pastI
  rw [if_neg (by omega)]
  by_cases h : l.length < n
  · rw [if_pos (by omega), List.getElem?_eq_none (by simp; omega)]
    rfl
  · have e : l.length - (n : Int).toNat = l.length - 1 - (n - 1) := by
      rw [Int.toNat_natCast]
      omega
    rw [if_neg (by omega), List.getElem?_reverse (by omega), e]

def lastI (l : List Int) (n : Nat) : List Int := if n < l.length then l.drop (l.length - n) else l
theorem lastI_reverse (l : List Int) (n : Nat) : (lastI l n).reverse = l.reverse.take n := by
  unfold lastI
  by_cases h : n < l.length
  · rw [if_pos h, List.reverse_drop]
    congr 1
    omega
  · rw [if_neg h, List.take_of_length_le (by simp; omega)]
theorem lastI_len (l : List Int) (n : Nat) : (lastI l n).length ≤ n := by
  unfold lastI
  split
  · rw [List.length_drop]
    omega
  · omega
theorem lastI_alike (l : List Int) (n : Nat) : Alike n (lastI l n).reverse l.reverse := by
  rw [lastI_reverse]
  exact Alike.take n _
theorem Tame.alike {n : Nat} {l m : List Int} (h : Alike n l m) (hl : l.length ≤ n) (hm : Tame m) : Tame l := fun i => by
  by_cases hi : i < n
  · rw [h i hi]
    exact hm i
  · rw [List.getElem?_eq_none (by omega)]
    exact ⟨by decide, by decide⟩

end Go.Proofs.Ytbnkapeahbegaaa
