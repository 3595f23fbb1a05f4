/- Powers and logarithms of package fix, reckoned with natural numbers: what the kernel runs through all of. -/
import Derived.Test.YtklpicfeajmadaaRows
namespace Go.Proofs.Ytklpicfeajmadaa

/-! ### A property of all numbers of a span, by halves -/
def span (p : Nat → Bool) : Nat → Nat → Bool
  | 0, b => p b
  | n + 1, b => span p n b && span p n (b + 2 ^ n)

theorem span_all {p : Nat → Bool} : ∀ {n b : Nat}, span p n b = true → ∀ k, b ≤ k → k < b + 2 ^ n → p k = true
  | 0, b, h, k, h1, h2 => by
    have e : k = b := by simp at h2; omega
    rw [e]; exact h
  | n + 1, b, h, k, h1, h2 => by
    simp only [span, Bool.and_eq_true] at h
    rw [Nat.pow_succ] at h2
    by_cases hk : k < b + 2 ^ n
    · exact span_all h.1 k h1 hk
    · exact span_all h.2 k (by omega) (by omega)

/-! ### Powers -/
def rootN : Nat → Nat
  | 0 => 1518500250
  | 1 => 1276901417
  | 2 => 1170923762
  | 3 => 1121280436
  | 4 => 1097253708
  | 5 => 1085434106
  | 6 => 1079572136
  | 7 => 1076653033
  | _ => 0
def expNat (q : Nat) : Nat → Nat
  | 0 => 1073741824
  | k + 1 => bif Nat.beq (q / 2 ^ (7 - k) % 2) 1 then (expNat q k * rootN k + 536870912) / 1073741824 else expNat q k
def exp2N (q : Nat) : Nat := bif Nat.beq (q / 256) 30 then expNat q 8 else (expNat q 8 + 2 ^ (29 - q / 256)) / 2 ^ (30 - q / 256)

theorem exp_steps : span (fun k => Nat.ble 7935 k || Nat.ble (exp2N k) (exp2N (k + 1))) 13 0 = true := by decide +kernel

def logN : Nat → Nat → Nat → Nat
  | 0, _, l => l
  | k + 1, m, l => bif Nat.ble 2147483648 (m * m / 1073741824) then logN k (m * m / 1073741824 / 2) (l * 2 + 1) else logN k (m * m / 1073741824) (l * 2)
def log2N (a : Nat) : Nat := logN 8 (a * 2 ^ (30 - a.log2) / 2 ^ (a.log2 - 30)) a.log2

theorem log_backs : span (fun k => Nat.ble 5853 k || (Nat.ble (log2N (exp2N (k + 2048))) (k + 2050) && Nat.ble (k + 2046) (log2N (exp2N (k + 2048))))) 13 0 = true := by decide +kernel

end Go.Proofs.Ytklpicfeajmadaa
