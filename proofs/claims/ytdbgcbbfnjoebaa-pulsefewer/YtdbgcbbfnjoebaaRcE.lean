/- The program's reader: numbers that are mostly small. -/
import Derived.Test.YtdbgcbbfnjoebaaRcD
namespace Go.Proofs.Ytdbgcbbfnjoebaa
open Go.RowKit

theorem mul_dec (a decay : Nat) (h : decay ≤ 16384) : a * decay / 32768 * 2 ≤ a := by
  have h1 : a * decay ≤ a * 16384 := Nat.mul_le_mul_left _ h
  generalize a * decay = z at *
  omega

theorem cast_next (s decay : Nat) (h : 1 < s) : ((s : Int) * 2 - 2) * decay / 32768 + 1 = (((2 * s - 2) * decay / 32768 + 1 : Nat) : Int) := by
  have e : ((s : Int) * 2 - 2) = ((2 * s - 2 : Nat) : Int) := by omega
  rw [e, ← Int.natCast_mul]
  generalize (2 * s - 2) * decay = z
  omega

/-- How it goes in: what lapF keeps. -/
abbrev LapIn (f l s v : Nat) : Prop := l ≤ f ∧ 1 ≤ s ∧ s ≤ 20000 ∧ v ≤ l

end Go.Proofs.Ytdbgcbbfnjoebaa
