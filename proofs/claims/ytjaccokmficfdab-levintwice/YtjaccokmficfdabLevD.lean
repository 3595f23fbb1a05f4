/- The first table's frequencies that leave the least: the document's own search. -/
import Derived.Test.YtjaccokmficfdabLevC
import Derived.Test.YtjaccokmficfdabLsfI
import Derived.Test.YtjaccokmficfdabLpcV
namespace Go.Proofs.Ytjaccokmficfdab
namespace Lev
open Go.RowKit

/-- What the i-th of the first table's frequencies leave of a sound, as a power. -/
def leftZ (x : List Int) (n : Nat) (i : Nat) : Int := powI (restL x (fromZ (decodeZ (n : Int) (i : Int) (List.replicate n 0))))
def foundZ (x : List Int) (n : Nat) : Nat := bestN (leftZ x n) 16
theorem leftZ_in (x : List Int) (n i : Nat) : 0 ≤ leftZ x n i ∧ leftZ x n i ≤ 1055531162664960 := powI_in _
theorem plain_good {n i : Nat} (hn : n = 10 ∨ n = 16) (hi : i < 16) : GoodX (n : Int) (i : Int) (List.replicate n 0) := by
  refine ⟨by omega, by omega, by omega, by rw [List.length_replicate], fun x hx => ?_⟩
  obtain rfl := (List.mem_replicate.1 hx).2
  decide

/-- What the search knows behind k of them. -/
def Seen (f : Nat → Int) (k : Nat) (b l : Int) : Prop := (k = 0 ∧ b = 0 ∧ l = -1) ∨ (0 < k ∧ b = (bestN f k : Int) ∧ l = f (bestN f k))
theorem Seen.start (f : Nat → Int) : Seen f 0 0 (-1) := .inl ⟨rfl, rfl, rfl⟩
theorem Seen.better {f : Nat → Int} {k : Nat} {b l : Int} (h : Seen f k b l) (hf : ∀ i, 0 ≤ f i) (hc : l < 0 ∨ f k < l) : Seen f (k + 1) (k : Int) (f k) := by
  right
  rcases h with ⟨rfl, rfl, rfl⟩ | ⟨h1, rfl, rfl⟩
  · refine ⟨Nat.succ_pos _, ?_, ?_⟩
    · rw [bestN_step]
      simp [bestN]
    · rw [bestN_step]
      simp [bestN]
  · have h2 : f k < f (bestN f k) := by
      have := hf (bestN f k)
      omega
    refine ⟨Nat.succ_pos _, ?_, ?_⟩
    · rw [bestN_step, if_pos h2]
    · rw [bestN_step, if_pos h2]
theorem Seen.worse {f : Nat → Int} {k : Nat} {b l : Int} (h : Seen f k b l) (hc : ¬ (l < 0 ∨ f k < l)) : Seen f (k + 1) b l := by
  right
  rcases h with ⟨rfl, rfl, rfl⟩ | ⟨h1, rfl, rfl⟩
  · exact absurd (.inl (by decide)) hc
  · have h2 : ¬ f k < f (bestN f k) := fun h => hc (.inr h)
    refine ⟨Nat.succ_pos _, ?_, ?_⟩
    · rw [bestN_step, if_neg h2]
    · rw [bestN_step, if_neg h2]

end Lev
end Go.Proofs.Ytjaccokmficfdab
