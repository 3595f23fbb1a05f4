/- Frequencies of the first table: what package tabs, and the document's own answer, come to. -/
import Derived.Test.YtklpicfeajmadaaTabsB
namespace Go.Proofs.Ytklpicfeajmadaa
open Go.RowKit

def lsfAt (order i : Int) (k : Nat) : Int := 32768 * ((k : Int) + 1) / (order + 1) + spreadI order * ((37 * i + 53 * (k : Int)) % 64 - 32)
abbrev lsfNone (order i : Int) : Prop := (¬ order = 10 ∧ ¬ order = 16) ∨ i < 0 ∨ 15 < i
def lsfL (order i : Int) : List Int := if lsfNone order i then [] else (List.range order.toNat).map (lsfAt order i)

theorem map_range_at (f : Nat → Int) (n i : Nat) (h : i < n) : ((List.range n).map f)[i]?.getD 0 = f i := by
  simp [h]

theorem map_range_snoc (f : Nat → Int) (n : Nat) : (List.range (n + 1)).map f = (List.range n).map f ++ [f n] := by
  rw [List.range_succ, List.map_append]; rfl

theorem lsf_some {order i : Int} (h : order = 10 ∨ order = 16) (h0 : 0 ≤ i) (h1 : i ≤ 15) : lsfL order i = (List.range order.toNat).map (lsfAt order i) := by
  rw [lsfL, if_neg]
  unfold lsfNone
  omega

theorem quot_in {m n : Int} (h0 : 0 ≤ m) (h : m < n) : 0 ≤ 32768 * (m + 1) / (n + 1) ∧ 32768 * (m + 1) / (n + 1) ≤ 32768 := by
  refine ⟨Int.ediv_nonneg (by omega) (by omega), ?_⟩
  have h1 : 32768 * (m + 1) / (n + 1) < 32769 := Int.ediv_lt_of_lt_mul (by omega) (by omega)
  omega

theorem spread_in {S y : Int} (hs : 14 ≤ S ∧ S ≤ 24) (hy : -32 ≤ y ∧ y ≤ 31) : -768 ≤ S * y ∧ S * y ≤ 768 := by
  have h : (S * y).natAbs ≤ 24 * 32 := by
    rw [Int.natAbs_mul]
    exact Nat.mul_le_mul (by omega) (by omega)
  omega

theorem rowIs_step {w : World} {b n m : Nat} {t : TypeId} {f : Nat → Int} (h : w.rowIs b t n (fun j => .int .i64 (if j < m then f j else 0))) (_hm : m < n) :
    (w.setCell ⟨b, m, .none⟩ (.int .i64 (f m))).rowIs b t n (fun j => .int .i64 (if j < m + 1 then f j else 0)) := by
  refine (h.set m (.int .i64 (f m))).congr fun j _ => ?_
  by_cases hj : j = m
  · subst hj
    rw [if_pos rfl, if_pos (by omega)]
  · rw [if_neg hj]
    by_cases hlt : j < m
    · rw [if_pos hlt, if_pos (by omega)]
    · rw [if_neg hlt, if_neg (by omega)]

end Go.Proofs.Ytklpicfeajmadaa
