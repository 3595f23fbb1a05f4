/- Pulses left out, as plain numbers: one less of the sample that has the most (of several the last one), again and again. Nothing here is of any program. -/
import Derived.Test.YtdbgcbbfnjoebaaPulseM
namespace Go.Proofs.Ytdbgcbbfnjoebaa
open Go.RowKit

/-- Of the first k samples the last one that has the most. -/
def topN (l : List Int) : Nat → Nat
  | 0 => 0
  | k + 1 => if absI (l[topN l k]?.getD 0) ≤ absI (l[k]?.getD 0) then k else topN l k

theorem topN_lt (l : List Int) : ∀ k, 0 < k → topN l k < k
  | 0, h => absurd h (Nat.lt_irrefl _)
  | k + 1, _ => by
    unfold topN
    split
    · exact Nat.lt_succ_self _
    · rename_i hc
      rcases Nat.eq_zero_or_pos k with rfl | hk
      · exact Nat.lt_succ_self _
      · exact Nat.lt_succ_of_lt (topN_lt l k hk)

theorem topN_max (l : List Int) : ∀ k j, j < k → absI (l[j]?.getD 0) ≤ absI (l[topN l k]?.getD 0) ∧ (topN l k < j → absI (l[j]?.getD 0) < absI (l[topN l k]?.getD 0))
  | 0, _, h => absurd h (Nat.not_lt_zero _)
  | k + 1, j, h => by
    by_cases hc : absI (l[topN l k]?.getD 0) ≤ absI (l[k]?.getD 0)
    · have e : topN l (k + 1) = k := if_pos hc
      rw [e]
      rcases Nat.lt_or_ge j k with hj | hj
      · have := (topN_max l k j hj).1
        exact ⟨by omega, fun h => by omega⟩
      · obtain rfl : j = k := by omega
        exact ⟨Int.le_refl _, fun h => by omega⟩
    · have e : topN l (k + 1) = topN l k := if_neg hc
      rw [e]
      rcases Nat.lt_or_ge j k with hj | hj
      · exact topN_max l k j hj
      · obtain rfl : j = k := by omega
        exact ⟨by omega, fun _ => by omega⟩

def decV (v : Int) : Int := if 0 < v then v - 1 else v + 1
def decI (l : List Int) : List Int := l.set (topN l l.length) (decV (l[topN l l.length]?.getD 0))
def decK : Nat → List Int → List Int
  | 0, l => l
  | n + 1, l => decK n (decI l)

/-- The sum of what the samples have. -/
def pulsesN (l : List Int) : Int := sumP (l.map absI)
theorem pulsesN_nonneg (l : List Int) : 0 ≤ pulsesN l := sumP_nonneg (abs_nonneg l)

theorem decI_len (l : List Int) : (decI l).length = l.length := by unfold decI; rw [List.length_set]
theorem decK_len : ∀ (n : Nat) (l : List Int), (decK n l).length = l.length
  | 0, _ => rfl
  | n + 1, l => (decK_len n (decI l)).trans (decI_len l)

theorem decK_add : ∀ (m n : Nat) (l : List Int), decK (m + n) l = decK n (decK m l)
  | 0, n, l => by rw [Nat.zero_add]; rfl
  | m + 1, n, l => by
    rw [show m + 1 + n = (m + n) + 1 by omega]
    exact decK_add m n (decI l)

theorem decK_step (n : Nat) (l : List Int) : decK (n + 1) l = decI (decK n l) := decK_add n 1 l

theorem sumP_set : ∀ (l : List Int) (i : Nat) (x : Int), i < l.length → sumP (l.set i x) = sumP l - l[i]?.getD 0 + x
  | [], _, _, h => absurd h (Nat.not_lt_zero _)
  | y :: l, 0, x, _ => by show x + sumP l = y + sumP l - y + x; omega
  | y :: l, i + 1, x, h => by
    have := sumP_set l i x (Nat.lt_of_succ_lt_succ h)
    show y + sumP (l.set i x) = y + sumP l - (l[i]?.getD 0) + x
    rw [this]; omega

theorem pulsesN_set (l : List Int) (i : Nat) (x : Int) (h : i < l.length) : pulsesN (l.set i x) = pulsesN l - absI (l[i]?.getD 0) + absI x := by
  unfold pulsesN
  rw [List.map_set, sumP_set _ _ _ (by rw [List.length_map]; exact h), List.getElem?_map, List.getElem?_eq_getElem h]
  rfl

theorem abs_dec {v : Int} (h : 0 < absI v) : absI (decV v) = absI v - 1 := by
  unfold absI at h ⊢
  unfold decV
  split at h <;> split <;> split <;> omega

theorem sumP_zero : ∀ {l : List Int}, (∀ x ∈ l, x = 0) → sumP l = 0
  | [], _ => rfl
  | x :: l, h => by
    have h1 := h x (by simp)
    have h2 := sumP_zero (l := l) (fun y hy => h y (by simp [hy]))
    show x + sumP l = 0
    omega

theorem at_mem {l : List Int} {i : Nat} (h : i < l.length) : l[i]?.getD 0 ∈ l := by
  rw [List.getElem?_eq_getElem h]
  exact List.getElem_mem h

/-- Where there is a pulse at all, the sample with the most has one. -/
theorem top_pos {l : List Int} (h : 0 < pulsesN l) : 0 < l.length ∧ topN l l.length < l.length ∧ 0 < absI (l[topN l l.length]?.getD 0) := by
  have hl : 0 < l.length := by
    rcases Nat.eq_zero_or_pos l.length with e | e
    · have := List.eq_nil_of_length_eq_zero e
      rw [this] at h
      exact absurd h (by decide)
    · exact e
  refine ⟨hl, topN_lt l _ hl, Classical.byContradiction fun hn => ?_⟩
  have h0 : ∀ x ∈ l.map absI, x = 0 := fun x hx => by
    obtain ⟨y, hy, rfl⟩ := List.mem_map.1 hx
    obtain ⟨j, hj, rfl⟩ := List.getElem_of_mem hy
    have h1 := (topN_max l l.length j hj).1
    rw [List.getElem?_eq_getElem hj] at h1
    have h2 := absI_nonneg l[j]
    have h3 : absI l[j] ≤ absI (l[topN l l.length]?.getD 0) := h1
    omega
  have := sumP_zero h0
  unfold pulsesN at h
  omega

theorem pulsesN_dec {l : List Int} (h : 0 < pulsesN l) : pulsesN (decI l) = pulsesN l - 1 := by
  obtain ⟨_, h1, h2⟩ := top_pos h
  unfold decI
  rw [pulsesN_set _ _ _ h1, abs_dec h2]
  omega

theorem pulsesN_decK : ∀ (n : Nat) (l : List Int), (n : Int) ≤ pulsesN l → pulsesN (decK n l) = pulsesN l - n
  | 0, l, _ => by show pulsesN l = _; omega
  | n + 1, l, h => by
    have h1 := pulsesN_dec (l := l) (by omega)
    have h2 := pulsesN_decK n (decI l) (by omega)
    show pulsesN (decK n (decI l)) = _
    omega

/-- A block, of which at most t pulses are left. -/
def fewB (t : Int) (l : List Int) : List Int := decK (pulsesN l - t).toNat l

theorem fewB_sum {t : Int} (ht : 0 ≤ t) (l : List Int) : pulsesN (fewB t l) = if pulsesN l ≤ t then pulsesN l else t := by
  have h0 := pulsesN_nonneg l
  unfold fewB
  rw [pulsesN_decK _ _ (by omega)]
  split <;> omega

theorem fewB_len (t : Int) (l : List Int) : (fewB t l).length = l.length := decK_len _ _

theorem fewB_all {t : Int} {l : List Int} (h : pulsesN l ≤ t) : fewB t l = l := by
  unfold fewB
  rw [show (pulsesN l - t).toNat = 0 by omega]
  rfl

theorem zeros_of : ∀ {l : List Int}, pulsesN l = 0 → l = List.replicate l.length 0
  | [], _ => rfl
  | x :: l, h => by
    have h1 := absI_nonneg x
    have h2 := pulsesN_nonneg l
    have h3 : absI x + pulsesN l = 0 := h
    have h4 := zeros_of (l := l) (by omega)
    have h5 := absI_zero (v := x) (by omega)
    subst h5
    show 0 :: l = 0 :: List.replicate l.length 0
    rw [← h4]

theorem fewB_none (l : List Int) : fewB 0 l = List.replicate l.length 0 := by
  have h1 := fewB_sum (Int.le_refl 0) l
  have h2 := pulsesN_nonneg l
  have h3 := zeros_of (l := fewB 0 l) (by rw [h1]; split <;> omega)
  rw [fewB_len] at h3
  exact h3

/-- Step by step is the same as at once. -/
theorem fewB_twice {a b : Int} (hb : 0 ≤ b) (hab : b ≤ a) (l : List Int) : fewB b (fewB a l) = fewB b l := by
  have hs := fewB_sum (show 0 ≤ a by omega) l
  have h0 := pulsesN_nonneg l
  show decK (pulsesN (fewB a l) - b).toNat (decK (pulsesN l - a).toNat l) = decK (pulsesN l - b).toNat l
  rw [hs, ← decK_add]
  congr 1
  split <;> omega

/-- None grew, none changed its sign. -/
def Lessened (v u : Int) : Prop := (0 ≤ u ∧ u ≤ v) ∨ (v ≤ u ∧ u ≤ 0)
theorem Lessened.refl (v : Int) : Lessened v v := by unfold Lessened; omega
theorem Lessened.trans {a b c : Int} (h : Lessened a b) (k : Lessened b c) : Lessened a c := by unfold Lessened at *; omega

theorem decI_at {l : List Int} (h : 0 < pulsesN l) (j : Nat) : Lessened (l[j]?.getD 0) ((decI l)[j]?.getD 0) := by
  obtain ⟨_, h1, h2⟩ := top_pos h
  unfold decI
  by_cases hj : topN l l.length = j
  · subst hj
    rw [List.getElem?_set_self h1]
    show Lessened _ (decV _)
    generalize l[topN l l.length]?.getD 0 = v at *
    unfold Lessened decV
    unfold absI at h2
    split at h2 <;> split <;> omega
  · rw [List.getElem?_set_ne hj]
    exact .refl _

theorem decK_at : ∀ (n : Nat) (l : List Int), (n : Int) ≤ pulsesN l → ∀ j : Nat, Lessened (l[j]?.getD 0) ((decK n l)[j]?.getD 0)
  | 0, _, _, _ => .refl _
  | n + 1, l, h, j => by
    have h1 := pulsesN_dec (l := l) (by omega)
    exact (decI_at (by omega) j).trans (decK_at n (decI l) (by omega) j)

theorem fewB_at (t : Int) (ht : 0 ≤ t) (l : List Int) (j : Nat) : Lessened (l[j]?.getD 0) ((fewB t l)[j]?.getD 0) := by
  have h0 := pulsesN_nonneg l
  exact decK_at _ l (by omega) j

end Go.Proofs.Ytdbgcbbfnjoebaa
