/- A polynomial multiplied out in place: plain lists, then package lpc's call. -/
import Derived.Test.YtefecpidccpimaaLpcF
namespace Go.Proofs.Ytefecpidccpimaa
open Go.RowKit

/-- A list with noughts behind, n long. -/
def padL (l : List Int) (n : Nat) : List Int := l ++ List.replicate (n - l.length) 0
theorem padL_len {l : List Int} {n : Nat} (h : l.length ≤ n) : (padL l n).length = n := by
  unfold padL
  rw [List.length_append, List.length_replicate]
  omega
theorem padL_at (l : List Int) (n k : Nat) : (padL l n)[k]?.getD 0 = atZ l k := by
  unfold padL atZ
  rcases Nat.lt_or_ge k l.length with h | h
  · rw [List.getElem?_append_left h]
  · rw [List.getElem?_append_right h, List.getElem?_eq_none h]
    exact zero_at _ _
theorem list_ext_at {a b : List Int} (hl : a.length = b.length) (h : ∀ k, k < a.length → a[k]?.getD 0 = b[k]?.getD 0) : a = b := by
  apply List.ext_getElem hl
  intro i h1 h2
  have := h i h1
  rwa [List.getElem?_eq_getElem h1, List.getElem?_eq_getElem h2] at this
theorem mixL_get {L l0 : List Int} {n m k : Nat} (h : L.length = n) (h0 : l0.length = n) (hm : m ≤ n) : (mixL L l0 m)[k]?.getD 0 = if k < m then L[k]?.getD 0 else l0[k]?.getD 0 := by
  unfold mixL
  by_cases hk : k < m
  · rw [List.getElem?_append_left (by rw [List.length_take]; omega), List.getElem?_take_of_lt hk, if_pos hk]
  · rw [List.getElem?_append_right (by rw [List.length_take]; omega), List.length_take, List.getElem?_drop, if_neg hk, show m + (k - min m L.length) = k by omega]
/-- From the back: the number at m turned. -/
theorem mixL_back {L l0 : List Int} {n m : Nat} (h : L.length = n) (h0 : l0.length = n) (hm : m < n) : (mixL L l0 (m + 1)).set m (l0[m]?.getD 0) = mixL L l0 m := by
  apply list_ext_at
  · rw [List.length_set, mixL_len h h0 (by omega), mixL_len h h0 (by omega)]
  · intro k _
    rw [mixL_get h h0 (by omega), List.getElem?_set]
    by_cases e : m = k
    · subst e
      rw [if_pos rfl, mixL_len h h0 (by omega), if_pos hm, if_neg (by omega)]
      rfl
    · rw [if_neg e, mixL_get h h0 (by omega)]
      by_cases hk : k < m
      · rw [if_pos (by omega), if_pos hk]
      · rw [if_neg (by omega), if_neg hk]

/-- Behind k numbers, and one more. -/
def polyP (ys : List Int) (n k : Nat) : List Int := padL (polyK ys (k - 1)) n
theorem polyP_len {ys : List Int} {n k : Nat} (h : k - 1 + 2 ≤ n) : (polyP ys n k).length = n := padL_len (by rw [polyK_len]; omega)
theorem polyP_step {ys : List Int} {n k i : Nat} (hk : 1 ≤ k) (hi : i ≤ k + 1) : (polyP ys n (k + 1))[i]?.getD 0 = polyAt (atZ ys k) (polyK ys (k - 1)) i := by
  unfold polyP
  rw [padL_at]
  obtain ⟨j, rfl⟩ : ∃ j, k = j + 1 := ⟨k - 1, by omega⟩
  show atZ (polyS (atZ ys (j + 1)) (polyK ys j)) i = _
  rw [polyS_at (by rw [polyK_len]; omega)]
  rfl
theorem polyP_far {ys : List Int} {n k i : Nat} (hk : 1 ≤ k) (hi : k < i) : (polyP ys n k)[i]?.getD 0 = 0 := by
  unfold polyP
  rw [padL_at]
  unfold atZ
  rw [List.getElem?_eq_none (by rw [polyK_len]; omega)]
  rfl
theorem polyP_at {ys : List Int} {n k i : Nat} : (polyP ys n k)[i]?.getD 0 = atZ (polyK ys (k - 1)) i := padL_at _ _ _
/-- The first of all: the last number. -/
theorem polyP_top {ys : List Int} {n k : Nat} (hk : 1 ≤ k) : (polyP ys n (k + 1))[k + 1]?.getD 0 = 2 * (polyP ys n k)[k - 1]?.getD 0 - mulI (atZ ys k) ((polyP ys n k)[k]?.getD 0) 16 := by
  rw [polyP_step hk (Nat.le_refl _), polyP_at, polyP_at]
  unfold polyAt
  rw [if_neg (by omega), if_neg (by omega), if_pos (by rw [polyK_len]; omega)]
  rfl
theorem polyP_mid {ys : List Int} {n k i : Nat} (h2 : 2 ≤ i) (hi : i ≤ k) : (polyP ys n (k + 1))[i]?.getD 0 = (polyP ys n k)[i]?.getD 0 + ((polyP ys n k)[i - 2]?.getD 0 - mulI (atZ ys k) ((polyP ys n k)[i - 1]?.getD 0) 16) := by
  rw [polyP_step (by omega) (by omega), polyP_at, polyP_at, polyP_at]
  unfold polyAt
  rw [if_neg (by omega), if_neg (by omega), if_neg (by rw [polyK_len]; omega)]
  omega
theorem polyP_one {ys : List Int} {n k : Nat} (hk : 1 ≤ k) : (polyP ys n (k + 1))[1]?.getD 0 = (polyP ys n k)[1]?.getD 0 - atZ ys k := by
  rw [polyP_step hk (by omega), polyP_at]
  unfold polyAt
  rw [if_neg (by omega), if_pos rfl]
theorem polyP_none {ys : List Int} {n k : Nat} (hk : 1 ≤ k) : (polyP ys n (k + 1))[0]?.getD 0 = (polyP ys n k)[0]?.getD 0 := by
  rw [polyP_step hk (by omega), polyP_at]
  unfold polyAt
  rw [if_pos rfl]
theorem polyP_start {ys : List Int} {n k : Nat} (hk : 1 ≤ k) (hn : k + 2 ≤ n) : mixL (polyP ys n k) (polyP ys n (k + 1)) (k + 2) = polyP ys n k := by
  have l1 : (polyP ys n k).length = n := polyP_len (by omega)
  have l2 : (polyP ys n (k + 1)).length = n := polyP_len (by omega)
  apply list_ext_at
  · rw [mixL_len l1 l2 hn, l1]
  · intro i _
    rw [mixL_get l1 l2 hn]
    by_cases hi : i < k + 2
    · rw [if_pos hi]
    · rw [if_neg hi, polyP_far (by omega) (by omega), polyP_far hk (by omega)]
theorem polyP_end {ys : List Int} {n k : Nat} (hk : 1 ≤ k) (hn : k + 2 ≤ n) : mixL (polyP ys n k) (polyP ys n (k + 1)) 1 = polyP ys n (k + 1) := by
  have l1 : (polyP ys n k).length = n := polyP_len (by omega)
  have l2 : (polyP ys n (k + 1)).length = n := polyP_len (by omega)
  apply list_ext_at
  · rw [mixL_len l1 l2 (by omega), l2]
  · intro i _
    rw [mixL_get l1 l2 (by omega)]
    by_cases hi : i < 1
    · obtain rfl : i = 0 := by omega
      rw [if_pos hi, polyP_none hk]
    · rw [if_neg hi]
theorem polyP_in {ys : List Int} {n k : Nat} (hy : ∀ x ∈ ys, -262148 ≤ x ∧ x ≤ 262148) (hk : k ≤ 8) (i : Nat) : -251871798400 ≤ (polyP ys n k)[i]?.getD 0 ∧ (polyP ys n k)[i]?.getD 0 ≤ 251871798400 := by
  rw [polyP_at]
  have h1 := polyK_bnd (bnd_of (by decide) hy) (k - 1) i
  have h2 := bndN_mono (k - 1) 7 (by omega)
  rw [bndN_seven] at h2
  omega
theorem polyP_done {ys : List Int} {n : Nat} (h : 0 < ys.length) (hn : n = ys.length + 1) : polyP ys n ys.length = polyZ ys := by
  unfold polyP padL polyZ
  rw [polyK_len, show n - (ys.length - 1 + 2) = 0 by omega]
  exact List.append_nil _
theorem polyP_first (ys : List Int) (n : Nat) (hn : 2 ≤ n) : ((List.replicate n (0 : Int)).set 0 65536).set 1 (-(atZ ys 0)) = polyP ys n 1 := by
  apply list_ext_at
  · rw [List.length_set, List.length_set, List.length_replicate, polyP_len (by omega)]
  · intro i hi
    rw [List.length_set, List.length_set, List.length_replicate] at hi
    rw [polyP_at, List.getElem?_set, List.length_set, List.length_replicate]
    by_cases h1 : 1 = i
    · subst h1
      rw [if_pos rfl, if_pos hi]
      rfl
    · rw [if_neg h1, List.getElem?_set, List.length_replicate]
      by_cases h0 : 0 = i
      · subst h0
        rw [if_pos rfl, if_pos hi]
        rfl
      · rw [if_neg h0, zero_at]
        unfold atZ
        rw [List.getElem?_eq_none (by rw [polyK_len]; omega)]
        rfl
theorem mul16_far {y x : Int} (hy : -262148 ≤ y ∧ y ≤ 262148) (hx : -251871798400 ≤ x ∧ x ≤ 251871798400) : -1259358992001 ≤ mulI y x 16 ∧ mulI y x 16 ≤ 1259358992001 := by
  have := mul16_in (B := 251871798400) (by decide) hy hx
  omega

end Go.Proofs.Ytefecpidccpimaa
