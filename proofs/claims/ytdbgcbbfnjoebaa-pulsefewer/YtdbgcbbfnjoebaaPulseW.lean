/- What is left of pulses, as plain numbers: good, no more, none grew; all, none, step by step. Nothing here is of any program. -/
import Derived.Test.YtdbgcbbfnjoebaaMF
import Derived.Test.YtdbgcbbfnjoebaaME
namespace Go.Proofs.Ytdbgcbbfnjoebaa
open Go.RowKit

theorem absI_le_small {x : Int} (h : absI x ≤ 16) : -16 ≤ x ∧ x ≤ 16 := by unfold absI at h; split at h <;> omega

theorem goodN_small : ∀ (m : Nat) (l : List Int), goodN m l → Small l
  | 0, l, h => by
    have e : l = [] := h
    rw [e]
    exact fun x hx => by cases hx
  | m + 1, l, h => fun x hx => by
    rw [← List.take_append_drop 16 l] at hx
    rcases List.mem_append.1 hx with hx | hx
    · exact absI_le_small (Int.le_trans (pulsesN_mem hx) h.1.few)
    · exact goodN_small m _ h.2 x hx

theorem cl16_same {x : Int} (h : -16 ≤ x ∧ x ≤ 16) : cl16 x = x := by
  unfold cl16 clampI
  rw [if_neg (by omega), if_neg (by omega), if_neg (by omega)]

theorem small_map {l : List Int} (h : Small l) : l.map cl16 = l := (List.map_congr_left fun x hx => by rw [cl16_same (h x hx)]; rfl).trans (List.map_id l)

theorem fewer_good {m : Nat} {l : List Int} (h : goodN m l) (t : Int) : fewerL t l = fewsL (clampI t 0 16) m l := by
  unfold fewerL
  rw [small_map (goodN_small m l h), goodN_len m l h, show (16 * m + 15) / 16 = m by omega]

theorem fewB_le {t : Int} (ht : 0 ≤ t) (l : List Int) : pulsesN (fewB t l) ≤ t ∧ pulsesN (fewB t l) ≤ pulsesN l := by
  rw [fewB_sum ht]
  split <;> omega

/-- What is left may be written. -/
theorem fews_may {t : Int} (ht : 0 ≤ t) (ht2 : t ≤ 16) : ∀ (m : Nat) (l : List Int), l.length = 16 * m → goodN m (fewsL t m l)
  | 0, _, _ => rfl
  | m + 1, l, h => by
    have hl : (fewB t (l.take 16)).length = 16 := by rw [fewB_len, List.length_take]; omega
    have ih := fews_may ht ht2 m (l.drop 16) (by rw [List.length_drop]; omega)
    refine ⟨?_, ?_⟩
    · show BlockP ((fewB t (l.take 16) ++ fewsL t m (l.drop 16)).take 16)
      rw [List.take_append_of_le_length (by omega), List.take_of_length_le (by omega)]
      exact ⟨hl, Int.le_trans (fewB_le ht _).1 ht2⟩
    · show goodN m ((fewB t (l.take 16) ++ fewsL t m (l.drop 16)).drop 16)
      rw [List.drop_append_of_le_length (by omega), List.drop_of_length_le (by omega), List.nil_append]
      exact ih

theorem fews_all : ∀ (m : Nat) (l : List Int), goodN m l → fewsL 16 m l = l
  | 0, l, h => by have e : l = [] := h; rw [e]; rfl
  | m + 1, l, h => by
    show fewB 16 (l.take 16) ++ fewsL 16 m (l.drop 16) = l
    rw [fewB_all h.1.few, fews_all m _ h.2, List.take_append_drop]

theorem fews_none : ∀ (m : Nat) (l : List Int), l.length = 16 * m → fewsL 0 m l = List.replicate (16 * m) 0
  | 0, _, _ => rfl
  | m + 1, l, h => by
    show fewB 0 (l.take 16) ++ fewsL 0 m (l.drop 16) = _
    rw [fewB_none, fews_none m _ (by rw [List.length_drop]; omega), List.length_take, List.replicate_append_replicate]
    congr 1
    omega

theorem fews_twice {a b : Int} (hb : 0 ≤ b) (hab : b ≤ a) : ∀ (m : Nat) (l : List Int), l.length = 16 * m → fewsL b m (fewsL a m l) = fewsL b m l
  | 0, _, _ => rfl
  | m + 1, l, h => by
    have hl : (fewB a (l.take 16)).length = 16 := by rw [fewB_len, List.length_take]; omega
    show fewB b ((fewB a (l.take 16) ++ fewsL a m (l.drop 16)).take 16) ++ fewsL b m ((fewB a (l.take 16) ++ fewsL a m (l.drop 16)).drop 16) = fewB b (l.take 16) ++ fewsL b m (l.drop 16)
    rw [List.take_append_of_le_length (by omega), List.take_of_length_le (by omega), List.drop_append_of_le_length (by omega), List.drop_of_length_le (by omega), List.nil_append, fewB_twice hb hab, fews_twice hb hab m _ (by rw [List.length_drop]; omega)]

/-- None grew, none changed its sign. -/
theorem fews_at {t : Int} (ht : 0 ≤ t) : ∀ (m : Nat) (l : List Int), l.length ≤ 16 * m → ∀ j : Nat, Lessened (l[j]?.getD 0) ((fewsL t m l)[j]?.getD 0)
  | 0, l, h, j => by
    have e : l = [] := List.eq_nil_of_length_eq_zero (by omega)
    rw [e]
    exact .refl _
  | m + 1, l, h, j => by
    show Lessened _ ((fewB t (l.take 16) ++ fewsL t m (l.drop 16))[j]?.getD 0)
    have hl : (fewB t (l.take 16)).length = min 16 l.length := by rw [fewB_len, List.length_take]
    by_cases hj : j < min 16 l.length
    · rw [List.getElem?_append_left (by omega)]
      have := fewB_at t ht (l.take 16) j
      rw [List.getElem?_take_of_lt (by omega)] at this
      exact this
    · rw [List.getElem?_append_right (by omega), hl]
      have := fews_at ht m (l.drop 16) (by rw [List.length_drop]; omega) (j - min 16 l.length)
      rw [List.getElem?_drop] at this
      by_cases h16 : 16 ≤ l.length
      · rw [show 16 + (j - min 16 l.length) = j by omega] at this
        exact this
      · rw [List.getElem?_eq_none (by omega)] at this
        rw [List.getElem?_eq_none (by omega)]
        exact this

theorem cl16_less (x : Int) : Lessened x (cl16 x) := by
  unfold Lessened cl16 clampI
  split <;> (try split) <;> (try split) <;> omega

theorem clamp_in (t : Int) : 0 ≤ clampI t 0 16 ∧ clampI t 0 16 ≤ 16 := by
  unfold clampI
  split <;> (try split) <;> (try split) <;> omega

theorem fewer_at (t : Int) (l : List Int) {j : Nat} (hj : j < l.length) : Lessened (l[j]?.getD 0) ((fewerL t l)[j]?.getD 0) := by
  have h1 := fews_at (clamp_in t).1 ((l.length + 15) / 16) (l.map cl16) (by rw [List.length_map]; omega) j
  have h2 : (l.map cl16)[j]?.getD 0 = cl16 (l[j]?.getD 0) := by rw [List.getElem?_map, List.getElem?_eq_getElem hj]; rfl
  rw [h2] at h1
  exact (cl16_less _).trans h1

theorem fewer_may (t : Int) {l : List Int} {m : Nat} (hl : l.length = 16 * m) (hm1 : 1 ≤ m) (hm : m ≤ 30) : goodL (fewerL t l) = true := by
  refine goodL_iff.2 ⟨m, hm1, hm, ?_⟩
  unfold fewerL
  rw [hl, show (16 * m + 15) / 16 = m by omega]
  exact fews_may (clamp_in t).1 (clamp_in t).2 m _ (by rw [List.length_map, hl])

/-- Few pulses in all are few in each block. -/
theorem good_few : ∀ (m : Nat) (l : List Int), l.length = 16 * m → pulsesN l ≤ 16 → goodN m l
  | 0, l, h, _ => List.eq_nil_of_length_eq_zero (by omega)
  | m + 1, l, h, hp => by
    have hs : pulsesN (l.take 16) + pulsesN (l.drop 16) = pulsesN l := by rw [← pulsesN_append, List.take_append_drop]
    have h1 := pulsesN_nonneg (l.take 16)
    have h2 := pulsesN_nonneg (l.drop 16)
    refine ⟨⟨by rw [List.length_take]; omega, ?_⟩, good_few m _ (by rw [List.length_drop]; omega) (by omega)⟩
    show pulsesN (l.take 16) ≤ 16
    omega

theorem pulsesN_zeros (n : Nat) : pulsesN (List.replicate n 0) = 0 := by
  unfold pulsesN
  rw [List.map_replicate]
  exact sumP_zeros n

theorem good_one {n m k : Nat} (hn : n = 16 * m) (hm1 : 1 ≤ m) (hm : m ≤ 30) (v : Int) (hv : absI v ≤ 16) (hk : k < n) : goodL ((List.replicate n 0).set k v) = true := by
  refine goodL_iff.2 ⟨m, hm1, hm, good_few m _ (by rw [List.length_set, List.length_replicate, hn]) ?_⟩
  rw [pulsesN_set _ _ _ (by rw [List.length_replicate]; exact hk), pulsesN_zeros]
  have : absI ((List.replicate n (0 : Int))[k]?.getD 0) = 0 := by
    rw [List.getElem?_replicate, if_pos hk]
    rfl
  rw [this]
  omega

theorem good_none0 {n m : Nat} (hn : n = 16 * m) (hm1 : 1 ≤ m) (hm : m ≤ 30) : goodL (List.replicate n 0) = true :=
  goodL_iff.2 ⟨m, hm1, hm, good_few m _ (by rw [List.length_replicate, hn]) (by rw [pulsesN_zeros]; decide)⟩

end Go.Proofs.Ytdbgcbbfnjoebaa
