/- How well a sound repeats, as plain numbers: sums, bounds, signs; the order of lags. Nothing here is of any program. -/
import Derived.Test.YtamiokleolfnoaaSumM
import Derived.Test.YtamiokleolfnoaaPitchM
namespace Go.Proofs.Ytamiokleolfnoaa
namespace Pit
open Go.RowKit

def pointI (c e : Int) : Int := if c ≤ 0 then 0 else c / 256 * (c / 256) / (e / 65536 + 1)
def scoreI (x : List Int) (lag : Int) : Int :=
  if x.length < 2 ∨ 960 < x.length ∨ lag < 1 ∨ ((x.length / 2 : Nat) : Int) < lag then 0
  else pointI (corrI x lag.toNat (x.length / 2) (x.length - x.length / 2)) (enI x lag.toNat (x.length / 2) (x.length - x.length / 2))

theorem pointI_in {c e : Int} (hc : c ≤ 515396075520) (he : 0 ≤ e) : 0 ≤ pointI c e ∧ pointI c e ≤ 4053239664633446400 := by
  unfold pointI
  split
  · omega
  · have h0 : 0 ≤ c / 256 := by omega
    have h1 : c / 256 ≤ 2013265920 := by omega
    have h2 : c / 256 * (c / 256) ≤ 2013265920 * 2013265920 := Int.mul_le_mul h1 h1 h0 (by decide)
    have h3 : 0 ≤ c / 256 * (c / 256) := Int.mul_nonneg h0 h0
    have h4 : 0 < e / 65536 + 1 := by omega
    refine ⟨Int.ediv_nonneg h3 (by omega), ?_⟩
    have h5 : c / 256 * (c / 256) / (e / 65536 + 1) ≤ c / 256 * (c / 256) := Int.ediv_le_self _ h3
    omega

theorem scoreI_in (x : List Int) (lag : Int) : 0 ≤ scoreI x lag ∧ scoreI x lag ≤ 4053239664633446400 := by
  unfold scoreI
  split
  · omega
  · rename_i h
    have h1 := corrI_in x lag.toNat (x.length / 2) (x.length - x.length / 2)
    have h2 := enI_in x lag.toNat (x.length / 2) (x.length - x.length / 2)
    exact pointI_in (by omega) h2.1

/-! ### Signs -/
def negL (x : List Int) : List Int := x.map fun a => -a
theorem negL_at (x : List Int) (i : Nat) : (negL x)[i]?.getD 0 = -(x[i]?.getD 0) := by
  unfold negL
  rw [List.getElem?_map]
  cases x[i]? <;> rfl
theorem corrI_neg {x : List Int} (h : ∀ i : Nat, -16383 ≤ x[i]?.getD 0 ∧ x[i]?.getD 0 ≤ 16383) (lag f : Nat) : ∀ k, corrI (negL x) lag f k = corrI x lag f k
  | 0 => rfl
  | k + 1 => by
    show corrI (negL x) lag f k + s16 ((negL x)[f + k]?.getD 0) * s16 ((negL x)[f + k - lag]?.getD 0) = corrI x lag f k + s16 (x[f + k]?.getD 0) * s16 (x[f + k - lag]?.getD 0)
    rw [corrI_neg h lag f k, negL_at, negL_at, s16_neg (h _).1 (h _).2, s16_neg (h _).1 (h _).2, Int.neg_mul_neg]
theorem enI_neg {x : List Int} (h : ∀ i : Nat, -16383 ≤ x[i]?.getD 0 ∧ x[i]?.getD 0 ≤ 16383) (lag f : Nat) : ∀ k, enI (negL x) lag f k = enI x lag f k
  | 0 => rfl
  | k + 1 => by
    show enI (negL x) lag f k + s16 ((negL x)[f + k - lag]?.getD 0) * s16 ((negL x)[f + k - lag]?.getD 0) = enI x lag f k + s16 (x[f + k - lag]?.getD 0) * s16 (x[f + k - lag]?.getD 0)
    rw [enI_neg h lag f k, negL_at, s16_neg (h _).1 (h _).2, Int.neg_mul_neg]
theorem scoreI_neg {x : List Int} (h : ∀ i : Nat, -16383 ≤ x[i]?.getD 0 ∧ x[i]?.getD 0 ≤ 16383) (lag : Int) : scoreI (negL x) lag = scoreI x lag := by
  have hl : (negL x).length = x.length := List.length_map ..
  unfold scoreI
  rw [hl, corrI_neg h, enI_neg h]

/-! ### The order of lags: the greater score first, of one score the lesser lag -/
abbrev LagS := Int × Int
def keyL (p : LagS) : Int := p.2 * 1024 - p.1
theorem keyL_later {p q : LagS} (hp : 1 ≤ p.1) (hq : q.1 ≤ 1000) (h : p.1 < q.1) : keyL q ≤ keyL p ↔ q.2 ≤ p.2 := by
  unfold keyL
  omega
theorem keyL_score {p q : LagS} (hp : 1 ≤ p.1) (hq : q.1 ≤ 1000) (h : keyL q ≤ keyL p) : q.2 ≤ p.2 := by
  unfold keyL at h
  omega
theorem keyL_apart {p q : LagS} (hp : 1 ≤ p.1 ∧ p.1 ≤ 1000) (hq : 1 ≤ q.1 ∧ q.1 ≤ 1000) (h : p.1 ≠ q.1) : keyL p ≠ keyL q := by
  unfold keyL
  omega

/-- The lags from a on, n of them, each with its score. -/
def lagsFrom (x : List Int) (a : Int) : Nat → List LagS
  | 0 => []
  | n + 1 => lagsFrom x a n ++ [(a + n, scoreI x (a + n))]
theorem lagsFrom_len (x : List Int) (a : Int) : ∀ n, (lagsFrom x a n).length = n
  | 0 => rfl
  | n + 1 => by
    show (lagsFrom x a n ++ [_]).length = n + 1
    rw [List.length_append, lagsFrom_len x a n]
    rfl
theorem mem_lagsFrom (x : List Int) (a : Int) (p : LagS) : ∀ n : Nat, p ∈ lagsFrom x a n ↔ (a ≤ p.1 ∧ p.1 < a + n) ∧ p.2 = scoreI x p.1
  | 0 => by
    show p ∈ [] ↔ _
    constructor
    · intro h
      cases h
    · rintro ⟨⟨h1, h2⟩, _⟩
      omega
  | n + 1 => by
    show p ∈ lagsFrom x a n ++ [_] ↔ _
    rw [List.mem_append, mem_lagsFrom x a p n, List.mem_singleton]
    constructor
    · rintro (⟨h1, h2⟩ | rfl)
      · exact ⟨by omega, h2⟩
      · exact ⟨by show a ≤ a + (n : Int) ∧ a + (n : Int) < a + ((n + 1 : Nat) : Int); omega, rfl⟩
    · rintro ⟨h1, h2⟩
      by_cases h3 : p.1 < a + n
      · exact .inl ⟨⟨h1.1, h3⟩, h2⟩
      · right
        have h4 : p.1 = a + n := by omega
        obtain ⟨p1, p2⟩ := p
        have h4 : p1 = a + n := h4
        have h2 : p2 = scoreI x p1 := h2
        rw [h2, h4]
theorem lagsFrom_apart (x : List Int) {a : Int} (ha : 1 ≤ a) : ∀ n : Nat, a + n ≤ 1000 → (lagsFrom x a n).Pairwise (fun p q => keyL p ≠ keyL q)
  | 0, _ => List.Pairwise.nil
  | n + 1, h => by
    show (lagsFrom x a n ++ [_]).Pairwise _
    refine List.pairwise_append.2 ⟨lagsFrom_apart x ha n (by omega), List.pairwise_singleton _ _, fun p hp q hq => ?_⟩
    have h1 := ((mem_lagsFrom x a p n).1 hp).1
    rw [List.mem_singleton] at hq
    subst hq
    refine keyL_apart (by omega) ?_ ?_
    · show 1 ≤ a + (n : Int) ∧ a + (n : Int) ≤ 1000
      omega
    · show p.1 ≠ a + (n : Int)
      omega

/-- All of them, the best first: what is asked for is a beginning of it. -/
def allL (x : List Int) (a : Int) (n : Nat) : List LagS := sortD keyL [] (lagsFrom x a n)
theorem allL_desc (x : List Int) {a : Int} (ha : 1 ≤ a) {n : Nat} (h : a + n ≤ 1000) : Desc keyL (allL x a n) := sortD_desc keyL _ [] List.Pairwise.nil (fun y hy => by cases hy) (lagsFrom_apart x ha n h)
theorem mem_allL (x : List Int) (a : Int) (n : Nat) (p : LagS) : p ∈ allL x a n ↔ (a ≤ p.1 ∧ p.1 < a + n) ∧ p.2 = scoreI x p.1 := by
  unfold allL
  rw [mem_sortD, mem_lagsFrom]
  constructor
  · rintro (h | h)
    · cases h
    · exact h
  · exact .inr
theorem allL_len (x : List Int) (a : Int) (n : Nat) : (allL x a n).length = n := by
  unfold allL
  rw [sortD_len, lagsFrom_len]
  simp

/-- The first has the best score. -/
theorem allL_first (x : List Int) {a : Int} (ha : 1 ≤ a) {n : Nat} (h : a + n ≤ 1000) {p : LagS} (hp : p ∈ allL x a n) : ∃ q, (allL x a n)[0]? = some q ∧ p.2 ≤ q.2 := by
  obtain ⟨i, hi, rfl⟩ := List.getElem_of_mem hp
  have h0 : 0 < (allL x a n).length := by omega
  refine ⟨(allL x a n)[0], List.getElem?_eq_getElem h0, ?_⟩
  rcases Nat.eq_zero_or_pos i with rfl | h1
  · exact Int.le_refl _
  · have h2 := List.pairwise_iff_getElem.1 (allL_desc x ha h) 0 i h0 hi h1
    have h3 := ((mem_allL x a n _).1 (List.getElem_mem h0)).1
    have h4 := ((mem_allL x a n _).1 (List.getElem_mem hi)).1
    exact keyL_score (by omega) (by omega) (Int.le_of_lt h2)

end Pit
end Go.Proofs.Ytamiokleolfnoaa
