/- How much a sound is like itself, what a filter leaves of it, its power: as plain numbers. Nothing here is of any program. -/
import Derived.Test.YtjaccokmficfdaaSumM
import Derived.Test.YtjaccokmficfdaaLpcM
namespace Go.Proofs.Ytjaccokmficfdaa
namespace Lev

/-- The sum of x_n x_(n-k), n from k on. -/
def autoI (x : List Int) (k : Nat) : Int := corrI x k k (x.length - k)
def autoL (x : List Int) (order : Nat) : List Int := (List.range (order + 1)).map (autoI x)
theorem autoL_len (x : List Int) (o : Nat) : (autoL x o).length = o + 1 := by unfold autoL; rw [List.length_map, List.length_range]
theorem autoL_at {x : List Int} {o k : Nat} (h : k ≤ o) : (autoL x o)[k]?.getD 0 = autoI x k := by
  unfold autoL
  rw [List.getElem?_map, List.getElem?_range (by omega)]
  rfl
theorem autoI_in {x : List Int} (h : x.length ≤ 960) (k : Nat) : -1030792151040 ≤ autoI x k ∧ autoI x k ≤ 1030792151040 := by
  have := corrI_in x k k (x.length - k)
  unfold autoI
  omega

/-- The sum of the squares of m samples from f on. -/
def sqI (x : List Int) (f : Nat) : Nat → Int
  | 0 => 0
  | m + 1 => sqI x f m + s16 (x[f + m]?.getD 0) * s16 (x[f + m]?.getD 0)
theorem sq_nonneg (a : Int) : 0 ≤ a * a := by
  rcases Int.le_total 0 a with h | h
  · exact Int.mul_nonneg h h
  · exact Int.mul_nonneg_of_nonpos_of_nonpos h h
theorem two_prod (a b : Int) : 2 * (a * b) ≤ a * a + b * b ∧ -(a * a + b * b) ≤ 2 * (a * b) := by
  have h1 := sq_nonneg (a - b)
  have h2 := sq_nonneg (a + b)
  have e1 : (a - b) * (a - b) = a * a - a * b - (a * b - b * b) := by rw [Int.sub_mul, Int.mul_sub, Int.mul_sub, Int.mul_comm b a]
  have e2 : (a + b) * (a + b) = a * a + a * b + (a * b + b * b) := by rw [Int.add_mul, Int.mul_add, Int.mul_add, Int.mul_comm b a]
  rw [e1] at h1
  rw [e2] at h2
  omega
theorem sqI_up (x : List Int) (f : Nat) : ∀ m, 0 ≤ sqI x f m ∧ sqI x f m ≤ sqI x f (m + 1)
  | 0 => ⟨Int.le_refl 0, by
    have := sq_nonneg (s16 (x[f + 0]?.getD 0))
    show (0 : Int) ≤ 0 + s16 (x[f + 0]?.getD 0) * s16 (x[f + 0]?.getD 0)
    omega⟩
  | m + 1 => by
    have h := sqI_up x f m
    have := sq_nonneg (s16 (x[f + (m + 1)]?.getD 0))
    show 0 ≤ sqI x f (m + 1) ∧ sqI x f (m + 1) ≤ sqI x f (m + 1) + s16 (x[f + (m + 1)]?.getD 0) * s16 (x[f + (m + 1)]?.getD 0)
    omega
theorem sqI_mono (x : List Int) (f : Nat) {a : Nat} : ∀ b, sqI x f a ≤ sqI x f (a + b)
  | 0 => Int.le_refl _
  | b + 1 => Int.le_trans (sqI_mono x f b) (sqI_up x f (a + b)).2
theorem sqI_split (x : List Int) (k : Nat) : ∀ m, sqI x 0 (k + m) = sqI x 0 k + sqI x k m
  | 0 => by
    show sqI x 0 k = sqI x 0 k + 0
    omega
  | m + 1 => by
    have h := sqI_split x k m
    show sqI x 0 (k + m) + s16 (x[0 + (k + m)]?.getD 0) * s16 (x[0 + (k + m)]?.getD 0) = sqI x 0 k + (sqI x k m + s16 (x[k + m]?.getD 0) * s16 (x[k + m]?.getD 0))
    rw [Nat.zero_add, h]
    omega
theorem corrI_sq (x : List Int) (k : Nat) : ∀ m, 2 * corrI x k k m ≤ sqI x k m + sqI x 0 m ∧ -(sqI x k m + sqI x 0 m) ≤ 2 * corrI x k k m
  | 0 => by
    show 2 * (0 : Int) ≤ 0 + 0 ∧ -((0 : Int) + 0) ≤ 2 * 0
    omega
  | m + 1 => by
    have h := corrI_sq x k m
    have t := two_prod (s16 (x[k + m]?.getD 0)) (s16 (x[0 + m]?.getD 0))
    have e : corrI x k k (m + 1) = corrI x k k m + s16 (x[k + m]?.getD 0) * s16 (x[0 + m]?.getD 0) := by
      show corrI x k k m + s16 (x[k + m]?.getD 0) * s16 (x[k + m - k]?.getD 0) = _
      rw [show k + m - k = 0 + m by omega]
    rw [e]
    show 2 * _ ≤ (sqI x k m + s16 (x[k + m]?.getD 0) * s16 (x[k + m]?.getD 0)) + (sqI x 0 m + s16 (x[0 + m]?.getD 0) * s16 (x[0 + m]?.getD 0)) ∧ -((sqI x k m + s16 (x[k + m]?.getD 0) * s16 (x[k + m]?.getD 0)) + (sqI x 0 m + s16 (x[0 + m]?.getD 0) * s16 (x[0 + m]?.getD 0))) ≤ _
    generalize s16 (x[k + m]?.getD 0) * s16 (x[0 + m]?.getD 0) = p at *
    generalize s16 (x[k + m]?.getD 0) * s16 (x[k + m]?.getD 0) = q at *
    generalize s16 (x[0 + m]?.getD 0) * s16 (x[0 + m]?.getD 0) = r at *
    omega
theorem auto_zero (x : List Int) : autoI x 0 = sqI x 0 x.length := by
  unfold autoI
  rw [Nat.sub_zero]
  generalize x.length = m
  induction m with
  | zero => rfl
  | succ m ih =>
    show corrI x 0 0 m + s16 (x[0 + m]?.getD 0) * s16 (x[0 + m - 0]?.getD 0) = sqI x 0 m + s16 (x[0 + m]?.getD 0) * s16 (x[0 + m]?.getD 0)
    rw [ih, Nat.sub_zero]

/-- A sound is most like itself now. -/
theorem auto_most (x : List Int) (k : Nat) : autoI x k ≤ autoI x 0 ∧ -autoI x k ≤ autoI x 0 ∧ 0 ≤ autoI x 0 := by
  rw [auto_zero]
  by_cases hk : k ≤ x.length
  · obtain ⟨m, hm⟩ : ∃ m, x.length = k + m := ⟨x.length - k, by omega⟩
    have h1 := corrI_sq x k m
    have h2 := sqI_split x k m
    have h3 := sqI_up x 0 k
    have h4 := sqI_mono x 0 (a := m) k
    have h5 := sqI_up x k m
    unfold autoI
    rw [hm, show k + m - k = m by omega]
    rw [Nat.add_comm m k] at h4
    omega
  · have h3 := sqI_up x 0 x.length
    unfold autoI
    rw [show x.length - k = 0 by omega]
    show (0 : Int) ≤ _ ∧ -(0 : Int) ≤ _ ∧ _
    omega

/-! ### Twice as loud -/
def twoL (x : List Int) : List Int := x.map fun a => 2 * a
theorem twoL_len (x : List Int) : (twoL x).length = x.length := by unfold twoL; rw [List.length_map]
theorem twoL_at (x : List Int) (i : Nat) : (twoL x)[i]?.getD 0 = 2 * (x[i]?.getD 0) := by
  unfold twoL
  rw [List.getElem?_map]
  cases x[i]? <;> rfl
theorem four (a b : Int) : 2 * a * (2 * b) = 4 * (a * b) := by
  rw [Int.mul_assoc, Int.mul_left_comm a 2 b]
  omega
theorem corrI_two {x : List Int} (h : ∀ i : Nat, -16383 ≤ x[i]?.getD 0 ∧ x[i]?.getD 0 ≤ 16383) (lag f : Nat) : ∀ k, corrI (twoL x) lag f k = 4 * corrI x lag f k
  | 0 => rfl
  | k + 1 => by
    show corrI (twoL x) lag f k + s16 ((twoL x)[f + k]?.getD 0) * s16 ((twoL x)[f + k - lag]?.getD 0) = 4 * (corrI x lag f k + s16 (x[f + k]?.getD 0) * s16 (x[f + k - lag]?.getD 0))
    rw [corrI_two h lag f k, twoL_at, twoL_at, s16_two (h _).1 (h _).2, s16_two (h _).1 (h _).2, four]
    omega
theorem auto_two {x : List Int} (h : ∀ i : Nat, -16383 ≤ x[i]?.getD 0 ∧ x[i]?.getD 0 ≤ 16383) (k : Nat) : autoI (twoL x) k = 4 * autoI x k := by
  unfold autoI
  rw [twoL_len, corrI_two h]

/-! ### Power -/
def c20 (a : Int) : Int := clampI a (-1048576) 1048576
theorem c20_in (a : Int) : -1048576 ≤ c20 a ∧ c20 a ≤ 1048576 := clampI_in _ _ _ (by decide)
theorem c20_same {a : Int} (h1 : -1048576 ≤ a) (h2 : a ≤ 1048576) : c20 a = a := by
  unfold c20 clampI
  rw [if_neg (by omega), if_neg (by decide), if_neg (by omega)]
def powN (l : List Int) : Nat → Int
  | 0 => 0
  | k + 1 => powN l k + c20 (l[k]?.getD 0) * c20 (l[k]?.getD 0)
def powI (l : List Int) : Int := powN l (min l.length 960)
theorem powN_in (l : List Int) : ∀ k : Nat, 0 ≤ powN l k ∧ powN l k ≤ (k : Int) * 1099511627776
  | 0 => by
    show (0 : Int) ≤ 0 ∧ (0 : Int) ≤ (0 : Nat) * 1099511627776
    omega
  | k + 1 => by
    have h := powN_in l k
    have h0 := sq_nonneg (c20 (l[k]?.getD 0))
    have h1 := (prod_le (c20_in (l[k]?.getD 0)) (c20_in (l[k]?.getD 0))).2
    show 0 ≤ powN l k + c20 (l[k]?.getD 0) * c20 (l[k]?.getD 0) ∧ powN l k + c20 (l[k]?.getD 0) * c20 (l[k]?.getD 0) ≤ ((k + 1 : Nat) : Int) * 1099511627776
    omega
theorem powI_in (l : List Int) : 0 ≤ powI l ∧ powI l ≤ 1055531162664960 := by
  have := powN_in l (min l.length 960)
  unfold powI
  omega
theorem pow_sq {x : List Int} (h : ∀ i : Nat, -32768 ≤ x[i]?.getD 0 ∧ x[i]?.getD 0 ≤ 32767) : ∀ m, powN x m = sqI x 0 m
  | 0 => rfl
  | m + 1 => by
    have h1 := h m
    show powN x m + c20 (x[m]?.getD 0) * c20 (x[m]?.getD 0) = sqI x 0 m + s16 (x[0 + m]?.getD 0) * s16 (x[0 + m]?.getD 0)
    rw [pow_sq h m, Nat.zero_add, c20_same (by omega) (by omega), s16_same h1.1 h1.2]
theorem pow_auto {x : List Int} (h : ∀ i : Nat, -32768 ≤ x[i]?.getD 0 ∧ x[i]?.getD 0 ≤ 32767) (hl : x.length ≤ 960) : powI x = autoI x 0 := by
  rw [auto_zero]
  unfold powI
  rw [Nat.min_eq_left hl, pow_sq h]
theorem powN_two {x : List Int} (h : ∀ i : Nat, -16383 ≤ x[i]?.getD 0 ∧ x[i]?.getD 0 ≤ 16383) : ∀ k, powN (twoL x) k = 4 * powN x k
  | 0 => rfl
  | k + 1 => by
    have h1 := h k
    show powN (twoL x) k + c20 ((twoL x)[k]?.getD 0) * c20 ((twoL x)[k]?.getD 0) = 4 * (powN x k + c20 (x[k]?.getD 0) * c20 (x[k]?.getD 0))
    rw [powN_two h k, twoL_at, c20_same (a := 2 * (x[k]?.getD 0)) (by omega) (by omega), c20_same (a := x[k]?.getD 0) (by omega) (by omega), four]
    omega
theorem pow_two {x : List Int} (h : ∀ i : Nat, -16383 ≤ x[i]?.getD 0 ∧ x[i]?.getD 0 ≤ 16383) : powI (twoL x) = 4 * powI x := by
  unfold powI
  rw [twoL_len, powN_two h]

/-! ### What is left -/
def restN (x a : List Int) (n : Nat) : Nat → Int
  | 0 => s16 (x[n]?.getD 0)
  | k + 1 => restN x a n k - mulI (c17 (a[k]?.getD 0)) (s16 (x[n - 1 - k]?.getD 0)) 12
def restI (x a : List Int) (n : Nat) : Int := restN x a n (min a.length n)
def restL (x a : List Int) : List Int := (List.range x.length).map (restI x a)
theorem restL_len (x a : List Int) : (restL x a).length = x.length := by unfold restL; rw [List.length_map, List.length_range]
theorem restL_at {x a : List Int} {n : Nat} (h : n < x.length) : (restL x a)[n]?.getD 0 = restI x a n := by
  unfold restL
  rw [List.getElem?_map, List.getElem?_range h]
  rfl
theorem rest_mul {u v : Int} (hu : -131072 ≤ u ∧ u ≤ 131072) (hv : -32768 ≤ v ∧ v ≤ 32768) : -1048576 ≤ mulI u v 12 ∧ mulI u v 12 ≤ 1048576 := by
  rw [mul12_is, cf_same (by omega) (by omega), cf_same (by omega) (by omega)]
  have h := prod_le hu hv
  omega
theorem restN_in (x a : List Int) (n : Nat) : ∀ k : Nat, -(32768 + (k : Int) * 1048576) ≤ restN x a n k ∧ restN x a n k ≤ 32768 + (k : Int) * 1048576
  | 0 => by
    have := s16_in (x[n]?.getD 0)
    show -(32768 + ((0 : Nat) : Int) * 1048576) ≤ s16 (x[n]?.getD 0) ∧ s16 (x[n]?.getD 0) ≤ 32768 + ((0 : Nat) : Int) * 1048576
    omega
  | k + 1 => by
    have h := restN_in x a n k
    have hs := s16_in (x[n - 1 - k]?.getD 0)
    have h1 := rest_mul (c17_in (a[k]?.getD 0)) (v := s16 (x[n - 1 - k]?.getD 0)) (by omega)
    show -(32768 + ((k + 1 : Nat) : Int) * 1048576) ≤ restN x a n k - mulI (c17 (a[k]?.getD 0)) (s16 (x[n - 1 - k]?.getD 0)) 12 ∧ restN x a n k - mulI (c17 (a[k]?.getD 0)) (s16 (x[n - 1 - k]?.getD 0)) 12 ≤ 32768 + ((k + 1 : Nat) : Int) * 1048576
    omega
theorem mul12_zero_left (v : Int) : mulI 0 v 12 = 0 := by
  rw [mul12_is, show cf 0 = 0 from by decide, Int.zero_mul]
  decide
theorem mul12_zero_right (u : Int) : mulI u 0 12 = 0 := by
  rw [mul12_is, show cf 0 = 0 from by decide, Int.mul_zero]
  decide
theorem restN_none (x : List Int) {a : List Int} (h : ∀ k : Nat, a[k]?.getD 0 = 0) (n : Nat) : ∀ k, restN x a n k = s16 (x[n]?.getD 0)
  | 0 => rfl
  | k + 1 => by
    show restN x a n k - mulI (c17 (a[k]?.getD 0)) (s16 (x[n - 1 - k]?.getD 0)) 12 = _
    rw [restN_none x h n k, h k, show c17 0 = 0 from by decide, mul12_zero_left]
    omega
theorem restN_silent {x : List Int} (h : ∀ k : Nat, x[k]?.getD 0 = 0) (a : List Int) (n : Nat) : ∀ k, restN x a n k = 0
  | 0 => by
    show s16 (x[n]?.getD 0) = 0
    rw [h]
    decide
  | k + 1 => by
    show restN x a n k - mulI (c17 (a[k]?.getD 0)) (s16 (x[n - 1 - k]?.getD 0)) 12 = 0
    rw [restN_silent h a n k, h, show s16 0 = 0 from by decide, mul12_zero_right]
    decide
/-- With a filter of noughts all is left. -/
theorem rest_none {x a : List Int} (hx : ∀ i : Nat, -32768 ≤ x[i]?.getD 0 ∧ x[i]?.getD 0 ≤ 32767) (h : ∀ k : Nat, a[k]?.getD 0 = 0) : restL x a = x := by
  apply List.ext_getElem
  · rw [restL_len]
  · intro i h1 h2
    have e := restL_at (x := x) (a := a) h2
    rw [List.getElem?_eq_getElem h1] at e
    have e2 : restI x a i = x[i] := by
      unfold restI
      rw [restN_none x h, s16_same (hx i).1 (hx i).2, List.getElem?_eq_getElem h2]
      rfl
    rw [e2] at e
    exact e
theorem rest_silent (n : Nat) (a : List Int) : restL (List.replicate n 0) a = List.replicate n 0 := by
  have hz := zero_at n
  apply List.ext_getElem
  · rw [restL_len]
  · intro i h1 h2
    have e := restL_at (x := List.replicate n 0) (a := a) h2
    rw [List.getElem?_eq_getElem h1] at e
    have e2 : restI (List.replicate n 0) a i = 0 := restN_silent (hz) a i _
    rw [e2] at e
    rw [List.getElem_replicate]
    exact e

end Lev
end Go.Proofs.Ytjaccokmficfdaa
