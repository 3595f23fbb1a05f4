/- Frequencies as plain lists of numbers: kept apart, gone between, found. Nothing here is of any program. -/
import Derived.Test.YtklpicfeajmadaaTabsB
namespace Go.Proofs.Ytklpicfeajmadaa

/-- A number, kept from lo to hi. -/
def clZ (lo hi x : Int) : Int := if x < lo then lo else if hi < x then hi else x
/-- Each at least 250 more than the one ahead. -/
def atLeast (was x : Int) : Int := if x < was + 250 then was + 250 else x
/-- Each at most 250 less than the one behind. -/
def atMost (was x : Int) : Int := if was - 250 < x then was - 250 else x
def upZ : Int → List Int → List Int
  | _, [] => []
  | was, x :: l => atLeast was x :: upZ (atLeast was x) l
/-- Of a list laid backwards. -/
def dnZ : Int → List Int → List Int
  | _, [] => []
  | was, x :: l => atMost was x :: dnZ (atMost was x) l
def steadyZ (l : List Int) : List Int := (dnZ 32768 (upZ 0 (l.map (clZ 0 32768))).reverse).reverse

/-- It rises by 250 at least. -/
def Apart : Int → List Int → Prop
  | _, [] => True
  | was, x :: l => was + 250 ≤ x ∧ Apart x l
def Fall : Int → List Int → Prop
  | _, [] => True
  | was, x :: l => x ≤ was - 250 ∧ Fall x l
/-- Room for all that lie below (laid backwards). -/
def Tall : Nat → List Int → Prop
  | _, [] => True
  | c, x :: l => 250 * ((l.length : Int) + 1 + c) ≤ x ∧ Tall c l

theorem upZ_len : ∀ (l : List Int) (was : Int), (upZ was l).length = l.length
  | [], _ => rfl
  | x :: l, was => by show (upZ _ l).length + 1 = l.length + 1; rw [upZ_len l]
theorem dnZ_len : ∀ (l : List Int) (was : Int), (dnZ was l).length = l.length
  | [], _ => rfl
  | x :: l, was => by show (dnZ _ l).length + 1 = l.length + 1; rw [dnZ_len l]
theorem steadyZ_len (l : List Int) : (steadyZ l).length = l.length := by
  unfold steadyZ
  rw [List.length_reverse, dnZ_len, List.length_reverse, upZ_len, List.length_map]

theorem upZ_apart : ∀ (l : List Int) (was : Int), Apart was (upZ was l)
  | [], _ => trivial
  | x :: l, was => ⟨by unfold atLeast; split <;> omega, upZ_apart l _⟩
theorem dnZ_fall : ∀ (l : List Int) (was : Int), Fall was (dnZ was l)
  | [], _ => trivial
  | x :: l, was => ⟨by unfold atMost; split <;> omega, dnZ_fall l _⟩
theorem upZ_same : ∀ (l : List Int) (was : Int), Apart was l → upZ was l = l
  | [], _, _ => rfl
  | x :: l, was, h => by
    have hx : atLeast was x = x := by unfold atLeast; rw [if_neg (by have := h.1; omega)]
    show atLeast was x :: upZ (atLeast was x) l = _
    rw [hx, upZ_same l x h.2]
theorem dnZ_same : ∀ (l : List Int) (was : Int), Fall was l → dnZ was l = l
  | [], _, _ => rfl
  | x :: l, was, h => by
    have hx : atMost was x = x := by unfold atMost; rw [if_neg (by have := h.1; omega)]
    show atMost was x :: dnZ (atMost was x) l = _
    rw [hx, dnZ_same l x h.2]

theorem tall_snoc : ∀ (l : List Int) (c : Nat) (x : Int), Tall (c + 1) l → 250 * ((c : Int) + 1) ≤ x → Tall c (l ++ [x])
  | [], c, x, _, hx => ⟨by show 250 * (((0 : Nat) : Int) + 1 + (c : Int)) ≤ x; omega, trivial⟩
  | y :: l, c, x, h, hx => ⟨by have := h.1; show 250 * (((l ++ [x]).length : Int) + 1 + (c : Int)) ≤ y; rw [List.length_append, show [x].length = 1 from rfl]; omega, tall_snoc l c x h.2 hx⟩
theorem tall_of : ∀ (l : List Int) (c : Nat) (was : Int), 250 * (c : Int) ≤ was → Apart was l → Tall c l.reverse
  | [], _, _, _, _ => trivial
  | x :: l, c, was, h, ha => by
    rw [List.reverse_cons]
    exact tall_snoc _ _ _ (tall_of l (c + 1) x (by have := ha.1; omega) ha.2) (by have := ha.1; omega)
theorem dnZ_tall : ∀ (l : List Int) (was : Int), Tall 0 l → 250 * ((l.length : Int) + 1) ≤ was → Tall 0 (dnZ was l)
  | [], _, _, _ => trivial
  | x :: l, was, h, hw => by
    have h1 := h.1
    simp only [List.length_cons] at hw
    have hx : 250 * ((l.length : Int) + 1) ≤ atMost was x := by unfold atMost; split <;> omega
    refine ⟨?_, dnZ_tall l _ h.2 hx⟩
    rw [dnZ_len]
    omega

theorem apart_two : ∀ (a : List Int) (w y x : Int), Apart w (a ++ [y]) → y + 250 ≤ x → Apart w (a ++ [y] ++ [x])
  | [], _, _, _, h, hx => ⟨h.1, hx, trivial⟩
  | z :: a, _, y, x, h, hx => ⟨h.1, apart_two a z y x h.2 hx⟩
theorem fall_two : ∀ (a : List Int) (w y x : Int), Fall w (a ++ [y]) → x ≤ y - 250 → Fall w (a ++ [y] ++ [x])
  | [], _, _, _, h, hx => ⟨h.1, hx, trivial⟩
  | z :: a, _, y, x, h, hx => ⟨h.1, fall_two a z y x h.2 hx⟩
theorem apart_of : ∀ (l : List Int) (was : Int), Fall was l → Tall 0 l → Apart 0 l.reverse
  | [], _, _, _ => trivial
  | [x], _, _, ht => ⟨by have := ht.1; simp at this; omega, trivial⟩
  | x :: y :: l, was, hf, ht => by
    rw [List.reverse_cons, List.reverse_cons]
    have h1 := apart_of (y :: l) x hf.2 ht.2
    rw [List.reverse_cons] at h1
    exact apart_two _ _ _ _ h1 (by have := hf.2.1; omega)
theorem fall_of : ∀ (l : List Int) (was : Int), Apart was l → (∀ x ∈ l, x ≤ 32518) → Fall 32768 l.reverse
  | [], _, _, _ => trivial
  | [x], _, _, hb => ⟨by have := hb x (by simp); omega, trivial⟩
  | x :: y :: l, was, ha, hb => by
    rw [List.reverse_cons, List.reverse_cons]
    have h1 := fall_of (y :: l) x ha.2 (fun z hz => hb z (List.mem_cons_of_mem _ hz))
    rw [List.reverse_cons] at h1
    exact fall_two _ _ _ _ h1 (by have := ha.2.1; omega)
theorem fall_top : ∀ (l : List Int) (was : Int), Fall was l → ∀ x ∈ l, x ≤ was - 250
  | y :: l, was, h, x, hx => by
    rcases List.mem_cons.1 hx with rfl | h2
    · exact h.1
    · have := fall_top l y h.2 x h2; have := h.1; omega
theorem apart_low : ∀ (l : List Int) (was : Int), Apart was l → ∀ x ∈ l, was + 250 ≤ x
  | y :: l, was, h, x, hx => by
    rcases List.mem_cons.1 hx with rfl | h2
    · exact h.1
    · have := apart_low l y h.2 x h2; have := h.1; omega

/-- What is kept apart rises by 250 at least, within the bounds. -/
theorem steadyZ_apart {l : List Int} (h : l.length ≤ 64) : Apart 0 (steadyZ l) ∧ ∀ x ∈ steadyZ l, x ≤ 32518 := by
  have h1 : Tall 0 (upZ 0 (l.map (clZ 0 32768))).reverse := tall_of _ 0 0 (by omega) (upZ_apart _ 0)
  have h2 := dnZ_tall _ 32768 h1 (by rw [List.length_reverse, upZ_len, List.length_map]; omega)
  have h3 := dnZ_fall (upZ 0 (l.map (clZ 0 32768))).reverse 32768
  exact ⟨apart_of _ _ h3 h2, fun x hx => by have := fall_top _ _ h3 x (List.mem_reverse.1 hx); omega⟩
/-- What rises apart already stays as it is. -/
theorem steadyZ_same {l : List Int} (h : Apart 0 l) (hb : ∀ x ∈ l, x ≤ 32518) : steadyZ l = l := by
  have h1 : l.map (clZ 0 32768) = l := by
    rw [List.map_congr_left (g := id) fun x hx => ?_, List.map_id]
    have h2 := apart_low l 0 h x hx
    have h3 := hb x hx
    show clZ 0 32768 x = x
    unfold clZ
    rw [if_neg (by omega), if_neg (by omega)]
  unfold steadyZ
  rw [h1, upZ_same l 0 h, dnZ_same _ _ (fall_of l 0 h hb), List.reverse_reverse]
theorem steadyZ_again {l : List Int} (h : l.length ≤ 64) : steadyZ (steadyZ l) = steadyZ l :=
  steadyZ_same (steadyZ_apart h).1 (steadyZ_apart h).2

/-- The loop from the lowest on, midway: the first i done. -/
theorem upZ_append : ∀ (a b : List Int) (was : Int), upZ was (a ++ b) = upZ was a ++ upZ ((upZ was a).getLastD was) b
  | [], _, _ => rfl
  | x :: a, b, was => by
    show atLeast was x :: upZ (atLeast was x) (a ++ b) = _
    rw [upZ_append a b]
    show _ = atLeast was x :: (upZ (atLeast was x) a ++ upZ (((atLeast was x) :: upZ (atLeast was x) a).getLastD was) b)
    rw [List.getLastD_cons]

/-! ### The two loops, midway -/
theorem upZ_snoc (a : List Int) (x was : Int) : upZ was (a ++ [x]) = upZ was a ++ [atLeast ((upZ was a).getLastD was) x] := by rw [upZ_append]; rfl
theorem dnZ_append : ∀ (a b : List Int) (was : Int), dnZ was (a ++ b) = dnZ was a ++ dnZ ((dnZ was a).getLastD was) b
  | [], _, _ => rfl
  | x :: a, b, was => by
    show atMost was x :: dnZ (atMost was x) (a ++ b) = _
    rw [dnZ_append a b]
    show _ = atMost was x :: (dnZ (atMost was x) a ++ dnZ (((atMost was x) :: dnZ (atMost was x) a).getLastD was) b)
    rw [List.getLastD_cons]
theorem dnZ_snoc (a : List Int) (x was : Int) : dnZ was (a ++ [x]) = dnZ was a ++ [atMost ((dnZ was a).getLastD was) x] := by rw [dnZ_append]; rfl
theorem last_snoc : ∀ (a : List Int) (x d : Int), (a ++ [x]).getLastD d = x
  | [], _, _ => rfl
  | y :: a, x, d => by rw [List.cons_append, List.getLastD_cons]; exact last_snoc a x y
theorem take_snoc {l : List Int} {i : Nat} (h : i < l.length) : l.take (i + 1) = l.take i ++ [l[i]?.getD 0] := by
  rw [List.getElem?_eq_getElem h]
  exact List.take_succ_eq_append_getElem h
theorem drop_cons {l : List Int} {i : Nat} (h : i < l.length) : l.drop i = l[i]?.getD 0 :: l.drop (i + 1) := by
  rw [List.getElem?_eq_getElem h]
  exact List.drop_eq_getElem_cons h

/-- The first i done, from the lowest on. -/
def midUp (c : List Int) (i : Nat) : List Int := upZ 0 (c.take i) ++ c.drop i
def lastUp (c : List Int) (i : Nat) : Int := (upZ 0 (c.take i)).getLastD 0
theorem midUp_len (c : List Int) (i : Nat) : (midUp c i).length = c.length := by
  unfold midUp
  rw [List.length_append, upZ_len, List.length_take, List.length_drop]
  omega
theorem midUp_zero (c : List Int) : midUp c 0 = c := rfl
theorem lastUp_zero (c : List Int) : lastUp c 0 = 0 := rfl
theorem midUp_all {c : List Int} {n : Nat} (h : c.length = n) : midUp c n = upZ 0 c := by
  unfold midUp
  rw [List.take_of_length_le (by omega), List.drop_eq_nil_of_le (by omega), List.append_nil]
theorem lastUp_step {c : List Int} {i : Nat} (h : i < c.length) : lastUp c (i + 1) = atLeast (lastUp c i) (c[i]?.getD 0) := by
  unfold lastUp
  rw [take_snoc h, upZ_snoc, last_snoc]
theorem midUp_at {c : List Int} {i j : Nat} (h : i ≤ j) (hj : j < c.length) : (midUp c i)[j]?.getD 0 = c[j]?.getD 0 := by
  unfold midUp
  rw [List.getElem?_append_right (by rw [upZ_len, List.length_take]; omega), upZ_len, List.length_take, List.getElem?_drop, show i + (j - min i c.length) = j by omega]
theorem set_mid (a b : List Int) (x y : Int) {n : Nat} (h : a.length = n) : (a ++ x :: b).set n y = a ++ y :: b := by
  subst h
  simp
theorem midUp_step {c : List Int} {i : Nat} (h : i < c.length) : midUp c (i + 1) = (midUp c i).set i (atLeast (lastUp c i) (c[i]?.getD 0)) := by
  unfold midUp
  rw [take_snoc h, upZ_snoc, drop_cons h, set_mid _ _ _ _ (by rw [upZ_len, List.length_take]; omega), List.append_assoc]
  rfl
theorem atLeast_in {was x lo : Int} (h : was + 250 ≤ lo) (hx : x ≤ lo) : atLeast was x ≤ lo ∧ was + 250 ≤ atLeast was x := by
  unfold atLeast; split <;> omega
theorem lastUp_in {c : List Int} (hc : ∀ x ∈ c, x ≤ 32768) : ∀ i, i ≤ c.length → 0 ≤ lastUp c i ∧ lastUp c i ≤ 32768 + 250 * (i : Int)
  | 0, _ => by rw [lastUp_zero]; omega
  | i + 1, h => by
    have h1 := lastUp_in hc i (by omega)
    have h2 : c[i]?.getD 0 ≤ 32768 := hc _ (by rw [List.getElem?_eq_getElem (by omega)]; exact List.getElem_mem _)
    rw [lastUp_step (by omega)]
    have h3 := atLeast_in (was := lastUp c i) (x := c[i]?.getD 0) (lo := 32768 + 250 * ((i : Int) + 1)) (by omega) (by omega)
    omega

/-- All from j on done, from the highest down. -/
def midDn (u : List Int) (j : Nat) : List Int := u.take j ++ (dnZ 32768 (u.drop j).reverse).reverse
def lastDn (u : List Int) (j : Nat) : Int := (dnZ 32768 (u.drop j).reverse).getLastD 32768
theorem midDn_len (u : List Int) (j : Nat) : (midDn u j).length = u.length := by
  unfold midDn
  rw [List.length_append, List.length_reverse, dnZ_len, List.length_reverse, List.length_take, List.length_drop]
  omega
theorem midDn_all {u : List Int} {n : Nat} (h : u.length = n) : midDn u n = u := by
  unfold midDn
  rw [List.take_of_length_le (by omega), List.drop_eq_nil_of_le (by omega)]
  exact List.append_nil u
theorem lastDn_all {u : List Int} {n : Nat} (h : u.length = n) : lastDn u n = 32768 := by
  unfold lastDn
  rw [List.drop_eq_nil_of_le (by omega)]
  rfl
theorem midDn_zero (u : List Int) : midDn u 0 = (dnZ 32768 u.reverse).reverse := rfl
theorem lastDn_step {u : List Int} {j : Nat} (h : j < u.length) : lastDn u j = atMost (lastDn u (j + 1)) (u[j]?.getD 0) := by
  unfold lastDn
  rw [drop_cons h, List.reverse_cons, dnZ_snoc, last_snoc]
theorem midDn_at {u : List Int} {j t : Nat} (h : t < j) (hj : j ≤ u.length) : (midDn u j)[t]?.getD 0 = u[t]?.getD 0 := by
  unfold midDn
  rw [List.getElem?_append_left (by rw [List.length_take]; omega), List.getElem?_take_of_lt h]
theorem midDn_step {u : List Int} {j : Nat} (h : j < u.length) : midDn u j = (midDn u (j + 1)).set j (atMost (lastDn u (j + 1)) (u[j]?.getD 0)) := by
  unfold midDn
  rw [take_snoc h, List.append_assoc]
  show _ = (u.take j ++ (u[j]?.getD 0 :: (dnZ 32768 (u.drop (j + 1)).reverse).reverse)).set j _
  rw [set_mid _ _ _ _ (by rw [List.length_take]; omega), drop_cons h, List.reverse_cons, dnZ_snoc, List.reverse_append]
  rfl
theorem atMost_in {was x lo : Int} (h : lo + 250 ≤ was) (hx : lo ≤ x) : lo ≤ atMost was x ∧ atMost was x ≤ was - 250 := by
  unfold atMost; split <;> omega
theorem lastDn_in {u : List Int} (hu : ∀ x ∈ u, 0 ≤ x) : ∀ k j, j + k = u.length → -(250 * (k : Int)) ≤ lastDn u j ∧ lastDn u j ≤ 32768
  | 0, j, h => by rw [lastDn_all (n := j) (by omega)]; omega
  | k + 1, j, h => by
    have h1 := lastDn_in hu k (j + 1) (by omega)
    have h2 : 0 ≤ u[j]?.getD 0 := hu _ (by rw [List.getElem?_eq_getElem (by omega)]; exact List.getElem_mem _)
    rw [lastDn_step (by omega)]
    have h3 := atMost_in (was := lastDn u (j + 1)) (x := u[j]?.getD 0) (lo := -(250 * ((k : Int) + 1))) (by omega) (by omega)
    omega
theorem upZ_low : ∀ (l : List Int) (was : Int), 0 ≤ was → ∀ x ∈ upZ was l, 0 ≤ x := fun l was h x hx => by
  have := apart_low _ _ (upZ_apart l was) x hx
  omega
theorem steadyZ_is (l : List Int) : steadyZ l = midDn (upZ 0 (l.map (clZ 0 32768))) 0 := rfl

/-- What lies between. -/
def betweenZ (a b w : Int) : Int := clZ 0 32768 a + (clZ 0 32768 b - clZ 0 32768 a) * w / 4
theorem betweenZ_at {a b : Int} (ha : 0 ≤ a ∧ a ≤ 32768) (hb : 0 ≤ b ∧ b ≤ 32768) : betweenZ a b 0 = a ∧ betweenZ a b 4 = b := by
  unfold betweenZ clZ
  rw [if_neg (by omega), if_neg (by omega), if_neg (by omega), if_neg (by omega)]
  omega
theorem betweenZ_in {a b w : Int} (ha : 0 ≤ a ∧ a ≤ 32768) (hb : 0 ≤ b ∧ b ≤ 32768) (hw : 0 ≤ w ∧ w ≤ 4) : (a ≤ b → a ≤ betweenZ a b w ∧ betweenZ a b w ≤ b) ∧ (b ≤ a → b ≤ betweenZ a b w ∧ betweenZ a b w ≤ a) := by
  unfold betweenZ clZ
  rw [if_neg (by omega), if_neg (by omega), if_neg (by omega), if_neg (by omega)]
  have : w = 0 ∨ w = 1 ∨ w = 2 ∨ w = 3 ∨ w = 4 := by omega
  rcases this with rfl | rfl | rfl | rfl | rfl <;> omega

/-- The second table's number for a difference d. -/
def twoZ (f d : Int) : Int := clZ (-4) 4 ((d + f / 2) / f)
theorem twoZ_in (f d : Int) : -4 ≤ twoZ f d ∧ twoZ f d ≤ 4 := by
  unfold twoZ clZ
  split
  · omega
  · split <;> omega
theorem twoZ_near (f d : Int) (hf : f = 400 ∨ f = 250) : (f * twoZ f d - d).natAbs ≤ d.natAbs := by
  unfold twoZ clZ
  rcases hf with rfl | rfl
  · split
    · omega
    · split <;> omega
  · split
    · omega
    · split <;> omega
theorem twoZ_zero (f : Int) (hf : f = 400 ∨ f = 250) : twoZ f 0 = 0 := by
  rcases hf with rfl | rfl <;> decide

/-- Squares of differences, summed up. -/
def sqN (a b : Nat → Int) : Nat → Int
  | 0 => 0
  | k + 1 => sqN a b k + (a k - b k) * (a k - b k)
theorem sq_nonneg (x : Int) : 0 ≤ x * x := by
  rcases Int.le_total 0 x with h | h
  · exact Int.mul_nonneg h h
  · have := Int.mul_nonneg (a := -x) (b := -x) (by omega) (by omega)
    rwa [Int.neg_mul_neg] at this
theorem sq_le {x : Int} (h : -32768 ≤ x) (h2 : x ≤ 32768) : x * x ≤ 1073741824 := by
  have h3 : (x.natAbs * x.natAbs : Nat) ≤ 32768 * 32768 := Nat.mul_le_mul (by omega) (by omega)
  have h4 : x * x = ((x.natAbs * x.natAbs : Nat) : Int) := by rw [Int.natAbs_mul_self]
  omega
theorem sq_zero {x : Int} (h : x * x = 0) : x = 0 := by
  rcases Int.mul_eq_zero.1 h with h | h <;> exact h
theorem sqN_nonneg (a b : Nat → Int) : ∀ n, 0 ≤ sqN a b n
  | 0 => Int.le_refl 0
  | n + 1 => Int.add_nonneg (sqN_nonneg a b n) (sq_nonneg _)
theorem sqN_le {a b : Nat → Int} : ∀ n, (∀ k, k < n → -32768 ≤ a k - b k ∧ a k - b k ≤ 32768) → sqN a b n ≤ 1073741824 * (n : Int)
  | 0, _ => Int.le_refl 0
  | n + 1, h => by
    have h1 := sqN_le n (fun k hk => h k (by omega))
    have h2 := sq_le (h n (by omega)).1 (h n (by omega)).2
    show sqN a b n + (a n - b n) * (a n - b n) ≤ _
    omega
theorem sqN_zero {a b : Nat → Int} : ∀ n, sqN a b n = 0 → ∀ k, k < n → a k = b k
  | 0, _, k, hk => absurd hk (Nat.not_lt_zero k)
  | n + 1, h, k, hk => by
    have h0 : sqN a b n + (a n - b n) * (a n - b n) = 0 := h
    have h1 := sqN_nonneg a b n
    have h2 := sq_nonneg (a n - b n)
    rcases Nat.lt_succ_iff_lt_or_eq.1 hk with h3 | rfl
    · exact sqN_zero n (by omega) k h3
    · have := sq_zero (x := a k - b k) (by omega); omega
theorem sqN_same {a b : Nat → Int} : ∀ n, (∀ k, k < n → a k = b k) → sqN a b n = 0
  | 0, _ => rfl
  | n + 1, h => by
    show sqN a b n + (a n - b n) * (a n - b n) = 0
    rw [sqN_same n (fun k hk => h k (by omega)), h n (by omega), Int.sub_self]
    rfl

/-- The least of several, the first where they are alike. -/
def bestN (f : Nat → Int) : Nat → Nat
  | 0 => 0
  | n + 1 => if f n < f (bestN f n) then n else bestN f n
theorem bestN_step (f : Nat → Int) (n : Nat) : bestN f (n + 1) = if f n < f (bestN f n) then n else bestN f n := rfl
theorem bestN_lt (f : Nat → Int) : ∀ n, bestN f (n + 1) < n + 1
  | 0 => by rw [bestN_step]; split <;> simp [bestN]
  | n + 1 => by have := bestN_lt f n; rw [bestN_step]; split <;> omega
theorem bestN_le (f : Nat → Int) : ∀ n j, j < n → f (bestN f n) ≤ f j
  | 0, j, hj => absurd hj (Nat.not_lt_zero j)
  | n + 1, j, hj => by
    rw [bestN_step]
    rcases Nat.lt_succ_iff_lt_or_eq.1 hj with h | rfl
    · have := bestN_le f n j h
      split <;> omega
    · split <;> omega
theorem bestN_first (f : Nat → Int) : ∀ n j, j < bestN f n → f (bestN f n) < f j
  | 0, j, hj => absurd hj (Nat.not_lt_zero j)
  | n + 1, j, hj => by
    rw [bestN_step] at hj ⊢
    split at hj
    · rename_i h
      rw [if_pos h]
      have := bestN_le f n j hj
      omega
    · rename_i h
      rw [if_neg h]
      exact bestN_first f n j hj
/-- There is only one such. -/
theorem bestN_is {f : Nat → Int} {n b : Nat} (hb : b < n) (h1 : ∀ j, j < n → f b ≤ f j) (h2 : ∀ j, j < b → f b < f j) : bestN f n = b := by
  obtain ⟨m, rfl⟩ : ∃ m, n = m + 1 := ⟨n - 1, by omega⟩
  have h3 := bestN_lt f m
  have h4 := bestN_le f (m + 1) b hb
  have h5 := h1 _ h3
  rcases Nat.lt_trichotomy (bestN f (m + 1)) b with h | h | h
  · have := h2 _ h; omega
  · exact h
  · have := bestN_first f (m + 1) b h; omega

end Go.Proofs.Ytklpicfeajmadaa
