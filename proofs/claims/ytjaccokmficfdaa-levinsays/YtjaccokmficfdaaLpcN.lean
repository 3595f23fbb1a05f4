/- Frequencies that become a filter, as plain lists of numbers: the two polynomials, what they come to, bounds of all that is reckoned. Nothing here is of any program. -/
import Derived.Test.YtjaccokmficfdaaLpcM
namespace Go.Proofs.Ytjaccokmficfdaa

def atZ (l : List Int) (k : Nat) : Int := l[k]?.getD 0
/-- One number more taken into a polynomial (of f.length - 1 numbers so far). -/
def polyAt (y : Int) (f : List Int) (n : Nat) : Int :=
  if n = 0 then atZ f 0 else if n = 1 then atZ f 1 - y else if n = f.length then 2 * atZ f (n - 2) - mulI y (atZ f (n - 1)) 16 else atZ f n + atZ f (n - 2) - mulI y (atZ f (n - 1)) 16
def polyS (y : Int) (f : List Int) : List Int := (List.range (f.length + 1)).map (polyAt y f)
theorem polyS_len (y : Int) (f : List Int) : (polyS y f).length = f.length + 1 := by unfold polyS; rw [List.length_map, List.length_range]
theorem polyS_at {y : Int} {f : List Int} {n : Nat} (h : n ≤ f.length) : atZ (polyS y f) n = polyAt y f n := by
  unfold polyS atZ
  rw [List.getElem?_map, List.getElem?_range (by omega)]
  rfl
def polyK (ys : List Int) : Nat → List Int
  | 0 => [65536, -(atZ ys 0)]
  | j + 1 => polyS (atZ ys (j + 1)) (polyK ys j)
theorem polyK_len (ys : List Int) : ∀ j, (polyK ys j).length = j + 2
  | 0 => rfl
  | j + 1 => by show (polyS _ _).length = _; rw [polyS_len, polyK_len ys j]
def polyZ (ys : List Int) : List Int := polyK ys (ys.length - 1)
theorem polyZ_len {ys : List Int} (h : 0 < ys.length) : (polyZ ys).length = ys.length + 1 := by unfold polyZ; rw [polyK_len]; omega

/-- Bounds. -/
theorem mul16_in {y x B : Int} (hB : 0 ≤ B) (hy : -262148 ≤ y ∧ y ≤ 262148) (hx : -B ≤ x ∧ x ≤ B) : -(5 * B + 1) ≤ mulI y x 16 ∧ mulI y x 16 ≤ 5 * B + 1 := by
  have hc : -B ≤ cf x ∧ cf x ≤ B := by
    unfold cf clampI
    split
    · omega
    · rw [if_neg (by decide)]
      split <;> omega
  have h := prod_le (p := 262148) (q := B) (x := y) (y := cf x) ⟨by omega, hy.2⟩ hc
  rw [mul16_is, cf_same (a := y) (by omega) (by omega)]
  omega
def Bnd (B : Int) (f : List Int) : Prop := ∀ k, -B ≤ atZ f k ∧ atZ f k ≤ B
theorem bnd_of {B : Int} {f : List Int} (h0 : 0 ≤ B) (h : ∀ x ∈ f, -B ≤ x ∧ x ≤ B) : Bnd B f := fun k => by
  unfold atZ
  rcases Nat.lt_or_ge k f.length with hk | hk
  · exact h _ (mem_at hk)
  · rw [List.getElem?_eq_none hk]
    show -B ≤ (0 : Int) ∧ (0 : Int) ≤ B
    omega
theorem polyAt_in {y B : Int} {f : List Int} (h0 : 0 ≤ B) (hy : -262148 ≤ y ∧ y ≤ 262148) (hf : Bnd B f) (n : Nat) : -(7 * B + 262148) ≤ polyAt y f n ∧ polyAt y f n ≤ 7 * B + 262148 := by
  have a0 := hf 0
  have a1 := hf 1
  have a2 := hf n
  have a3 := hf (n - 2)
  have a4 := mul16_in h0 hy (hf (n - 1))
  unfold polyAt
  split
  · omega
  · split
    · omega
    · split <;> omega
theorem polyS_bnd {y B : Int} {f : List Int} (h0 : 0 ≤ B) (hy : -262148 ≤ y ∧ y ≤ 262148) (hf : Bnd B f) : Bnd (7 * B + 262148) (polyS y f) :=
  bnd_of (by omega) fun x hx => by
    obtain ⟨n, _, rfl⟩ := List.mem_map.1 hx
    exact polyAt_in h0 hy hf n
def bndN : Nat → Int
  | 0 => 262148
  | j + 1 => 7 * bndN j + 262148
theorem bndN_in : ∀ j, 262148 ≤ bndN j
  | 0 => Int.le_refl _
  | j + 1 => by have := bndN_in j; show 262148 ≤ 7 * bndN j + 262148; omega
theorem polyK_bnd {ys : List Int} (hy : Bnd 262148 ys) : ∀ j, Bnd (bndN j) (polyK ys j)
  | 0 => bnd_of (by decide) fun x hx => by
    have h := hy 0
    have hx' : x = 65536 ∨ x = -(atZ ys 0) := by simpa [polyK] using hx
    show -262148 ≤ x ∧ x ≤ 262148
    omega
  | j + 1 => polyS_bnd (by have := bndN_in j; omega) (hy (j + 1)) (polyK_bnd hy j)
theorem bndN_seven : bndN 7 = 251871798400 := by decide
theorem bndN_mono : ∀ j k, j ≤ k → bndN j ≤ bndN k
  | j, 0, h => by obtain rfl : j = 0 := by omega
                  exact Int.le_refl _
  | j, k + 1, h => by
    rcases Nat.lt_or_ge k j with h1 | h1
    · obtain rfl : j = k + 1 := by omega
      exact Int.le_refl _
    · have h2 := bndN_mono j k h1
      have h3 := bndN_in k
      show bndN j ≤ 7 * bndN k + 262148
      omega

theorem wave_in (x : Int) : -262148 ≤ 4 * cosI x ∧ 4 * cosI x ≤ 262148 := by
  have h : ∀ y, -65537 ≤ halfI y ∧ halfI y ≤ 65537 := fun y => by
    unfold halfI
    split
    · have := quarterI_in (32768 - y); omega
    · exact quarterI_in y
  have h2 := h (if 32768 < x % 65536 then 65536 - x % 65536 else x % 65536)
  show -262148 ≤ 4 * halfI _ ∧ 4 * halfI _ ≤ 262148
  omega

/-! ### From -/
def waveZ (l : List Int) (k : Nat) : Int := 4 * cosI (clampI (atZ l k) 0 32768)
def evensZ (l : List Int) : List Int := (List.range (l.length / 2)).map fun j => waveZ l (2 * j)
def oddsZ (l : List Int) : List Int := (List.range (l.length / 2)).map fun j => waveZ l (2 * j + 1)
def lowZ (p q : List Int) (k : Nat) : Int := mulI (-(atZ q (k + 1) - atZ q k) - (atZ p (k + 1) + atZ p k)) 1 5
def highZ (p q : List Int) (k : Nat) : Int := mulI ((atZ q (k + 1) - atZ q k) - (atZ p (k + 1) + atZ p k)) 1 5
def fromP (p q : List Int) (n : Nat) : List Int := (List.range n).map fun i => if i < n / 2 then lowZ p q i else highZ p q (n - 1 - i)
def fromZ (l : List Int) : List Int := fitZ (fromP (polyZ (evensZ l)) (polyZ (oddsZ l)) l.length)
theorem fromP_len (p q : List Int) (n : Nat) : (fromP p q n).length = n := by unfold fromP; rw [List.length_map, List.length_range]
theorem fromZ_len {l : List Int} (h : l.length ≤ 32) : (fromZ l).length = l.length := by
  unfold fromZ
  rw [fitZ_len (by rw [fromP_len]; exact h), fromP_len]
theorem fromZ_stable {l : List Int} (h : l.length ≤ 32) : stableZ (fromZ l) = true := fitZ_stable (by rw [fromP_len]; exact h)
theorem fromZ_again {l : List Int} (h : l.length ≤ 32) : fitZ (fromZ l) = fromZ l := fitZ_again (by rw [fromP_len]; exact h)
theorem fromZ_within (l : List Int) : Within (fromZ l) := fitZ_within _

def flatZ (n : Nat) : List Int := (List.range n).map fun (k : Nat) => 32768 * ((k : Int) + 1) / ((n : Int) + 1)
def smallB (l : List Int) : Bool := l.all fun x => decide (-200 ≤ x ∧ x ≤ 200)
theorem flat_ten : smallB (fromZ (flatZ 10)) = true := by decide +kernel
theorem flat_sixteen : smallB (fromZ (flatZ 16)) = true := by decide +kernel

end Go.Proofs.Ytjaccokmficfdaa
