/- A sound of which each sample is a part of the one ahead is foretold by about that part. Nothing here is of any program. -/
import Derived.Test.YtjaccokmficfdaaLevinN
namespace Go.Proofs.Ytjaccokmficfdaa
namespace Lev

def partX (p : Int) : Nat → Int
  | 0 => 30000
  | k + 1 => (partX p k * p).tdiv 4096
def partL (p : Int) (n : Nat) : List Int := (List.range n).map (partX p)
theorem partL_len (p : Int) (n : Nat) : (partL p n).length = n := by unfold partL; rw [List.length_map, List.length_range]
theorem partL_at {p : Int} {n i : Nat} (h : i < n) : (partL p n)[i]?.getD 0 = partX p i := by
  unfold partL
  rw [List.getElem?_map, List.getElem?_range h]
  rfl

section
variable {p : Int}
theorem partX_abs (p : Int) (k : Nat) : (partX p (k + 1)).natAbs = (partX p k).natAbs * p.natAbs / 4096 := by
  show ((partX p k * p).tdiv 4096).natAbs = _
  rw [Int.natAbs_tdiv, Int.natAbs_mul]
  rfl
theorem partX_less (hp : p.natAbs ≤ 3686) (k : Nat) : 10 * (partX p (k + 1)).natAbs ≤ 9 * (partX p k).natAbs := by
  rw [partX_abs]
  have h1 : (partX p k).natAbs * p.natAbs ≤ (partX p k).natAbs * 3686 := Nat.mul_le_mul_left _ hp
  have h2 : (partX p k).natAbs * p.natAbs / 4096 ≤ (partX p k).natAbs * 3686 / 4096 := Nat.div_le_div_right h1
  omega
theorem partX_in (hp : p.natAbs ≤ 3686) : ∀ k, (partX p k).natAbs ≤ 30000
  | 0 => Nat.le_refl _
  | k + 1 => by
    have h1 := partX_in hp k
    have h2 := partX_less hp k
    omega
def fallN : Nat → Nat
  | 0 => 30000
  | k + 1 => 9 * fallN k / 10
theorem partX_fall (hp : p.natAbs ≤ 3686) : ∀ k, (partX p k).natAbs ≤ fallN k
  | 0 => Nat.le_refl _
  | k + 1 => by
    have h1 := partX_fall hp k
    have h2 := partX_less hp k
    show _ ≤ 9 * fallN k / 10
    omega
theorem fallN_end : ∀ j, fallN (199 + j) = 0
  | 0 => by decide +kernel
  | j + 1 => by
    show 9 * fallN (199 + j) / 10 = 0
    rw [fallN_end j]
theorem partX_end (hp : p.natAbs ≤ 3686) {k : Nat} (h : 199 ≤ k) : partX p k = 0 := by
  have h1 := partX_fall hp k
  obtain ⟨j, rfl⟩ : ∃ j, k = 199 + j := ⟨k - 199, by omega⟩
  rw [fallN_end] at h1
  omega

/-- The samples' sum without signs, of their squares, of each with the one ahead. -/
def absN (p : Int) : Nat → Nat
  | 0 => 0
  | k + 1 => absN p k + (partX p k).natAbs
def sqN (p : Int) : Nat → Int
  | 0 => 0
  | k + 1 => sqN p k + partX p k * partX p k
def byN (p : Int) : Nat → Int
  | 0 => 0
  | k + 1 => byN p k + partX p (k + 1) * partX p k
theorem absN_in (hp : p.natAbs ≤ 3686) : ∀ k, absN p k + 10 * (partX p k).natAbs ≤ 300000
  | 0 => by
    show 0 + 10 * (30000 : Int).natAbs ≤ 300000
    omega
  | k + 1 => by
    have h1 := absN_in hp k
    have h2 := partX_less hp k
    show absN p k + (partX p k).natAbs + 10 * (partX p (k + 1)).natAbs ≤ 300000
    omega
theorem sqN_in (hp : p.natAbs ≤ 3686) : ∀ k, 0 ≤ sqN p k ∧ sqN p k ≤ 30000 * (absN p k : Int)
  | 0 => by
    show (0 : Int) ≤ 0 ∧ (0 : Int) ≤ 30000 * ((0 : Nat) : Int)
    omega
  | k + 1 => by
    have h1 := sqN_in hp k
    have h2 := partX_in hp k
    have h3 : (partX p k).natAbs * (partX p k).natAbs ≤ 30000 * (partX p k).natAbs := Nat.mul_le_mul_right _ h2
    have h4 : partX p k * partX p k = (((partX p k).natAbs * (partX p k).natAbs : Nat) : Int) := Int.natAbs_mul_self.symm
    show 0 ≤ sqN p k + partX p k * partX p k ∧ sqN p k + partX p k * partX p k ≤ 30000 * ((absN p k + (partX p k).natAbs : Nat) : Int)
    rw [h4]
    omega
theorem sqN_first (hp : p.natAbs ≤ 3686) : ∀ k, 900000000 ≤ sqN p (k + 1)
  | 0 => by
    show (900000000 : Int) ≤ 0 + 30000 * 30000
    omega
  | k + 1 => by
    have h1 := sqN_first hp k
    have h2 := sq_nonneg (partX p (k + 1))
    show 900000000 ≤ sqN p (k + 1) + partX p (k + 1) * partX p (k + 1)
    omega
theorem by_step (p : Int) (k : Nat) : ∃ E : Int, 4096 * (partX p (k + 1) * partX p k) = p * (partX p k * partX p k) - E ∧ E ≤ 4095 * ((partX p k).natAbs : Int) ∧ -(4095 * ((partX p k).natAbs : Int)) ≤ E := by
  have h1 : 4096 * (partX p k * p).tdiv 4096 + (partX p k * p).tmod 4096 = partX p k * p := Int.mul_tdiv_add_tmod _ _
  have h2 : ((partX p k * p).tmod 4096).natAbs < 4096 := by
    rw [Int.natAbs_tmod]
    exact Nat.mod_lt _ (by decide)
  refine ⟨(partX p k * p).tmod 4096 * partX p k, ?_, ?_⟩
  · show 4096 * ((partX p k * p).tdiv 4096 * partX p k) = _
    generalize (partX p k * p).tdiv 4096 = t at *
    generalize (partX p k * p).tmod 4096 = m at *
    have e : (4096 * t + m) * partX p k = partX p k * p * partX p k := by rw [h1]
    rw [Int.add_mul, Int.mul_assoc, Int.mul_assoc] at e
    have e2 : partX p k * (p * partX p k) = p * (partX p k * partX p k) := Int.mul_left_comm _ _ _
    rw [e2] at e
    omega
  · have h3 : ((partX p k * p).tmod 4096 * partX p k).natAbs ≤ 4095 * (partX p k).natAbs := by
      rw [Int.natAbs_mul]
      exact Nat.mul_le_mul_right _ (by omega)
    omega
theorem by_in (p : Int) : ∀ k, 4096 * byN p k - p * sqN p k ≤ 4095 * (absN p k : Int) ∧ -(4095 * (absN p k : Int)) ≤ 4096 * byN p k - p * sqN p k
  | 0 => by
    show 4096 * (0 : Int) - p * 0 ≤ 4095 * ((0 : Nat) : Int) ∧ -(4095 * ((0 : Nat) : Int)) ≤ 4096 * (0 : Int) - p * 0
    rw [Int.mul_zero]
    omega
  | k + 1 => by
    have h1 := by_in p k
    obtain ⟨E, h2, h3, h4⟩ := by_step p k
    show 4096 * (byN p k + partX p (k + 1) * partX p k) - p * (sqN p k + partX p k * partX p k) ≤ 4095 * ((absN p k + (partX p k).natAbs : Nat) : Int) ∧ -(4095 * ((absN p k + (partX p k).natAbs : Nat) : Int)) ≤ 4096 * (byN p k + partX p (k + 1) * partX p k) - p * (sqN p k + partX p k * partX p k)
    rw [Int.mul_add 4096, Int.mul_add p, h2]
    omega

/-- What the sound's own two numbers are. -/
theorem part_s16 (hp : p.natAbs ≤ 3686) {n i : Nat} (h : i < n) : s16 ((partL p n)[i]?.getD 0) = partX p i := by
  have := partX_in hp i
  rw [partL_at h]
  exact s16_same (by omega) (by omega)
theorem part_zero (hp : p.natAbs ≤ 3686) (n : Nat) : autoI (partL p n) 0 = sqN p n := by
  rw [auto_zero, partL_len]
  have h : ∀ m, m ≤ n → sqI (partL p n) 0 m = sqN p m := fun m => by
    induction m with
    | zero => intro _; rfl
    | succ m ih =>
      intro hm
      show sqI (partL p n) 0 m + s16 ((partL p n)[0 + m]?.getD 0) * s16 ((partL p n)[0 + m]?.getD 0) = sqN p m + partX p m * partX p m
      rw [ih (by omega), Nat.zero_add, part_s16 hp (by omega)]
  exact h n (Nat.le_refl _)
theorem part_one (hp : p.natAbs ≤ 3686) (n : Nat) : autoI (partL p (n + 1)) 1 = byN p n := by
  unfold autoI
  rw [partL_len, show n + 1 - 1 = n by omega]
  have h : ∀ m, m ≤ n → corrI (partL p (n + 1)) 1 1 m = byN p m := fun m => by
    induction m with
    | zero => intro _; rfl
    | succ m ih =>
      intro hm
      show corrI (partL p (n + 1)) 1 1 m + s16 ((partL p (n + 1))[1 + m]?.getD 0) * s16 ((partL p (n + 1))[1 + m - 1]?.getD 0) = byN p m + partX p (m + 1) * partX p m
      rw [ih (by omega), show 1 + m - 1 = m by omega, show 1 + m = m + 1 by omega, part_s16 hp (by omega), part_s16 hp (by omega)]
  exact h n (Nat.le_refl _)

/-- About the part, in the two numbers themselves. -/
theorem part_two (hp : p.natAbs ≤ 3686) {n : Nat} (h1 : 200 ≤ n) : ∃ r0 r1 : Int, autoL (partL p n) 1 = [r0, r1] ∧ 900000000 ≤ r0 ∧ r0 ≤ 9000000000 ∧ 4096 * r1 - p * r0 ≤ 1228500000 ∧ -1228500000 ≤ 4096 * r1 - p * r0 := by
  obtain ⟨m, rfl⟩ : ∃ m, n = m + 1 := ⟨n - 1, by omega⟩
  have e0 : sqN p (m + 1) = sqN p m := by
    show sqN p m + partX p m * partX p m = sqN p m
    rw [partX_end hp (by omega)]
    omega
  have h2 := by_in p m
  have h3 := absN_in hp m
  have h4 := sqN_in hp m
  have h5 := sqN_first hp m
  refine ⟨sqN p m, byN p m, ?_, by omega, by omega, by omega, by omega⟩
  show [autoI (partL p (m + 1)) 0, autoI (partL p (m + 1)) 1] = _
  rw [part_zero hp, part_one hp, e0]

/-- Halved as long as it is too great: still about the part. -/
theorem part_half (hp : p.natAbs ≤ 3686) : ∀ (m : Nat) (r0 r1 : Int), 536870912 ≤ r0 → r0 < 1073741824 * 2 ^ m → 4096 * r1 - p * r0 ≤ 1300000000 → -1300000000 ≤ 4096 * r1 - p * r0 →
    ∃ q0 q1 : Int, dnN m [r0, r1] = [q0, q1] ∧ 536870912 ≤ q0 ∧ q0 < 1073741824 ∧ 4096 * q1 - p * q0 ≤ 1300000000 ∧ -1300000000 ≤ 4096 * q1 - p * q0
  | 0, r0, r1, h1, h2, h3, h4 => by
    rw [Int.pow_zero, Int.mul_one] at h2
    exact ⟨r0, r1, rfl, h1, h2, h3, h4⟩
  | m + 1, r0, r1, h1, h2, h3, h4 => by
    by_cases hs : r0 < 1073741824
    · exact ⟨r0, r1, dnN_stop hs, h1, hs, h3, h4⟩
    · rw [dnN_step (r := [r0, r1]) hs]
      rw [Int.pow_succ] at h2
      obtain ⟨a, ha⟩ : ∃ a, r0 / 2 = a := ⟨_, rfl⟩
      obtain ⟨b, hb⟩ : ∃ b, r1 / 2 = b := ⟨_, rfl⟩
      have e : hlfL [r0, r1] = [a, b] := by rw [← ha, ← hb]; rfl
      rw [e]
      have hr : r0 = 2 * a ∨ r0 = 2 * a + 1 := by omega
      have hpr : p * r0 = 2 * (p * a) ∨ p * r0 = 2 * (p * a) + p := by
        rcases hr with hr | hr
        · left
          rw [hr, Int.mul_left_comm]
        · right
          rw [hr, Int.mul_add, Int.mul_left_comm, Int.mul_one]
      refine part_half hp m a b (by omega) (by omega) ?_ ?_
      · rcases hpr with hpr | hpr <;> (rw [hpr] at h3 h4; omega)
      · rcases hpr with hpr | hpr <;> (rw [hpr] at h3 h4; omega)

theorem div24_is {t e : Int} (he : 1 ≤ e) (he2 : e ≤ 2147483648) (ht : -2147483648 ≤ t ∧ t ≤ 2147483648) : divI t e 24 = t * 16777216 / e := by
  unfold divI
  rw [if_neg (by omega), if_neg (by decide), if_neg (by decide), cf_same ht.1 ht.2, cf_same (by omega) he2, Int.fdiv_eq_ediv_of_nonneg _ (by omega)]
  rfl

/-- The number that is found is about the part. -/
theorem part_near (hp : p.natAbs ≤ 3686) {q0 q1 e : Int} (h1 : 536870912 ≤ q0) (h2 : q0 < 1073741824) (h3 : 4096 * q1 - p * q0 ≤ 1300000000) (h4 : -1300000000 ≤ 4096 * q1 - p * q0) (he : e = q0 + q0 / 1024 + 1) :
    ∃ k : Int, clampI (divI q1 e 24) (-16760438) 16760438 = k ∧ k - 4096 * p ≤ 159744 ∧ -159744 ≤ k - 4096 * p := by
  have hpq := prod_le (x := p) (y := q0) (p := 3686) (q := 1073741824) (by omega) (by omega)
  have he1 : 1 ≤ e ∧ e ≤ 2147483648 := by omega
  rw [div24_is he1.1 he1.2 (by omega)]
  obtain ⟨k, hk⟩ : ∃ k, q1 * 16777216 / e = k := ⟨_, rfl⟩
  obtain ⟨θ, hθ⟩ : ∃ θ, q1 * 16777216 % e = θ := ⟨_, rfl⟩
  have d1 : e * k + θ = q1 * 16777216 := by rw [← hk, ← hθ]; exact Int.mul_ediv_add_emod _ _
  have d2 : 0 ≤ θ := by rw [← hθ]; exact Int.emod_nonneg _ (by omega)
  have d3 : θ < e := by rw [← hθ]; exact Int.emod_lt_of_pos _ (by omega)
  obtain ⟨g, hg⟩ : ∃ g, q0 / 1024 + 1 = g := ⟨_, rfl⟩
  have e2 : e = q0 + g := by omega
  have hpg := prod_le (x := p) (y := g) (p := 3686) (q := g) (by omega) (by omega)
  have e3 : e * p = p * q0 + p * g := by rw [e2, Int.add_mul, Int.mul_comm q0, Int.mul_comm g]
  have b1 : e * (k - 4096 * p) ≤ e * 159744 := by
    rw [Int.mul_sub, Int.mul_left_comm e 4096 p, e3]
    omega
  have b2 : e * (-159744) ≤ e * (k - 4096 * p) := by
    rw [Int.mul_sub, Int.mul_left_comm e 4096 p, e3]
    omega
  have c1 := Int.le_of_mul_le_mul_left b1 (by omega)
  have c2 := Int.le_of_mul_le_mul_left b2 (by omega)
  refine ⟨k, ?_, c1, c2⟩
  rw [hk]
  unfold clampI
  rw [if_neg (by omega), if_neg (by decide), if_neg (by omega)]

/-- What a sound is foretold by. -/
theorem solve_part (hp : p.natAbs ≤ 3686) {n : Nat} (h1 : 200 ≤ n) : ∃ v : Int, solveZ (autoL (partL p n) 1) = [v] ∧ v - p ≤ 40 ∧ -40 ≤ v - p := by
  obtain ⟨r0, r1, e1, a1, a2, a3, a4⟩ := part_two hp h1
  have hpq := prod_le (x := p) (y := r0) (p := 3686) (q := 9000000000) (by omega) (by omega)
  rw [e1]
  have hc : c41L [r0, r1] = [r0, r1] := by
    show [clampI r0 (-2199023255552) 2199023255552, clampI r1 (-2199023255552) 2199023255552] = _
    unfold clampI
    rw [if_neg (by omega), if_neg (by decide), if_neg (by omega), if_neg (by omega), if_neg (by decide), if_neg (by omega)]
  obtain ⟨q0, q1, e2, b1, b2, b3, b4⟩ := part_half hp 40 r0 r1 (by omega) (by rw [show (2 : Int) ^ 40 = 1099511627776 from by decide]; omega) (by omega) (by omega)
  have hn : normL [r0, r1] = [q0, q1] := by
    unfold normL
    rw [hc, upN_stop (show ¬ r0Z [r0, r1] < 536870912 by show ¬ r0 < 536870912; omega), e2]
  obtain ⟨k, hk, c1, c2⟩ := part_near hp b1 b2 b3 b4 rfl
  have hs : solveZ [r0, r1] = fitZ [mulI k 1 12] := by
    unfold solveZ
    rw [if_neg (show ¬ r0Z [r0, r1] < 1 by show ¬ r0 < 1; omega), hn]
    show fitZ [mulI (clampI (divI q1 (q0 + q0 / 1024 + 1) 24) (-16760438) 16760438) 1 12] = _
    rw [hk]
  have hm : mulI k 1 12 = (k + 2048) / 4096 := by
    rw [mul12_is, cf_same (a := k) (by omega) (by omega), show cf 1 = 1 from by decide, Int.mul_one]
  rw [hs, hm]
  refine ⟨(k + 2048) / 4096, fitZ_same ?_ ?_, by omega, by omega⟩
  · intro x hx
    rw [List.mem_singleton] at hx
    subst hx
    omega
  · rw [stable_one]
    exact decide_eq_true (by omega)
end

end Lev
end Go.Proofs.Ytjaccokmficfdaa
