/- Filters as plain lists of numbers: judged, weakened, fitted, measured. Nothing here is of any program. -/
import Derived.Test.YtjaccokmficfdaaMA
namespace Go.Proofs.Ytjaccokmficfdaa

theorem cf_same {a : Int} (h : -2147483648 ≤ a) (h2 : a ≤ 2147483648) : cf a = a := by
  unfold cf clampI
  rw [if_neg (by omega), if_neg (by decide), if_neg (by omega)]
theorem mul16_is (a b : Int) : mulI a b 16 = (cf a * cf b + 32768) / 65536 := by
  show (if (16 : Int) < 0 then (0 : Int) else if 62 < (16 : Int) then 0 else if (16 : Int) = 0 then cf a * cf b else (cf a * cf b + 2 ^ ((16 : Int).toNat - 1)) / 2 ^ (16 : Int).toNat) = _
  rw [if_neg (by decide), if_neg (by decide), if_neg (by decide)]
  rfl
theorem mul24_is (a b : Int) : mulI a b 24 = (cf a * cf b + 8388608) / 16777216 := by
  show (if (24 : Int) < 0 then (0 : Int) else if 62 < (24 : Int) then 0 else if (24 : Int) = 0 then cf a * cf b else (cf a * cf b + 2 ^ ((24 : Int).toNat - 1)) / 2 ^ (24 : Int).toNat) = _
  rw [if_neg (by decide), if_neg (by decide), if_neg (by decide)]
  rfl
theorem mul12_is (a b : Int) : mulI a b 12 = (cf a * cf b + 2048) / 4096 := by
  show (if (12 : Int) < 0 then (0 : Int) else if 62 < (12 : Int) then 0 else if (12 : Int) = 0 then cf a * cf b else (cf a * cf b + 2 ^ ((12 : Int).toNat - 1)) / 2 ^ (12 : Int).toNat) = _
  rw [if_neg (by decide), if_neg (by decide), if_neg (by decide)]
  rfl
theorem mul5_is (a b : Int) : mulI a b 5 = (cf a * cf b + 16) / 32 := by
  show (if (5 : Int) < 0 then (0 : Int) else if 62 < (5 : Int) then 0 else if (5 : Int) = 0 then cf a * cf b else (cf a * cf b + 2 ^ ((5 : Int).toNat - 1)) / 2 ^ (5 : Int).toNat) = _
  rw [if_neg (by decide), if_neg (by decide), if_neg (by decide)]
  rfl
/-- A product of two numbers within bounds. -/
theorem prod_le {x y p q : Int} (hx : -p ≤ x ∧ x ≤ p) (hy : -q ≤ y ∧ y ≤ q) : -(p * q) ≤ x * y ∧ x * y ≤ p * q := by
  have h0 : 0 ≤ p := by omega
  have h1 : 0 ≤ q := by omega
  have h : (x * y).natAbs ≤ p.natAbs * q.natAbs := by
    rw [Int.natAbs_mul]
    exact Nat.mul_le_mul (by omega) (by omega)
  rw [← Int.natAbs_mul] at h
  have h2 : 0 ≤ p * q := Int.mul_nonneg h0 h1
  omega

/-! ### Each number clamped -/
def c17 (x : Int) : Int := clampI x (-131072) 131072
theorem c17_in (x : Int) : -131072 ≤ c17 x ∧ c17 x ≤ 131072 := clampI_in _ _ _ (by decide)
theorem c17_same {x : Int} (h : -131072 ≤ x) (h2 : x ≤ 131072) : c17 x = x := by
  unfold c17 clampI
  rw [if_neg (by omega), if_neg (by decide), if_neg (by omega)]
def Within (l : List Int) : Prop := ∀ x ∈ l, -131072 ≤ x ∧ x ≤ 131072
theorem c17_within (l : List Int) : Within (l.map c17) := fun x hx => by
  obtain ⟨y, _, rfl⟩ := List.mem_map.1 hx
  exact c17_in y
theorem c17_map {l : List Int} (h : Within l) : l.map c17 = l := by
  rw [List.map_congr_left (f := c17) (g := id) fun x hx => c17_same (h x hx).1 (h x hx).2, List.map_id]

/-! ### Does it die away? -/
/-- One place of the next lower filter. -/
def downAt (b : List Int) (m k : Nat) : Int :=
  clampI (divI (b[k]?.getD 0 + mulI (b[m]?.getD 0) (b[m - 1 - k]?.getD 0) 24) (16777216 - mulI (b[m]?.getD 0) (b[m]?.getD 0) 24) 24) (-2147483648) 2147483648
def downL (b : List Int) (m : Nat) : List Int := (List.range m).map (downAt b m)
theorem downL_len (b : List Int) (m : Nat) : (downL b m).length = m := by unfold downL; rw [List.length_map, List.length_range]
theorem downL_at {b : List Int} {m k : Nat} (h : k < m) : (downL b m)[k]?.getD 0 = downAt b m k := by
  unfold downL
  rw [List.getElem?_map, List.getElem?_range h]
  rfl
theorem downAt_in (b : List Int) (m k : Nat) : -2147483648 ≤ downAt b m k ∧ downAt b m k ≤ 2147483648 := clampI_in _ _ _ (by decide)
/-- The first m numbers. -/
def stableN : Nat → List Int → Bool
  | 0, _ => true
  | m + 1, b => if 16760438 < b[m]?.getD 0 ∨ b[m]?.getD 0 < -16760438 then false else stableN m (downL b m)
theorem stableN_bad {m : Nat} {b : List Int} (h : 16760438 < b[m]?.getD 0 ∨ b[m]?.getD 0 < -16760438) : stableN (m + 1) b = false := if_pos h
theorem stableN_step {m : Nat} {b : List Int} (h : ¬ (16760438 < b[m]?.getD 0 ∨ b[m]?.getD 0 < -16760438)) : stableN (m + 1) b = stableN m (downL b m) := if_neg h
/-- Only the first m numbers matter. -/
theorem downL_congr {b b' : List Int} {m : Nat} (h : ∀ k, k ≤ m → b[k]?.getD 0 = b'[k]?.getD 0) : downL b m = downL b' m := by
  unfold downL
  refine List.map_congr_left fun k hk => ?_
  have hk' := List.mem_range.1 hk
  unfold downAt
  rw [h k (by omega), h m (Nat.le_refl m), h (m - 1 - k) (by omega)]
theorem stableN_congr : ∀ (m : Nat) {b b' : List Int}, (∀ k, k < m → b[k]?.getD 0 = b'[k]?.getD 0) → stableN m b = stableN m b'
  | 0, _, _, _ => rfl
  | m + 1, b, b', h => by
    show (if 16760438 < b[m]?.getD 0 ∨ b[m]?.getD 0 < -16760438 then false else stableN m (downL b m)) = (if 16760438 < b'[m]?.getD 0 ∨ b'[m]?.getD 0 < -16760438 then false else stableN m (downL b' m))
    rw [h m (Nat.lt_succ_self m), downL_congr fun k hk => h k (Nat.lt_succ_of_le hk)]
def wideL (a : List Int) : List Int := a.map fun x => c17 x * 4096
theorem wideL_len (a : List Int) : (wideL a).length = a.length := by unfold wideL; rw [List.length_map]
theorem wideL_in (a : List Int) : ∀ x ∈ wideL a, -536870912 ≤ x ∧ x ≤ 536870912 := fun x hx => by
  obtain ⟨y, _, rfl⟩ := List.mem_map.1 hx
  have := c17_in y
  omega
def stableZ (a : List Int) : Bool := if 32 < a.length then false else stableN a.length (wideL a)
theorem stableZ_far {a : List Int} (h : 32 < a.length) : stableZ a = false := if_pos h
theorem stableZ_near {a : List Int} (h : a.length ≤ 32) : stableZ a = stableN a.length (wideL a) := if_neg (by omega)

theorem map_zero : ∀ (l : List Nat), l.map (fun _ => (0 : Int)) = List.replicate l.length 0
  | [] => rfl
  | _ :: l => by rw [List.map_cons, map_zero l]; rfl
theorem zero_at (n k : Nat) : (List.replicate n (0 : Int))[k]?.getD 0 = 0 := by
  rw [List.getElem?_replicate]
  split <;> rfl
theorem down_zero (n m k : Nat) : downAt (List.replicate n 0) m k = 0 := by
  unfold downAt
  rw [zero_at, zero_at, zero_at]
  decide
theorem stableN_zero : ∀ (m n : Nat), stableN m (List.replicate n 0) = true
  | 0, _ => rfl
  | m + 1, n => by
    rw [stableN_step (by rw [zero_at]; decide)]
    have h : downL (List.replicate n 0) m = List.replicate m 0 := by
      unfold downL
      rw [List.map_congr_left (f := downAt (List.replicate n 0) m) (g := fun _ => (0 : Int)) fun k _ => down_zero n m k, map_zero, List.length_range]
    rw [h]
    exact stableN_zero m m
theorem stableZ_zero {n : Nat} (h : n ≤ 32) : stableZ (List.replicate n 0) = true := by
  rw [stableZ_near (by rw [List.length_replicate]; exact h), List.length_replicate]
  have e : wideL (List.replicate n 0) = List.replicate n 0 := by
    unfold wideL
    rw [List.map_replicate]
    rfl
  rw [e]
  exact stableN_zero n n
theorem stable_one (v : Int) : stableZ [v] = decide (-4091 ≤ v ∧ v ≤ 4091) := by
  rw [stableZ_near (Nat.le_of_ble_eq_true rfl)]
  show (if 16760438 < c17 v * 4096 ∨ c17 v * 4096 < -16760438 then false else true) = _
  have h : c17 v = if v < -131072 then -131072 else if 131072 < v then 131072 else v := by
    unfold c17 clampI
    rw [if_neg (show ¬ (131072 : Int) < -131072 by decide)]
  rw [h]
  by_cases h1 : v < -131072
  · rw [if_pos h1, if_pos (.inr (by decide)), decide_eq_false (by omega)]
  · by_cases h2 : 131072 < v
    · rw [if_neg h1, if_pos h2, if_pos (.inl (by decide)), decide_eq_false (by omega)]
    · rw [if_neg h1, if_neg h2]
      by_cases h3 : -4091 ≤ v ∧ v ≤ 4091
      · rw [if_neg (by omega), decide_eq_true h3]
      · rw [if_pos (by omega), decide_eq_false h3]

/-! ### Weakened -/
def chirpN (c : Int) : Nat → Int → Int
  | 0, v => v
  | n + 1, v => mulI (chirpN c n v) c 16
theorem chirpN_step (c : Int) (n : Nat) (v : Int) : chirpN c (n + 1) v = mulI (chirpN c n v) c 16 := rfl
def chirpL (a : List Int) (c : Int) : List Int := (List.range a.length).map fun k => chirpN (clampI c 0 65536) (k + 1) (a[k]?.getD 0)
def chirpZ (a : List Int) (c : Int) : List Int := if 32 < a.length then [] else chirpL a c
theorem chirpL_len (a : List Int) (c : Int) : (chirpL a c).length = a.length := by unfold chirpL; rw [List.length_map, List.length_range]
theorem chirpL_at {a : List Int} {c : Int} {k : Nat} (h : k < a.length) : (chirpL a c)[k]?.getD 0 = chirpN (clampI c 0 65536) (k + 1) (a[k]?.getD 0) := by
  unfold chirpL
  rw [List.getElem?_map, List.getElem?_range h]
  rfl
theorem mul16_all {v : Int} (h : -2147483648 ≤ v) (h2 : v ≤ 2147483648) : mulI v 65536 16 = v := by
  rw [mul16_is, cf_same h h2, cf_same (a := 65536) (by decide) (by decide)]
  omega
theorem chirpN_all {v : Int} (h : -2147483648 ≤ v) (h2 : v ≤ 2147483648) : ∀ n, chirpN 65536 n v = v
  | 0 => rfl
  | n + 1 => by rw [chirpN_step, chirpN_all h h2 n, mul16_all h h2]
theorem chirpN_none (v : Int) (n : Nat) : chirpN 0 (n + 1) v = 0 := by
  rw [chirpN_step, mul16_is, cf_same (a := 0) (by decide) (by decide), Int.mul_zero]
  decide
/-- Weakened by a factor from 0 to 1: nearer to 0, on the same side. -/
theorem mul16_less {v c : Int} (h : -2147483648 ≤ v) (h2 : v ≤ 2147483648) (h0 : 0 ≤ c) (h1 : c ≤ 65536) : (0 ≤ v → 0 ≤ mulI v c 16 ∧ mulI v c 16 ≤ v) ∧ (v ≤ 0 → v ≤ mulI v c 16 ∧ mulI v c 16 ≤ 0) := by
  rw [mul16_is, cf_same h h2, cf_same (a := c) (by omega) (by omega)]
  constructor
  · intro hv
    have h3 : 0 ≤ v * c := Int.mul_nonneg hv h0
    have h4 : v * c ≤ v * 65536 := Int.mul_le_mul_of_nonneg_left h1 hv
    omega
  · intro hv
    have h3 : v * c ≤ 0 := by
      have := Int.mul_nonneg (a := -v) (b := c) (by omega) h0
      rw [Int.neg_mul] at this
      omega
    have h4 : v * 65536 ≤ v * c := by
      have := Int.mul_le_mul_of_nonneg_left h1 (show 0 ≤ -v by omega)
      rw [Int.neg_mul, Int.neg_mul] at this
      omega
    omega
theorem chirpN_less {v c : Int} (h : -2147483648 ≤ v) (h2 : v ≤ 2147483648) (h0 : 0 ≤ c) (h1 : c ≤ 65536) : ∀ n, (0 ≤ v → 0 ≤ chirpN c n v ∧ chirpN c n v ≤ v) ∧ (v ≤ 0 → v ≤ chirpN c n v ∧ chirpN c n v ≤ 0)
  | 0 => ⟨fun hv => ⟨hv, Int.le_refl v⟩, fun hv => ⟨Int.le_refl v, hv⟩⟩
  | n + 1 => by
    obtain ⟨h3, h4⟩ := chirpN_less h h2 h0 h1 n
    rw [chirpN_step]
    generalize chirpN c n v = x at *
    constructor
    · intro hv
      have h5 := h3 hv
      have h6 := (mul16_less (v := x) (c := c) (by omega) (by omega) h0 h1).1 h5.1
      omega
    · intro hv
      have h5 := h4 hv
      have h6 := (mul16_less (v := x) (c := c) (by omega) (by omega) h0 h1).2 h5.2
      omega
theorem mem_at {l : List Int} {k : Nat} (h : k < l.length) : l[k]?.getD 0 ∈ l := by
  rw [List.getElem?_eq_getElem h]
  exact List.getElem_mem _
theorem chirpL_within {a : List Int} (h : Within a) (c : Int) : Within (chirpL a c) := fun x hx => by
  obtain ⟨k, hk, rfl⟩ := List.mem_map.1 hx
  have hk' := List.mem_range.1 hk
  have h1 := h _ (mem_at hk')
  have h2 := clampI_in c 0 65536 (by decide)
  have h3 := chirpN_less (v := a[k]?.getD 0) (c := clampI c 0 65536) (by omega) (by omega) h2.1 h2.2 (k + 1)
  rcases Int.le_total 0 (a[k]?.getD 0) with h4 | h4
  · have := h3.1 h4; omega
  · have := h3.2 h4; omega
theorem chirpL_all {a : List Int} (h : Within a) : chirpL a 65536 = a := by
  apply List.ext_getElem
  · exact chirpL_len _ _
  · intro i h1 h2
    have h3 : (chirpL a 65536)[i]?.getD 0 = a[i]?.getD 0 := by
      have h4 := h _ (mem_at h2)
      rw [chirpL_at h2, show clampI 65536 0 65536 = 65536 from rfl, chirpN_all (by omega) (by omega)]
    rw [List.getElem?_eq_getElem h1, List.getElem?_eq_getElem h2] at h3
    exact h3
theorem chirpL_none (a : List Int) : chirpL a 0 = List.replicate a.length 0 := by
  unfold chirpL
  rw [List.map_congr_left (f := fun k => chirpN (clampI 0 0 65536) (k + 1) (a[k]?.getD 0)) (g := fun _ => (0 : Int)) fun k _ => chirpN_none _ _, map_zero, List.length_range]

/-! ### Fitted -/
def fitN : Nat → Nat → List Int → List Int
  | 0, _, b => if stableZ b then b else List.replicate b.length 0
  | n + 1, r, b => if stableZ b then b else fitN n (r + 1) (chirpL b (65536 - 2048 * (r : Int)))
def fitZ (a : List Int) : List Int := if 32 < a.length then [] else fitN 16 1 (a.map c17)
theorem fitN_yes {n r : Nat} {b : List Int} (h : stableZ b = true) : fitN n r b = b := by
  cases n with
  | zero => exact if_pos h
  | succ n => exact if_pos h
theorem fitN_no {n r : Nat} {b : List Int} (h : stableZ b = false) : fitN (n + 1) r b = fitN n (r + 1) (chirpL b (65536 - 2048 * (r : Int))) := if_neg (by rw [h]; decide)
theorem fitN_end {r : Nat} {b : List Int} (h : stableZ b = false) : fitN 0 r b = List.replicate b.length 0 := if_neg (by rw [h]; decide)
theorem fitN_len : ∀ (n r : Nat) (b : List Int), (fitN n r b).length = b.length
  | 0, r, b => by
    by_cases h : stableZ b = true
    · rw [fitN_yes h]
    · rw [fitN_end (by simpa using h), List.length_replicate]
  | n + 1, r, b => by
    by_cases h : stableZ b = true
    · rw [fitN_yes h]
    · rw [fitN_no (by simpa using h), fitN_len n, chirpL_len]
theorem fitN_stable : ∀ (n r : Nat) (b : List Int), b.length ≤ 32 → stableZ (fitN n r b) = true
  | 0, r, b, hl => by
    by_cases h : stableZ b = true
    · rw [fitN_yes h]; exact h
    · rw [fitN_end (by simpa using h)]; exact stableZ_zero hl
  | n + 1, r, b, hl => by
    by_cases h : stableZ b = true
    · rw [fitN_yes h]; exact h
    · rw [fitN_no (by simpa using h)]; exact fitN_stable n _ _ (by rw [chirpL_len]; exact hl)
theorem fitN_within : ∀ (n r : Nat) (b : List Int), Within b → Within (fitN n r b)
  | 0, r, b, hb => by
    by_cases h : stableZ b = true
    · rw [fitN_yes h]; exact hb
    · rw [fitN_end (by simpa using h)]
      intro x hx
      have := List.eq_of_mem_replicate hx
      omega
  | n + 1, r, b, hb => by
    by_cases h : stableZ b = true
    · rw [fitN_yes h]; exact hb
    · rw [fitN_no (by simpa using h)]; exact fitN_within n _ _ (chirpL_within hb _)
theorem fitZ_near {a : List Int} (h : a.length ≤ 32) : fitZ a = fitN 16 1 (a.map c17) := if_neg (by omega)
theorem fitZ_far {a : List Int} (h : 32 < a.length) : fitZ a = [] := if_pos h
theorem fitZ_len {a : List Int} (h : a.length ≤ 32) : (fitZ a).length = a.length := by rw [fitZ_near h, fitN_len, List.length_map]
theorem fitZ_stable {a : List Int} (h : a.length ≤ 32) : stableZ (fitZ a) = true := by
  rw [fitZ_near h]
  exact fitN_stable _ _ _ (by rw [List.length_map]; exact h)
theorem fitZ_within (a : List Int) : Within (fitZ a) := by
  unfold fitZ
  split
  · intro x hx; cases hx
  · exact fitN_within _ _ _ (c17_within a)
theorem fitZ_same {a : List Int} (hw : Within a) (hs : stableZ a = true) : fitZ a = a := by
  have hl : a.length ≤ 32 := by
    rcases Nat.lt_or_ge 32 a.length with h | h
    · rw [stableZ_far h] at hs; cases hs
    · exact h
  rw [fitZ_near hl, c17_map hw, fitN_yes hs]
theorem fitZ_again {a : List Int} (h : a.length ≤ 32) : fitZ (fitZ a) = fitZ a := fitZ_same (fitZ_within a) (fitZ_stable h)

/-! ### Measured -/
def sqL (a : List Int) : Nat → Int
  | 0 => 16777216
  | k + 1 => sqL a k + c17 (a[k]?.getD 0) * c17 (a[k]?.getD 0)
theorem c17_sq (x : Int) : 0 ≤ c17 x * c17 x ∧ c17 x * c17 x ≤ 17179869184 := by
  have h := c17_in x
  have h2 := prod_le (p := 131072) (q := 131072) ⟨by omega, h.2⟩ ⟨by omega, h.2⟩ (x := c17 x) (y := c17 x)
  have h3 : 0 ≤ c17 x * c17 x := by
    rcases Int.le_total 0 (c17 x) with h4 | h4
    · exact Int.mul_nonneg h4 h4
    · have := Int.mul_nonneg (a := -(c17 x)) (b := -(c17 x)) (by omega) (by omega)
      rwa [Int.neg_mul_neg] at this
  omega
theorem sqL_in (a : List Int) : ∀ k, 16777216 ≤ sqL a k ∧ sqL a k ≤ 16777216 + 17179869184 * (k : Int)
  | 0 => ⟨Int.le_refl _, by show (16777216 : Int) ≤ _; omega⟩
  | k + 1 => by
    have h1 := sqL_in a k
    have h2 := c17_sq (a[k]?.getD 0)
    show 16777216 ≤ sqL a k + c17 (a[k]?.getD 0) * c17 (a[k]?.getD 0) ∧ sqL a k + c17 (a[k]?.getD 0) * c17 (a[k]?.getD 0) ≤ _
    omega
def gainZ (a : List Int) : Int := if 32 < a.length then 0 else sqrtI (sqL a a.length)

/-! ### One pulse, and what comes behind it -/
/-- A number of a filter times one that lies behind. -/
theorem mul12_in {x y : Int} (hx : -131072 ≤ x ∧ x ≤ 131072) : -68719476736 ≤ mulI x y 12 ∧ mulI x y 12 ≤ 68719476736 := by
  have hc := cf_in y
  have h := prod_le (p := 131072) (q := 2147483648) (x := x) (y := cf y) ⟨by omega, hx.2⟩ ⟨by omega, hc.2⟩
  rw [mul12_is, cf_same (a := x) (by omega) (by omega)]
  omega

end Go.Proofs.Ytjaccokmficfdaa
