/- How loud a sound is, and a meter's floor, as plain numbers. Nothing here is of any program. -/
import Derived.Test.YtklpicfeajmadaaSumM
import Derived.Test.YtklpicfeajmadaaFixM
namespace Go.Proofs.Ytklpicfeajmadaa

/-- The sum of the squares of the first m samples. -/
def sqV (x : List Int) : Nat → Int
  | 0 => 0
  | m + 1 => sqV x m + s16 (x[m]?.getD 0) * s16 (x[m]?.getD 0)
theorem sqV_in (x : List Int) : ∀ m : Nat, 0 ≤ sqV x m ∧ sqV x m ≤ (m : Int) * 1073741824
  | 0 => by
    show (0 : Int) ≤ 0 ∧ (0 : Int) ≤ ((0 : Nat) : Int) * 1073741824
    omega
  | m + 1 => by
    have h := sqV_in x m
    have hs := s16_in (x[m]?.getD 0)
    have h1 := (prod16 hs.1 hs.2 hs.1 hs.2).2
    have h2 : 0 ≤ s16 (x[m]?.getD 0) * s16 (x[m]?.getD 0) := by
      rcases Int.le_total 0 (s16 (x[m]?.getD 0)) with h | h
      · exact Int.mul_nonneg h h
      · exact Int.mul_nonneg_of_nonpos_of_nonpos h h
    show 0 ≤ sqV x m + s16 (x[m]?.getD 0) * s16 (x[m]?.getD 0) ∧ sqV x m + s16 (x[m]?.getD 0) * s16 (x[m]?.getD 0) ≤ ((m + 1 : Nat) : Int) * 1073741824
    omega
def meanV (x : List Int) : Int := 1 + sqV x (min x.length 960) / ((min x.length 960 : Nat) : Int)
def levelI (x : List Int) : Int := if x.length = 0 then 0 else log2I (meanV x)
theorem div_of {a b n : Int} (h : 0 ≤ a) (hb : a ≤ n * b) (hn : 0 < n) : 0 ≤ a / n ∧ a / n ≤ b :=
  ⟨Int.ediv_nonneg h (by omega), by
    have := Int.ediv_le_ediv hn hb
    rwa [Int.mul_ediv_cancel_left b (by omega)] at this⟩
theorem meanV_in {x : List Int} (h : x.length ≠ 0) : 1 ≤ meanV x ∧ meanV x ≤ 1073741825 := by
  have h1 := sqV_in x (min x.length 960)
  have h2 := div_of h1.1 h1.2 (by omega)
  unfold meanV
  omega
theorem log2I_top {a : Int} (h : 1 ≤ a) (h2 : a < 2147483648) : 0 ≤ log2I a ∧ log2I a < 7936 := by
  have h1 := log2I_in h
  obtain ⟨_, g1, _⟩ := log_in a h (by omega)
  have hl : a.toNat.log2 ≤ 30 := by
    have g2 : (2 : Nat) ^ a.toNat.log2 ≤ a.toNat := by
      have : ((2 ^ a.toNat.log2 : Nat) : Int) ≤ a := by rw [pow_cast]; exact g1
      omega
    have g3 : (2 : Nat) ^ a.toNat.log2 < 2 ^ 31 := Nat.lt_of_le_of_lt g2 (by omega)
    have := (Nat.pow_lt_pow_iff_right (by decide)).1 g3
    omega
  omega
theorem levelI_in (x : List Int) : 0 ≤ levelI x ∧ levelI x < 7936 := by
  unfold levelI
  split
  · omega
  · have h := meanV_in (x := x) (by assumption)
    exact log2I_top h.1 (by omega)

/-! ### Silence -/
theorem sqV_silent {x : List Int} (h : ∀ i : Nat, x[i]?.getD 0 = 0) : ∀ m, sqV x m = 0
  | 0 => rfl
  | m + 1 => by
    show sqV x m + s16 (x[m]?.getD 0) * s16 (x[m]?.getD 0) = 0
    rw [sqV_silent h m, h m]
    decide
theorem log2_one : log2I 1 = 0 := by decide +kernel
theorem level_silent {x : List Int} (h : ∀ i : Nat, x[i]?.getD 0 = 0) : levelI x = 0 := by
  unfold levelI
  split
  · rfl
  · unfold meanV
    rw [sqV_silent h, Int.zero_ediv]
    exact log2_one

/-! ### Twice as loud -/
theorem logIter_push (m l d : Int) : ∀ k : Nat, (logIter (m, l + d) k).1 = (logIter (m, l) k).1 ∧ (logIter (m, l + d) k).2 = (logIter (m, l) k).2 + d * 2 ^ k
  | 0 => ⟨rfl, by
    show l + d = l + d * 2 ^ 0
    rw [Int.pow_zero, Int.mul_one]⟩
  | k + 1 => by
    obtain ⟨h1, h2⟩ := logIter_push m l d k
    show (logStep (logIter (m, l + d) k)).1 = (logStep (logIter (m, l) k)).1 ∧ (logStep (logIter (m, l + d) k)).2 = (logStep (logIter (m, l) k)).2 + d * 2 ^ (k + 1)
    unfold logStep
    rw [h1, h2, Int.pow_succ, ← Int.mul_assoc]
    split
    · exact ⟨rfl, by show ((logIter (m, l) k).2 + d * 2 ^ k) * 2 + 1 = (logIter (m, l) k).2 * 2 + 1 + d * 2 ^ k * 2; omega⟩
    · exact ⟨rfl, by show ((logIter (m, l) k).2 + d * 2 ^ k) * 2 = (logIter (m, l) k).2 * 2 + d * 2 ^ k * 2; omega⟩
theorem log2_four {v : Int} (h1 : 1 ≤ v) (h2 : v < 536870912) : log2I (4 * v) = log2I v + 512 := by
  obtain ⟨_, g1, g2⟩ := log_in v h1 (by omega)
  have n1 : (2 : Nat) ^ v.toNat.log2 ≤ v.toNat := by
    have : ((2 ^ v.toNat.log2 : Nat) : Int) ≤ v := by rw [pow_cast]; exact g1
    omega
  have n2 : v.toNat < 2 ^ (v.toNat.log2 + 1) := by
    have : v < ((2 ^ (v.toNat.log2 + 1) : Nat) : Int) := by rw [pow_cast]; exact g2
    omega
  have hl : v.toNat.log2 ≤ 28 := by
    have g3 : (2 : Nat) ^ v.toNat.log2 < 2 ^ 29 := Nat.lt_of_le_of_lt n1 (by omega)
    have := (Nat.pow_lt_pow_iff_right (by decide)).1 g3
    omega
  have e4 : (4 * v).toNat.log2 = v.toNat.log2 + 2 := by
    rw [show (4 * v).toNat = 4 * v.toNat by omega]
    refine (Nat.log2_eq_iff (by omega)).2 ⟨?_, ?_⟩
    · rw [Nat.pow_add]
      omega
    · rw [show v.toNat.log2 + 2 + 1 = v.toNat.log2 + 1 + 2 by omega, Nat.pow_add]
      omega
  have en : normI (4 * v) (v.toNat.log2 + 2) = normI v v.toNat.log2 := by
    unfold normI
    rw [show v.toNat.log2 + 2 - 30 = 0 by omega, show v.toNat.log2 - 30 = 0 by omega, show 30 - v.toNat.log2 = (30 - (v.toNat.log2 + 2)) + 2 by omega, Int.pow_add]
    rw [show (2 : Int) ^ 2 = 4 from rfl, ← Int.mul_assoc, Int.mul_comm 4 v, Int.mul_assoc, Int.mul_comm 4, ← Int.mul_assoc]
  unfold log2I
  rw [if_neg (show ¬ 4 * v < 1 by omega), if_neg (show ¬ v < 1 by omega), e4, en]
  have := (logIter_push (normI v v.toNat.log2) (v.toNat.log2 : Int) 2 8).2
  rw [show ((v.toNat.log2 + 2 : Nat) : Int) = (v.toNat.log2 : Int) + 2 by omega, this, show (2 : Int) * 2 ^ 8 = 512 from rfl]

def dblV (x : List Int) : List Int := x.map fun a => 2 * a
theorem dblV_len (x : List Int) : (dblV x).length = x.length := by unfold dblV; rw [List.length_map]
theorem dblV_at (x : List Int) (i : Nat) : (dblV x)[i]?.getD 0 = 2 * (x[i]?.getD 0) := by
  unfold dblV
  rw [List.getElem?_map]
  cases x[i]? <;> rfl
theorem sqV_two {x : List Int} (h : ∀ i : Nat, -16383 ≤ x[i]?.getD 0 ∧ x[i]?.getD 0 ≤ 16383) : ∀ m, sqV (dblV x) m = 4 * sqV x m
  | 0 => rfl
  | m + 1 => by
    show sqV (dblV x) m + s16 ((dblV x)[m]?.getD 0) * s16 ((dblV x)[m]?.getD 0) = 4 * (sqV x m + s16 (x[m]?.getD 0) * s16 (x[m]?.getD 0))
    rw [sqV_two h m, dblV_at, s16_two (h _).1 (h _).2, Int.mul_assoc, Int.mul_left_comm (s16 _) 2]
    omega
theorem sqV_low {x : List Int} (h : ∀ i : Nat, -16383 ≤ x[i]?.getD 0 ∧ x[i]?.getD 0 ≤ 16383) : ∀ m : Nat, sqV x m ≤ (m : Int) * 268402689
  | 0 => by
    show (0 : Int) ≤ ((0 : Nat) : Int) * 268402689
    omega
  | m + 1 => by
    have h0 := sqV_low h m
    have h1 := h m
    have h2 : (x[m]?.getD 0).natAbs * (x[m]?.getD 0).natAbs ≤ 16383 * 16383 := Nat.mul_le_mul (by omega) (by omega)
    have h3 : x[m]?.getD 0 * x[m]?.getD 0 = (((x[m]?.getD 0).natAbs * (x[m]?.getD 0).natAbs : Nat) : Int) := Int.natAbs_mul_self.symm
    show sqV x m + s16 (x[m]?.getD 0) * s16 (x[m]?.getD 0) ≤ ((m + 1 : Nat) : Int) * 268402689
    rw [s16_same (by omega) (by omega), h3]
    omega
/-- No less loud, by at most two steps of 256 and a little. -/
theorem level_two {x : List Int} (h : ∀ i : Nat, -16383 ≤ x[i]?.getD 0 ∧ x[i]?.getD 0 ≤ 16383) : levelI x ≤ levelI (dblV x) ∧ levelI (dblV x) ≤ levelI x + 512 := by
  unfold levelI
  rw [dblV_len]
  by_cases h0 : x.length = 0
  · rw [if_pos h0]
    omega
  · rw [if_neg h0, if_neg h0]
    obtain ⟨n, hn⟩ : ∃ n : Nat, min x.length 960 = n := ⟨_, rfl⟩
    have hn1 : 0 < n := by omega
    have hm : meanV x = 1 + sqV x n / (n : Int) := by unfold meanV; rw [hn]
    have hm2 : meanV (dblV x) = 1 + 4 * sqV x n / (n : Int) := by unfold meanV; rw [dblV_len, hn, sqV_two h]
    have h1 := sqV_in x n
    have h2 := sqV_low h n
    have h3 := div_of h1.1 h2 (by omega)
    have h4 : sqV x n ≤ 4 * sqV x n := by omega
    have h5 := Int.ediv_le_ediv (show (0 : Int) < n by omega) h4
    obtain ⟨f, hf⟩ : ∃ f, sqV x n / (n : Int) = f := ⟨_, rfl⟩
    obtain ⟨t, ht⟩ : ∃ t, sqV x n % (n : Int) = t := ⟨_, rfl⟩
    have d1 : (n : Int) * f + t = sqV x n := by rw [← hf, ← ht]; exact Int.mul_ediv_add_emod _ _
    have d3 : t < n := by rw [← ht]; exact Int.emod_lt_of_pos _ (by omega)
    have h6 : 4 * sqV x n / (n : Int) < 4 * f + 4 := by
      refine Int.ediv_lt_of_lt_mul (by omega) ?_
      rw [← d1, show (4 * f + 4) * (n : Int) = 4 * ((n : Int) * f) + 4 * (n : Int) by rw [Int.add_mul, Int.mul_assoc, Int.mul_comm f]]
      omega
    rw [hm, hm2, hf]
    rw [hf] at h3 h5
    have m1 := log2I_mono (a := 1 + f) (b := 1 + 4 * sqV x n / (n : Int)) (by omega) (by omega)
    have m2 := log2I_mono (a := 1 + 4 * sqV x n / (n : Int)) (b := 4 * (1 + f)) (by omega) (by omega)
    rw [log2_four (by omega) (by omega)] at m2
    exact ⟨m1, m2⟩

/-! ### A meter: its floor and its count -/
structure MeterI where
  floor : Int
  count : Int
def MeterI.heard (m : MeterI) (v : Int) : Int := if m.floor < 0 ∨ v < m.floor + 8 then v else m.floor + 8
def MeterI.next (m : MeterI) (v : Int) : MeterI := ⟨m.heard v, if m.heard v + 512 < v then 4 else if 0 < m.count then m.count - 1 else m.count⟩
def MeterI.told (m : MeterI) (v : Int) : Bool := decide (m.heard v + 512 < v ∨ 0 < m.count)
def MeterI.Ok (m : MeterI) : Prop := -1 ≤ m.floor ∧ m.floor ≤ 8192 ∧ 0 ≤ m.count ∧ m.count ≤ 4
def MeterI.run (m : MeterI) : List Int → MeterI
  | [] => m
  | v :: l => (m.next v).run l
def MeterI.tells (m : MeterI) : List Int → List Bool
  | [] => []
  | v :: l => m.told v :: (m.next v).tells l
theorem MeterI.next_ok {m : MeterI} (h : m.Ok) {v : Int} (h1 : 0 ≤ v) (h2 : v < 7936) : (m.next v).Ok ∧ 0 ≤ (m.next v).floor ∧ (m.next v).floor ≤ v := by
  obtain ⟨a1, a2, a3, a4⟩ := h
  unfold MeterI.Ok MeterI.next MeterI.heard
  simp only
  split <;> split <;> (try split) <;> omega
/-- Silence: the floor is nought, and the count falls. -/
theorem MeterI.silent {m : MeterI} (h : m.Ok) : m.next 0 = ⟨0, if 0 < m.count then m.count - 1 else m.count⟩ ∧ m.told 0 = decide (0 < m.count) := by
  obtain ⟨a1, _⟩ := h
  have e : m.heard 0 = 0 := by
    unfold MeterI.heard
    rw [if_pos (by omega)]
  unfold MeterI.next MeterI.told
  rw [e]
  refine ⟨?_, ?_⟩
  · rw [if_neg (by decide)]
  · congr 1
    exact propext ⟨fun h => by omega, fun h => .inr h⟩
def MeterI.still (m : MeterI) : Nat → MeterI
  | 0 => m
  | n + 1 => (m.still n).next 0
theorem MeterI.still_count {m : MeterI} (h : m.Ok) : ∀ n : Nat, (m.still n).Ok ∧ (4 ≤ n → (m.still n).count = 0) ∧ (m.still n).count + (n : Int) ≤ max 4 (n : Int)
  | 0 => by
    obtain ⟨a1, a2, a3, a4⟩ := h
    refine ⟨⟨a1, a2, a3, a4⟩, fun h => by omega, ?_⟩
    show m.count + ((0 : Nat) : Int) ≤ _
    omega
  | n + 1 => by
    obtain ⟨h1, h2, h3⟩ := still_count h n
    obtain ⟨e, _⟩ := MeterI.silent h1
    obtain ⟨a1, a2, a3, a4⟩ := h1
    show ((m.still n).next 0).Ok ∧ (4 ≤ n + 1 → ((m.still n).next 0).count = 0) ∧ ((m.still n).next 0).count + ((n + 1 : Nat) : Int) ≤ max 4 ((n + 1 : Nat) : Int)
    rw [e]
    unfold MeterI.Ok
    simp only
    split <;> omega
/-- From the fifth silent frame on nobody speaks. -/
theorem MeterI.still_told {m : MeterI} (h : m.Ok) {n : Nat} (hn : 4 ≤ n) : (m.still n).told 0 = false := by
  obtain ⟨h1, h2, _⟩ := MeterI.still_count h n
  rw [(MeterI.silent h1).2, h2 hn]
  rfl

end Go.Proofs.Ytklpicfeajmadaa
