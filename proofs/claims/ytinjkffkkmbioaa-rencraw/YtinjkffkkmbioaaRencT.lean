/- Numbers that are mostly small, as plain numbers, continued: where the parts have come down to one each there is still room for it: whatever the first part and the decay are. Nothing here is of any program. -/
import Derived.Test.YtinjkffkkmbioaaRencR
namespace Go.Proofs.Ytinjkffkkmbioaa

/-- What is left of a part, less one, at the next number. -/
def nxtA (d a : Nat) : Nat := a * d / 16384

/-- All that the parts take from there on, two a number, till they have come down to one. -/
def sumA (d : Nat) : Nat → Nat → Nat
  | 0, _ => 0
  | f + 1, a => if a = 0 then 0 else 2 * (a + 1) + sumA d f (nxtA d a)

theorem nxtA_lt {d a : Nat} (hd : d < 16384) (ha : 0 < a) : nxtA d a < a := by
  unfold nxtA
  rw [Nat.div_lt_iff_lt_mul (by decide)]
  exact Nat.mul_lt_mul_of_pos_left hd ha

theorem nxtA_mono {d e a b : Nat} (hd : d ≤ e) (ha : a ≤ b) : nxtA d a ≤ nxtA e b := Nat.div_le_div_right (Nat.mul_le_mul ha hd)

theorem sumA_mono {d e : Nat} (hd : d ≤ e) : ∀ (f : Nat) {a b : Nat}, a ≤ b → sumA d f a ≤ sumA e f b
  | 0, _, _, _ => Nat.le_refl _
  | f + 1, a, b, h => by
    unfold sumA
    by_cases h0 : a = 0
    · rw [if_pos h0]; exact Nat.zero_le _
    · rw [if_neg h0, if_neg (by omega)]
      have := sumA_mono hd f (nxtA_mono hd h)
      omega

theorem sumA_full {d : Nat} (hd : d < 16384) : ∀ (f a : Nat), a ≤ f → ∀ g, sumA d g a ≤ sumA d f a
  | _, _, _, 0 => Nat.zero_le _
  | 0, a, h, g + 1 => by
    obtain rfl : a = 0 := by omega
    unfold sumA
    rw [if_pos rfl]
    exact Nat.zero_le _
  | f + 1, a, h, g + 1 => by
    unfold sumA
    by_cases h0 : a = 0
    · rw [if_pos h0, if_pos h0]; exact Nat.le_refl _
    · rw [if_neg h0, if_neg h0]
      have := sumA_full hd f (nxtA d a) (by have := nxtA_lt (d := d) (a := a) hd (by omega); omega) g
      omega

/-! ### A few ranges of decays, each tried at its ends -/
structure Rg where
  d1 : Nat
  d2 : Nat
  A : Nat
  n : Nat

def ranges : List Rg := [⟨0, 8738, 0, 15⟩, ⟨8739, 9615, 1, 15⟩, ⟨9616, 10239, 13, 13⟩, ⟨10240, 10797, 10, 15⟩, ⟨10798, 10922, 7, 16⟩, ⟨10923, 11059, 47, 12⟩, ⟨11060, 11342, 29, 14⟩, ⟨11343, 11613, 12, 17⟩, ⟨11614, 11702, 9, 18⟩, ⟨11703, 11762, 40, 15⟩, ⟨11763, 11955, 38, 15⟩, ⟨11956, 12163, 48, 15⟩, ⟨12164, 12287, 14, 20⟩, ⟨12288, 12336, 86, 14⟩, ⟨12337, 12483, 50, 16⟩, ⟨12484, 12705, 21, 20⟩, ⟨12706, 12873, 16, 22⟩, ⟨12874, 13107, 18, 23⟩, ⟨13108, 13311, 24, 23⟩, ⟨13312, 13492, 18, 26⟩, ⟨13493, 13653, 14, 28⟩, ⟨13654, 13926, 25, 28⟩, ⟨13927, 14199, 18, 33⟩, ⟨14200, 14563, 23, 37⟩, ⟨14564, 14894, 14, 48⟩, ⟨14895, 15291, 20, 58⟩, ⟨15292, 15820, 14, 106⟩, ⟨15821, 16000, 5, 129⟩]

/-- Within n steps x comes down to A. -/
def reachB (d A : Nat) : Nat → Nat → Bool
  | 0, x => Nat.ble x A
  | n + 1, x => Nat.ble x A || reachB d A n (nxtA d x)

def tryB (r : Rg) (a : Nat) : Bool :=
  Nat.ble ((16384 - r.d1) * sumA r.d2 100 a) (32768 * a + 30 * (16384 - r.d1)) &&
  (Nat.blt a (nxtA r.d1 (r.A + 1)) || Nat.ble ((16384 - r.d1) * sumA r.d2 100 a + 2 * r.n * (16384 - r.d1)) (32768 * a + 30 * (16384 - r.d1)))

def rangeB (r : Rg) : Bool := reachB r.d2 r.A r.n (32480 * (16384 - r.d1) / 32768) && Nat.ble r.A 100 && (List.range (r.A + 1)).all (tryB r)

def coverB : Nat → List Rg → Bool
  | s, [] => Nat.ble 16001 s
  | s, r :: l => Nat.ble r.d1 s && coverB (r.d2 + 1) l

theorem ranges_ok : ranges.all rangeB = true := by decide +kernel
theorem ranges_cover : coverB 0 ranges = true := by decide +kernel

theorem cover_out : ∀ (l : List Rg) (s d : Nat), coverB s l = true → s ≤ d → d ≤ 16000 → ∃ r ∈ l, r.d1 ≤ d ∧ d ≤ r.d2
  | [], s, d, h, h1, h2 => by
    have := Nat.le_of_ble_eq_true h
    omega
  | r :: l, s, d, h, h1, h2 => by
    unfold coverB at h
    rw [Bool.and_eq_true] at h
    have h3 := Nat.le_of_ble_eq_true h.1
    rcases Nat.lt_or_ge r.d2 d with h4 | h4
    · obtain ⟨q, hq, h5⟩ := cover_out l _ d h.2 h4 h2
      exact ⟨q, List.mem_cons_of_mem _ hq, h5⟩
    · exact ⟨r, List.mem_cons_self, by omega, h4⟩

/-- A bound at the greatest of the factors holds at a smaller one. -/
theorem less_factor {D D1 S S' m c k : Nat} (hD : D ≤ D1) (hS : S ≤ S') (h : D1 * S' + m * D1 ≤ k + c * D1) : D * S + m * D ≤ k + c * D := by
  have e1 : D1 * S' + m * D1 = (S' + m) * D1 := by rw [Nat.add_mul, Nat.mul_comm D1]
  have e2 : D * S + m * D = (S + m) * D := by rw [Nat.add_mul, Nat.mul_comm D]
  rw [e1] at h
  rw [e2]
  rcases Nat.lt_or_ge (S' + m) c with hc | hc
  · have : (S + m) * D ≤ c * D := Nat.mul_le_mul_right _ (by omega)
    omega
  · obtain ⟨E, hE⟩ : ∃ E, S' + m = E + c := ⟨S' + m - c, by omega⟩
    rw [hE, Nat.add_mul] at h
    have h1 : (S + m) * D ≤ (E + c) * D := Nat.mul_le_mul_right _ (by omega)
    have h2 : E * D ≤ E * D1 := Nat.mul_le_mul_left _ hD
    rw [Nat.add_mul E c] at h1
    omega

theorem step_factor {d a : Nat} (hd : d ≤ 16384) : 2 * ((16384 - d) * a) + 32768 * nxtA d a ≤ 32768 * a := by
  have h1 : nxtA d a * 16384 ≤ a * d := Nat.div_mul_le_self _ _
  have h2 : (16384 - d) * a + a * d = 16384 * a := by rw [Nat.mul_comm a d, ← Nat.add_mul]; congr 1; omega
  generalize (16384 - d) * a = p at *
  generalize a * d = q at *
  omega

theorem range_in {r : Rg} (hr : rangeB r = true) {d : Nat} (h1 : r.d1 ≤ d) (h2 : d ≤ r.d2) (hd : d ≤ 16000) : ∀ (n a x f : Nat), a ≤ x → reachB r.d2 r.A n x = true → (r.A < a ∨ nxtA r.d1 (r.A + 1) ≤ a) → a ≤ f →
    (16384 - d) * sumA d f a + 2 * r.n * (16384 - d) ≤ 32768 * a + (30 + 2 * n) * (16384 - d) := by
  unfold rangeB at hr
  rw [Bool.and_eq_true, Bool.and_eq_true, List.all_eq_true] at hr
  obtain ⟨⟨_, hA⟩, hall⟩ := hr
  have hA := Nat.le_of_ble_eq_true hA
  have small : ∀ a f, a ≤ r.A → nxtA r.d1 (r.A + 1) ≤ a → (16384 - d) * sumA d f a + 2 * r.n * (16384 - d) ≤ 32768 * a + 30 * (16384 - d) := fun a f ha hlo => by
    have h3 := hall a (List.mem_range.2 (by omega))
    unfold tryB at h3
    rw [Bool.and_eq_true, Bool.or_eq_true] at h3
    rcases h3.2 with h4 | h4
    · have h5 : a < nxtA r.d1 (r.A + 1) := Nat.le_of_ble_eq_true h4
      omega
    · have h4 := Nat.le_of_ble_eq_true h4
      have hs : sumA d f a ≤ sumA r.d2 100 a := Nat.le_trans (sumA_full (by omega) 100 a (by omega) f) (sumA_mono h2 100 (Nat.le_refl a))
      exact less_factor (by omega) hs h4
  intro n
  induction n with
  | zero =>
    intro a x f hax hre hlo hf
    have h3 : x ≤ r.A := Nat.le_of_ble_eq_true hre
    exact small a f (by omega) (by omega)
  | succ n ih =>
    intro a x f hax hre hlo hf
    rcases Nat.lt_or_ge r.A a with h3 | h3
    · unfold reachB at hre
      rw [Bool.or_eq_true] at hre
      rcases hre with hre | hre
      · have := Nat.le_of_ble_eq_true hre
        omega
      · obtain ⟨g, rfl⟩ : ∃ g, f = g + 1 := ⟨f - 1, by omega⟩
        have hlt := nxtA_lt (d := d) (a := a) (by omega) (by omega)
        have h4 := ih (nxtA d a) (nxtA r.d2 x) g (nxtA_mono h2 hax) hre (.inr (nxtA_mono h1 h3)) (by omega)
        have h5 := step_factor (d := d) (a := a) (by omega)
        have e : sumA d (g + 1) a = 2 * (a + 1) + sumA d g (nxtA d a) := by
          show (if a = 0 then 0 else _) = _
          rw [if_neg (by omega)]
        rw [e, Nat.mul_add, Nat.mul_left_comm, Nat.mul_add, Nat.mul_one]
        have e2 : (30 + 2 * (n + 1)) * (16384 - d) = (30 + 2 * n) * (16384 - d) + 2 * (16384 - d) := by rw [← Nat.add_mul]; congr 1
        rw [e2]
        generalize (16384 - d) * sumA d g (nxtA d a) = p at *
        generalize (16384 - d) * a = q at *
        omega
    · have h4 := small a f h3 (by omega)
      have e2 : (30 + 2 * (n + 1)) * (16384 - d) = 30 * (16384 - d) + 2 * (n + 1) * (16384 - d) := by rw [← Nat.add_mul]
      rw [e2]
      omega

/-- What the parts take in all. -/
theorem sumA_le {d a f : Nat} (hd : d ≤ 16000) (ha : a ≤ 32480 * (16384 - d) / 32768) (hf : a ≤ f) : (16384 - d) * sumA d f a ≤ 32768 * a + 30 * (16384 - d) := by
  obtain ⟨r, hm, h1, h2⟩ := cover_out ranges 0 d ranges_cover (Nat.zero_le d) hd
  have hr := List.all_eq_true.1 ranges_ok r hm
  have hx : a ≤ 32480 * (16384 - r.d1) / 32768 := Nat.le_trans ha (Nat.div_le_div_right (Nat.mul_le_mul_left _ (by omega)))
  have hre := hr
  unfold rangeB at hre
  rw [Bool.and_eq_true, Bool.and_eq_true, List.all_eq_true] at hre
  obtain ⟨⟨hre, hA⟩, hall⟩ := hre
  have hA := Nat.le_of_ble_eq_true hA
  rcases Nat.lt_or_ge r.A a with h3 | h3
  · have := range_in hr h1 h2 hd r.n a _ f hx hre (.inl h3) hf
    have e : (30 + 2 * r.n) * (16384 - d) = 30 * (16384 - d) + 2 * r.n * (16384 - d) := by rw [← Nat.add_mul]
    rw [e] at this
    omega
  · have h4 := hall a (List.mem_range.2 (by omega))
    unfold tryB at h4
    rw [Bool.and_eq_true] at h4
    have h5 := Nat.le_of_ble_eq_true h4.1
    have hs : sumA d f a ≤ sumA r.d2 100 a := Nat.le_trans (sumA_full (by omega) 100 a (by omega) f) (sumA_mono h2 100 (Nat.le_refl a))
    have := less_factor (D := 16384 - d) (D1 := 16384 - r.d1) (m := 0) (c := 30) (k := 32768 * a) (by omega) hs (by rw [Nat.zero_mul]; exact h5)
    rw [Nat.zero_mul] at this
    exact this

/-! ### Where the parts of numbers lie -/
theorem lapSz_next (fs decay i : Nat) : lapSz fs decay (i + 1) - 1 = nxtA decay (lapSz fs decay i - 1) := by
  rw [lapSz_succ]
  unfold nxtA
  have e : (2 * lapSz fs decay i - 2) * decay / 32768 = (lapSz fs decay i - 1) * decay / 16384 := by
    rw [show 2 * lapSz fs decay i - 2 = 2 * (lapSz fs decay i - 1) by omega, Nat.mul_assoc, show (32768 : Nat) = 2 * 16384 by decide, Nat.mul_div_mul_left _ _ (by decide)]
  rw [e]
  omega

/-- As long as parts are of more than one, what was taken and what will be is what there was at first. -/
theorem lapLo_sum (fs decay : Nat) : ∀ (i f : Nat), (∀ j, j < i → 1 < lapSz fs decay j) → lapLo fs decay i + sumA decay f (lapSz fs decay i - 1) = fs + sumA decay (f + i) (lapSz fs decay 0 - 1)
  | 0, f, _ => rfl
  | i + 1, f, h => by
    have ih := lapLo_sum fs decay i (f + 1) (fun j hj => h j (by omega))
    have h1 := h i (by omega)
    have e : sumA decay (f + 1) (lapSz fs decay i - 1) = 2 * (lapSz fs decay i - 1 + 1) + sumA decay f (nxtA decay (lapSz fs decay i - 1)) := by
      show (if lapSz fs decay i - 1 = 0 then 0 else _) = _
      rw [if_neg (by omega)]
    rw [e, ← lapSz_next] at ih
    rw [lapLo_succ, show f + (i + 1) = f + 1 + i by omega, ← ih]
    omega

theorem lap_total {fs decay : Nat} (h1 : 256 ≤ fs) (h2 : fs ≤ 28000) (h3 : decay ≤ 16000) (f : Nat) : fs + sumA decay f (lapSz fs decay 0 - 1) ≤ 32766 := by
  have h0 : lapSz fs decay 0 - 1 = (32736 - fs) * (16384 - decay) / 32768 := by rw [lapSz_zero]; omega
  rw [h0]
  have hd : (32736 - fs) * (16384 - decay) ≤ 32480 * (16384 - decay) := Nat.mul_le_mul_right _ (by omega)
  have h4 := sumA_le (d := decay) (a := (32736 - fs) * (16384 - decay) / 32768) (f := (32736 - fs) * (16384 - decay) / 32768) h3 (Nat.div_le_div_right hd) (Nat.le_refl _)
  have h5 := sumA_full (d := decay) (by omega) _ _ (Nat.le_refl ((32736 - fs) * (16384 - decay) / 32768)) f
  have h6 := Nat.div_mul_le_self ((32736 - fs) * (16384 - decay)) 32768
  generalize (32736 - fs) * (16384 - decay) / 32768 = a at *
  have h7 : (16384 - decay) * sumA decay a a ≤ (16384 - decay) * (32736 - fs + 30) := by
    rw [Nat.mul_add, Nat.mul_comm (16384 - decay) (32736 - fs), Nat.mul_comm (16384 - decay) 30]
    omega
  have h8 := Nat.le_of_mul_le_mul_left h7 (by omega)
  omega

/-- There is room for the parts of either number, and for one more where they have come down to one. -/
theorem lap_room {fs decay i : Nat} (h1 : 256 ≤ fs) (h2 : fs ≤ 28000) (h3 : decay ≤ 16000) (h : ∀ j, j < i → 1 < lapSz fs decay j) :
    lapLo fs decay i ≤ 32766 ∧ (1 < lapSz fs decay i → lapLo fs decay i + 2 * lapSz fs decay i ≤ 32766) := by
  have e := lapLo_sum fs decay i 1 h
  have t := lap_total h1 h2 h3 (1 + i)
  refine ⟨by omega, fun hs => ?_⟩
  have e2 : sumA decay 1 (lapSz fs decay i - 1) = 2 * (lapSz fs decay i - 1 + 1) + 0 := by
    show (if lapSz fs decay i - 1 = 0 then 0 else _) = _
    rw [if_neg (by omega)]
    rfl
  omega

/-! ### The number that is written in place of another -/
def sgN (v : Int) : Bool := decide (v < 0)
def lapW (fs decay : Nat) (v : Int) : Int := sg (sgN v) (nearN fs decay (sgN v) v.natAbs)

theorem sg_natAbs (neg : Bool) (n : Nat) : (sg neg n).natAbs = n := by
  unfold sg
  cases neg
  · simp
  · simp

/-- The part of a number but 0, by its size and side. -/
theorem lapFl_sg {fs decay n : Nat} (neg : Bool) (hn : 1 ≤ n) : lapFl fs decay (sg neg n) = lapLo fs decay (n - 1) + (if neg then 0 else lapSz fs decay (n - 1)) ∧ lapFh fs decay (sg neg n) = lapFl fs decay (sg neg n) + lapSz fs decay (n - 1) := by
  have h0 : sg neg n ≠ 0 := fun e => by have := sg_natAbs neg n; rw [e] at this; simp at this; omega
  have ha := sg_natAbs neg n
  refine ⟨?_, by unfold lapFh; rw [if_neg h0, ha]⟩
  unfold lapFl
  rw [if_neg h0, ha]
  cases neg
  · rw [if_neg (by show ¬ (n : Int) < 0; omega)]; rfl
  · rw [if_pos (by show -(n : Int) < 0; omega)]; rfl

/-- Where the steps have ended at k (of size z), and x more numbers of one part each were gone by. -/
theorem lap_ended {fs decay : Nat} (h1 : 256 ≤ fs) (h2 : fs ≤ 28000) (h3 : decay ≤ 16000) (neg : Bool) {k z a : Nat} (hk : 1 ≤ k) (hkz : k ≤ z) (hza : z ≤ a) (hz : z = a ∨ 32768 ≤ z) (hall : ∀ j, j < k - 1 → 1 < lapSz fs decay j) (hend : lapSz fs decay (k - 1) = 1 ∨ k = z)
    {l x : Nat} (hl : l = lapLo fs decay (k - 1) + (if neg then 0 else lapSz fs decay (k - 1))) (hx : x = min (z - k) ((32767 - l) / 2)) :
    nearN fs decay neg a = k + x ∧ lapFl fs decay (sg neg (k + x)) = l + 2 * x ∧ lapFh fs decay (sg neg (k + x)) = l + 2 * x + lapSz fs decay (k - 1) ∧ l + 2 * x + lapSz fs decay (k - 1) ≤ 32768 := by
  obtain ⟨r1, r2⟩ := lap_room h1 h2 h3 hall
  have hp := lapSz_pos fs decay (k - 1)
  have hl2 : l ≤ 32767 ∧ l + lapSz fs decay (k - 1) ≤ 32768 := by
    rw [hl]
    cases neg
    · simp only [Bool.false_eq_true, if_false]; by_cases hs : 1 < lapSz fs decay (k - 1)
      · have := r2 hs; omega
      · omega
    · simp only [if_true]; by_cases hs : 1 < lapSz fs decay (k - 1)
      · have := r2 hs; omega
      · omega
  by_cases h1s : lapSz fs decay (k - 1) = 1
  · have hseq := lapSeq_one fs decay (k - 1) h1s
    have hfl : ∀ y, lapFl fs decay (sg neg (k + y)) = l + 2 * y ∧ lapFh fs decay (sg neg (k + y)) = l + 2 * y + 1 := fun y => by
      obtain ⟨g1, g2⟩ := hseq y
      obtain ⟨f1, f2⟩ := lapFl_sg (fs := fs) (decay := decay) (n := k + y) neg (by omega)
      rw [show k + y - 1 = k - 1 + y by omega, g1, g2] at f1
      rw [show k + y - 1 = k - 1 + y by omega, g1, f1] at f2
      rw [h1s] at hl
      refine ⟨by rw [f1, hl]; omega, by rw [f2, hl]; omega⟩
    have hw : lapFl fs decay (sg neg (k + x)) < 32768 := by rw [(hfl x).1]; omega
    refine ⟨?_, (hfl x).1, by rw [(hfl x).2, h1s], by rw [h1s]; omega⟩
    refine nearN_is (by omega) neg hw (by omega) ?_
    have hsmall : 2 * (k + x) ≤ 32768 := by
      have hb := lapLo_add fs decay 0 (k + x - 1)
      rw [Nat.zero_add, lapLo_zero] at hb
      obtain ⟨f1, _⟩ := lapFl_sg (fs := fs) (decay := decay) (n := k + x) neg (by omega)
      omega
    by_cases hxz : x = z - k
    · rcases hz with hz | hz
      · left; omega
      · omega
    · right
      rw [Nat.add_assoc, (hfl (x + 1)).1]
      omega
  · have hkz2 : k = z := by
      rcases hend with h | h
      · exact absurd h h1s
      · exact h
    have hx0 : x = 0 := by omega
    subst hx0
    obtain ⟨f1, f2⟩ := lapFl_sg (fs := fs) (decay := decay) (n := k) neg hk
    have hf : lapFl fs decay (sg neg k) = l := by rw [f1, hl]
    refine ⟨?_, by rw [Nat.add_zero, hf]; omega, by rw [Nat.add_zero, f2, hf]; omega, by omega⟩
    refine nearN_is (by omega) neg (by rw [Nat.add_zero, hf]; omega) (by omega) (.inl ?_)
    have hk2 : 2 * k ≤ 32768 := by
      have hb := lapLo_add fs decay 0 (k - 1)
      rw [Nat.zero_add, lapLo_zero] at hb
      omega
    rcases hz with hz | hz
    · omega
    · omega

/-- What is written in v's place can be written, and its part ends in time. -/
theorem lapW_ok {fs decay : Nat} (h1 : 256 ≤ fs) (v : Int) : lapFl fs decay (lapW fs decay v) < 32768 ∧ lapAll fs decay (lapFl fs decay (lapW fs decay v)) = (lapW fs decay v, lapFl fs decay (lapW fs decay v), lapFh fs decay (lapW fs decay v)) := by
  have h := nearN_ok fs decay (sgN v) v.natAbs
  exact ⟨h, lap_fl (by omega) h⟩

end Go.Proofs.Ytinjkffkkmbioaa
