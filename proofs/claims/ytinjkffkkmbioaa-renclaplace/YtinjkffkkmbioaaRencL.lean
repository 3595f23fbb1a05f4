/- Numbers that are mostly small, as plain numbers: where the part of each number lies, one behind the other, without a search; which numbers can be read, and the nearest that can. Nothing here is of any program. -/
import Derived.Test.YtinjkffkkmbioaaRencQ
namespace Go.Proofs.Ytinjkffkkmbioaa

/-- Where the parts of the i-th number from 0 on either side begin (below 0 first), and how great each of the two is. -/
def lapSeq (fs decay : Nat) : Nat → Nat × Nat
  | 0 => (fs, (32736 - fs) * (16384 - decay) / 32768 + 1)
  | i + 1 => ((lapSeq fs decay i).1 + 2 * (lapSeq fs decay i).2, (2 * (lapSeq fs decay i).2 - 2) * decay / 32768 + 1)

def lapLo (fs decay i : Nat) : Nat := (lapSeq fs decay i).1
def lapSz (fs decay i : Nat) : Nat := (lapSeq fs decay i).2

theorem lapLo_zero (fs decay : Nat) : lapLo fs decay 0 = fs := rfl
theorem lapSz_zero (fs decay : Nat) : lapSz fs decay 0 = (32736 - fs) * (16384 - decay) / 32768 + 1 := rfl
theorem lapLo_succ (fs decay i : Nat) : lapLo fs decay (i + 1) = lapLo fs decay i + 2 * lapSz fs decay i := rfl
theorem lapSz_succ (fs decay i : Nat) : lapSz fs decay (i + 1) = (2 * lapSz fs decay i - 2) * decay / 32768 + 1 := rfl

theorem lapSz_pos (fs decay : Nat) : ∀ i, 1 ≤ lapSz fs decay i
  | 0 => by rw [lapSz_zero]; omega
  | i + 1 => by rw [lapSz_succ]; omega

theorem lapLo_add (fs decay i : Nat) : ∀ d, lapLo fs decay i + 2 * d ≤ lapLo fs decay (i + d)
  | 0 => Nat.le_refl _
  | d + 1 => by
    have h := lapLo_add fs decay i d
    have h2 := lapSz_pos fs decay (i + d)
    rw [← Nat.add_assoc, lapLo_succ]
    omega

theorem lapLo_lt (fs decay : Nat) {i j : Nat} (h : i < j) : lapLo fs decay i + 2 * lapSz fs decay i ≤ lapLo fs decay j := by
  obtain ⟨d, rfl⟩ : ∃ d, j = i + 1 + d := ⟨j - (i + 1), by omega⟩
  have := lapLo_add fs decay (i + 1) d
  rw [lapLo_succ] at this
  omega

/-- Where the parts are of one each, they stay so. -/
theorem lapSeq_one (fs decay i : Nat) (h : lapSz fs decay i = 1) : ∀ d, lapSz fs decay (i + d) = 1 ∧ lapLo fs decay (i + d) = lapLo fs decay i + 2 * d
  | 0 => ⟨h, rfl⟩
  | d + 1 => by
    obtain ⟨h1, h2⟩ := lapSeq_one fs decay i h d
    refine ⟨?_, ?_⟩
    · rw [← Nat.add_assoc, lapSz_succ, h1]; simp
    · rw [← Nat.add_assoc, lapLo_succ, h1, h2]; omega

/-- The number that lies at f, and its part, where f is one of the i-th pair's. -/
def lapPair (fs decay f i : Nat) : Int × Nat × Nat :=
  if f < lapLo fs decay i + lapSz fs decay i then (-((i + 1 : Nat) : Int), lapLo fs decay i, lapLo fs decay i + lapSz fs decay i)
  else (((i + 1 : Nat) : Int), lapLo fs decay i + lapSz fs decay i, lapLo fs decay i + lapSz fs decay i + lapSz fs decay i)

theorem lapF_seq {fs decay f j : Nat} (h1 : lapLo fs decay j ≤ f) (h2 : f < lapLo fs decay j + 2 * lapSz fs decay j) :
    ∀ d i n, i + d = j → f - lapLo fs decay i ≤ n → lapEnd f (lapF f decay n (lapLo fs decay i) (lapSz fs decay i) (i + 1)) = lapPair fs decay f j
  | 0, i, n, hij, _ => by
    obtain rfl : i = j := hij
    rw [lapF_stop n (by omega)]
    have hp := lapSz_pos fs decay i
    unfold lapPair lapEnd
    simp only
    by_cases hs : lapSz fs decay i ≤ 1
    · have e0 : (f - lapLo fs decay i) / 2 = 0 := by omega
      simp only [if_pos hs, e0, Nat.mul_zero, Nat.add_zero]
    · simp only [if_neg hs]
  | d + 1, i, n, hij, hn => by
    have hp := lapSz_pos fs decay i
    have hlt := lapLo_lt fs decay (i := i) (j := j) (by omega)
    by_cases hs : 1 < lapSz fs decay i
    · obtain ⟨m, rfl⟩ : ∃ m, n = m + 1 := ⟨n - 1, by omega⟩
      rw [lapF_step ⟨hs, by omega⟩]
      exact lapF_seq h1 h2 d (i + 1) m (by omega) (by rw [lapLo_succ]; omega)
    · have hs1 : lapSz fs decay i = 1 := by omega
      obtain ⟨g1, g2⟩ := lapSeq_one fs decay i hs1 (d + 1)
      rw [hij] at g1 g2
      rw [g1] at h2
      rw [lapF_stop n (by omega)]
      have e0 : (f - lapLo fs decay i) / 2 = d + 1 := by omega
      unfold lapPair lapEnd
      have e1 : i + 1 + (d + 1) = j + 1 := by omega
      simp only [e0, g1, g2, hs1, e1, if_pos (Nat.le_refl 1)]

/-- What is found at f, without a search. -/
theorem lap_at {fs decay f i : Nat} (hf : f ≤ 32768) (h1 : lapLo fs decay i ≤ f) (h2 : f < lapLo fs decay i + 2 * lapSz fs decay i) : lapAll fs decay f = lapPair fs decay f i := by
  have h0 : fs ≤ lapLo fs decay i := by
    have := lapLo_add fs decay 0 i
    rw [Nat.zero_add, lapLo_zero] at this
    omega
  unfold lapAll
  rw [if_neg (by omega)]
  exact lapF_seq h1 h2 i 0 32768 (Nat.zero_add i) (by rw [lapLo_zero]; omega)

theorem lap_zero {fs decay f : Nat} (h : f < fs) : lapAll fs decay f = (0, 0, fs) := if_pos h

/-! ### The part of a number; the numbers that can be read -/
/-- Where the part of a number begins. -/
def lapFl (fs decay : Nat) (v : Int) : Nat :=
  if v = 0 then 0 else if v < 0 then lapLo fs decay (v.natAbs - 1) else lapLo fs decay (v.natAbs - 1) + lapSz fs decay (v.natAbs - 1)
def lapFh (fs decay : Nat) (v : Int) : Nat :=
  if v = 0 then fs else lapFl fs decay v + lapSz fs decay (v.natAbs - 1)

/-- Its beginning tells the number, and its part. -/
theorem lap_fl {fs decay : Nat} (hfs : 1 ≤ fs) {v : Int} (h : lapFl fs decay v < 32768) : lapAll fs decay (lapFl fs decay v) = (v, lapFl fs decay v, lapFh fs decay v) := by
  have hp := lapSz_pos fs decay (v.natAbs - 1)
  by_cases h0 : v = 0
  · subst h0
    unfold lapFh lapFl
    rw [if_pos rfl, if_pos rfl]
    exact lap_zero (by omega)
  · by_cases h1 : v < 0
    · have e : lapFl fs decay v = lapLo fs decay (v.natAbs - 1) := by unfold lapFl; rw [if_neg h0, if_pos h1]
      have e2 : lapFh fs decay v = lapLo fs decay (v.natAbs - 1) + lapSz fs decay (v.natAbs - 1) := by unfold lapFh; rw [if_neg h0, e]
      rw [e] at h
      rw [e2, e, lap_at (i := v.natAbs - 1) (by omega) (Nat.le_refl _) (by omega), lapPair, if_pos (by omega)]
      have : -((v.natAbs - 1 + 1 : Nat) : Int) = v := by omega
      rw [this]
    · have e : lapFl fs decay v = lapLo fs decay (v.natAbs - 1) + lapSz fs decay (v.natAbs - 1) := by unfold lapFl; rw [if_neg h0, if_neg h1]
      have e2 : lapFh fs decay v = lapLo fs decay (v.natAbs - 1) + lapSz fs decay (v.natAbs - 1) + lapSz fs decay (v.natAbs - 1) := by unfold lapFh; rw [if_neg h0, e]
      rw [e] at h
      rw [e2, e, lap_at (i := v.natAbs - 1) (by omega) (by omega) (by omega), lapPair, if_neg (by omega)]
      have : ((v.natAbs - 1 + 1 : Nat) : Int) = v := by omega
      rw [this]

/-- A number that is found somewhere is found at its own beginning, which lies there or ahead. -/
theorem lap_found {fs decay f : Nat} (hfs : 256 ≤ fs) (hf : f < 32768) : ∃ i, (f < fs ∨ (lapLo fs decay i ≤ f ∧ f < lapLo fs decay i + 2 * lapSz fs decay i)) := by
  by_cases h : f < fs
  · exact ⟨0, .inl h⟩
  · have : ∀ n, f < lapLo fs decay n → ∃ i, lapLo fs decay i ≤ f ∧ f < lapLo fs decay i + 2 * lapSz fs decay i := fun n => by
      induction n with
      | zero => intro hn; rw [lapLo_zero] at hn; omega
      | succ n ih =>
        intro hn
        by_cases hc : f < lapLo fs decay n
        · exact ih hc
        · rw [lapLo_succ] at hn
          exact ⟨n, by omega, hn⟩
    have hb := lapLo_add fs decay 0 32768
    rw [Nat.zero_add, lapLo_zero] at hb
    obtain ⟨i, h1⟩ := this 32768 (by omega)
    exact ⟨i, .inr h1⟩

/-- On either side of 0 parts lie farther out the farther their numbers are from 0. -/
theorem lapFl_mono {fs decay : Nat} (hfs : 1 ≤ fs) {v w : Int} (hs : (0 ≤ v ∧ v < w) ∨ (v ≤ 0 ∧ w < v)) : lapFl fs decay v < lapFl fs decay w := by
  have hp := lapSz_pos fs decay (v.natAbs - 1)
  have hq := lapSz_pos fs decay (w.natAbs - 1)
  have h0 : fs ≤ lapLo fs decay (w.natAbs - 1) := by
    have := lapLo_add fs decay 0 (w.natAbs - 1)
    rw [Nat.zero_add, lapLo_zero] at this
    omega
  have hw : w ≠ 0 := by omega
  by_cases hv : v = 0
  · unfold lapFl
    rw [if_pos hv, if_neg hw]
    split <;> omega
  · have hl := lapLo_lt fs decay (i := v.natAbs - 1) (j := w.natAbs - 1) (by omega)
    unfold lapFl
    rw [if_neg hv, if_neg hw]
    rcases hs with hs | hs
    · rw [if_neg (by omega), if_neg (by omega)]; omega
    · rw [if_pos (by omega), if_pos (by omega)]; omega

/-! ### The nearest that can be read -/
/-- A number of a size and a side. -/
def sg (neg : Bool) (n : Nat) : Int := if neg then -(n : Int) else n

theorem sg_zero (neg : Bool) : sg neg 0 = 0 := by cases neg <;> rfl

/-- The greatest size up to n that can be read on that side. -/
def nearN (fs decay : Nat) (neg : Bool) : Nat → Nat
  | 0 => 0
  | n + 1 => if lapFl fs decay (sg neg (n + 1)) < 32768 then n + 1 else nearN fs decay neg n

theorem nearN_le (fs decay : Nat) (neg : Bool) : ∀ n, nearN fs decay neg n ≤ n
  | 0 => Nat.le_refl _
  | n + 1 => by
    unfold nearN
    split
    · exact Nat.le_refl _
    · exact Nat.le_succ_of_le (nearN_le fs decay neg n)

theorem nearN_ok (fs decay : Nat) (neg : Bool) : ∀ n, lapFl fs decay (sg neg (nearN fs decay neg n)) < 32768
  | 0 => by
    show lapFl fs decay (sg neg 0) < 32768
    rw [sg_zero]
    unfold lapFl
    rw [if_pos rfl]; decide
  | n + 1 => by
    unfold nearN
    split
    · assumption
    · exact nearN_ok fs decay neg n

theorem sg_mono {fs decay : Nat} (hfs : 1 ≤ fs) (neg : Bool) {m n : Nat} (h : m < n) : lapFl fs decay (sg neg m) < lapFl fs decay (sg neg n) := by
  refine lapFl_mono hfs ?_
  cases neg
  · left; show 0 ≤ (m : Int) ∧ (m : Int) < n; omega
  · right; show -(m : Int) ≤ 0 ∧ -(n : Int) < -(m : Int); omega

/-- What is nearest: it can be read, and the next one, if it is not yet what was asked for, can't. -/
theorem nearN_is {fs decay : Nat} (hfs : 1 ≤ fs) (neg : Bool) {w : Nat} (hw : lapFl fs decay (sg neg w) < 32768) : ∀ {n : Nat}, w ≤ n → (w = n ∨ ¬ lapFl fs decay (sg neg (w + 1)) < 32768) → nearN fs decay neg n = w
  | 0, hle, _ => by
    have : w = 0 := by omega
    subst this; rfl
  | n + 1, hle, hn => by
    unfold nearN
    rcases Nat.lt_or_ge n w with hc | hc
    · obtain rfl : w = n + 1 := by omega
      rw [if_pos hw]
    · have hne : ¬ lapFl fs decay (sg neg (w + 1)) < 32768 := by
        rcases hn with hn | hn
        · omega
        · exact hn
      have hbig : ¬ lapFl fs decay (sg neg (n + 1)) < 32768 := by
        rcases Nat.lt_or_ge w n with h1 | h1
        · have := sg_mono (decay := decay) hfs neg (show w + 1 < n + 1 by omega)
          omega
        · obtain rfl : w = n := by omega
          exact hne
      rw [if_neg hbig]
      exact nearN_is hfs neg hw hc (.inr hne)

theorem nearN_next {fs decay : Nat} (neg : Bool) {n : Nat} (h : nearN fs decay neg n ≠ n) : ¬ lapFl fs decay (sg neg (nearN fs decay neg n + 1)) < 32768 := by
  induction n with
  | zero => exact absurd rfl h
  | succ n ih =>
    unfold nearN at h ⊢
    split at h
    · exact absurd rfl h
    · rename_i hc
      rw [if_neg hc]
      by_cases he : nearN fs decay neg n = n
      · rw [he]; exact hc
      · exact ih he

/-- What was written is written as itself, and the next one as it, where it was not what was asked for. -/
theorem nearN_again {fs decay : Nat} (hfs : 1 ≤ fs) (neg : Bool) (n : Nat) : nearN fs decay neg (nearN fs decay neg n) = nearN fs decay neg n ∧ (nearN fs decay neg n ≠ n → nearN fs decay neg (nearN fs decay neg n + 1) = nearN fs decay neg n) :=
  ⟨nearN_is hfs neg (nearN_ok fs decay neg n) (Nat.le_refl _) (.inl rfl), fun h => nearN_is hfs neg (nearN_ok fs decay neg n) (Nat.le_succ _) (.inr (nearN_next neg h))⟩

end Go.Proofs.Ytinjkffkkmbioaa
