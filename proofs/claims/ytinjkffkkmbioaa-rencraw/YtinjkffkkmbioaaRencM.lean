/- What is written is read, as plain numbers: a writer narrows a span of numbers; a reader of bytes that lie in the span reads what narrowed it. Nothing here is of any program. -/
import Derived.Test.YtinjkffkkmbioaaRcN
namespace Go.Proofs.Ytinjkffkkmbioaa

/-! ### The number that bytes begin with -/
def preN (b : List Nat) : Nat → Nat
  | 0 => 0
  | n + 1 => 256 * preN b n + byteAt b n

/-- The first seven bits and eight for each time that a reader went on. -/
def codeN (b : List Nat) (k : Nat) : Nat := preN b (1 + k) / 2

theorem codeN_succ {b : List Nat} (hb : Bytes b) (k : Nat) : codeN b (k + 1) = 256 * codeN b k + (256 * byteAt b k + byteAt b (1 + k)) / 2 % 256 := by
  have h1 := hb (1 + k)
  have e1 : preN b (1 + (k + 1)) = 256 * preN b (1 + k) + byteAt b (1 + k) := rfl
  have e2 : preN b (1 + k) = 256 * preN b k + byteAt b k := by
    rw [Nat.add_comm]; rfl
  unfold codeN
  rw [e1]
  omega

theorem codeN_div {b : List Nat} (hb : Bytes b) (k : Nat) : codeN b (k + 1) / 256 = codeN b k := by
  rw [codeN_succ hb]
  omega

/-! ### The writer's span -/
structure Sp where
  low : Nat
  rng : Nat
  k : Nat

def normE : Nat → Sp → Sp
  | 0, e => e
  | n + 1, e => if e.rng ≤ 8388608 then normE n { low := e.low * 256, rng := e.rng * 256, k := e.k + 1 } else e

def narrowE (e : Sp) (fl fh ft : Nat) : Sp :=
  { e with low := if 0 < fl then e.low + (e.rng - e.rng / ft * (ft - fl)) else e.low, rng := if 0 < fl then e.rng / ft * (fh - fl) else e.rng - e.rng / ft * (ft - fh) }

def putE (e : Sp) (fl fh ft : Nat) : Sp := normE 3 (narrowE e fl fh ft)

def startE : Sp := normE 3 { low := 0, rng := 128, k := 0 }

/-- Do these bytes lie in the span? -/
def In (b : List Nat) (e : Sp) : Prop := e.low ≤ codeN b e.k ∧ codeN b e.k < e.low + e.rng

/-- A reader of these bytes stands where the writer stood. -/
structure Rel (b : List Nat) (s : St) (e : Sp) : Prop where
  rng : s.rng = e.rng
  val : s.val + codeN b e.k + 1 = e.low + e.rng
  last : s.last = byteAt b e.k
  front : s.front = 1 + e.k

theorem Rel.inside {b : List Nat} {s : St} {e : Sp} (h : Rel b s e) (hv : s.val < s.rng) : In b e := by
  have h1 := h.val
  have h2 := h.rng
  unfold In
  omega

theorem rel_step {b : List Nat} (hb : Bytes b) {s : St} {e : Sp} (h : Rel b s e) (hp : Pre s) (hr : s.rng ≤ 8388608) :
    Rel b (stepS b s) { low := e.low * 256, rng := e.rng * 256, k := e.k + 1 } := by
  have h1 := h.val
  have h2 := h.rng
  have hs := (stepS_val hb hp hr).1
  have hc := codeN_succ hb e.k
  have hf := h.front
  have hl := h.last
  refine ⟨?_, ?_, ?_, ?_⟩
  · show s.rng * 256 = e.rng * 256
    rw [h2]
  · show (stepS b s).val + codeN b (e.k + 1) + 1 = e.low * 256 + e.rng * 256
    rw [hs, hc, hl, hf]
    have hq : (256 * byteAt b e.k + byteAt b (1 + e.k)) / 2 % 256 < 256 := Nat.mod_lt _ (by decide)
    generalize (256 * byteAt b e.k + byteAt b (1 + e.k)) / 2 % 256 = q at *
    omega
  · show byteAt b s.front = byteAt b (e.k + 1)
    rw [hf]
    congr 1
    omega
  · show s.front + 1 = 1 + (e.k + 1)
    omega

theorem rel_on {b : List Nat} (hb : Bytes b) : ∀ (n : Nat) (s : St) (e : Sp), Rel b s e → Pre s → Rel b (onS b n s) (normE n e)
  | 0, _, _, h, _ => h
  | n + 1, s, e, h, hp => by
    unfold onS normE
    rw [h.rng]
    split
    · rename_i hc
      rw [← h.rng] at hc
      exact rel_on hb n _ _ (rel_step hb h hp hc) (stepS_pre hb hp hc)
    · exact h

/-- Bytes in the narrower span lie in the wider one. -/
theorem in_norm {b : List Nat} (hb : Bytes b) : ∀ (n : Nat) (e : Sp), In b (normE n e) → In b e
  | 0, _, h => h
  | n + 1, e, h => by
    unfold normE at h
    split at h
    · have h1 := in_norm hb n _ h
      have h2 := codeN_div hb e.k
      unfold In at h1 ⊢
      simp only at h1
      omega
    · exact h

theorem narrow_le {e : Sp} {fl fh ft : Nat} (h1 : fl < fh) (h3 : fh ≤ ft) :
    e.low ≤ (narrowE e fl fh ft).low ∧ (narrowE e fl fh ft).low + (narrowE e fl fh ft).rng + e.rng / ft * (ft - fh) = e.low + e.rng := by
  have hm : e.rng / ft * ft ≤ e.rng := Nat.div_mul_le_self _ _
  have m1 : e.rng / ft * (ft - fh) ≤ e.rng / ft * ft := Nat.mul_le_mul_left _ (by omega)
  have m2 : e.rng / ft * (ft - fl) ≤ e.rng / ft * ft := Nat.mul_le_mul_left _ (by omega)
  have m3 : e.rng / ft * (ft - fl) = e.rng / ft * (ft - fh) + e.rng / ft * (fh - fl) := by rw [← Nat.mul_add]; congr 1; omega
  unfold narrowE
  by_cases h0 : 0 < fl
  · simp only [if_pos h0]
    omega
  · simp only [if_neg h0]
    omega

theorem in_narrow {b : List Nat} {e : Sp} {fl fh ft : Nat} (h1 : fl < fh) (h3 : fh ≤ ft) (h : In b (narrowE e fl fh ft)) : In b e := by
  have hn := narrow_le (e := e) h1 h3
  have hk : (narrowE e fl fh ft).k = e.k := rfl
  unfold In at h ⊢
  rw [hk] at h
  omega

theorem in_put {b : List Nat} (hb : Bytes b) {e : Sp} {fl fh ft : Nat} (h1 : fl < fh) (h3 : fh ≤ ft) (h : In b (putE e fl fh ft)) : In b e :=
  in_narrow h1 h3 (in_norm hb 3 _ h)

/-- What is chosen lies where the writer put it. -/
theorem choose_back {b : List Nat} {s : St} {e : Sp} (h : Rel b s e) (hi : Inv s) {fl fh ft : Nat} (h1 : fl < fh) (h3 : fh ≤ ft) (hft : ft ≤ 32768) (hin : In b (narrowE e fl fh ft)) :
    fl ≤ chooseS s ft ∧ chooseS s ft < fh := by
  have hv := h.val
  have hr := h.rng
  have he : 1 ≤ e.rng / ft := (Nat.le_div_iff_mul_le (by omega)).2 (by have := hi.low; omega)
  have hn := narrow_le (e := e) h1 h3
  have hk : (narrowE e fl fh ft).k = e.k := rfl
  unfold In at hin
  rw [hk] at hin
  have a1 : e.rng / ft * (ft - fh) ≤ s.val := by omega
  have a2 : 0 < fl → s.val < e.rng / ft * (ft - fl) := fun h0 => by
    have e1 : (narrowE e fl fh ft).low = e.low + (e.rng - e.rng / ft * (ft - fl)) := if_pos h0
    have hm : e.rng / ft * ft ≤ e.rng := Nat.div_mul_le_self _ _
    have m2 : e.rng / ft * (ft - fl) ≤ e.rng / ft * ft := Nat.mul_le_mul_left _ (by omega)
    omega
  unfold chooseS
  rw [hr]
  generalize e.rng / ft = r at *
  have hq : ft - fh ≤ s.val / r := (Nat.le_div_iff_mul_le he).2 (by rw [Nat.mul_comm]; exact a1)
  refine ⟨?_, ?_⟩
  · rcases Nat.eq_zero_or_pos fl with h0 | h0
    · omega
    · have hq2 : s.val / r < ft - fl := (Nat.div_lt_iff_lt_mul he).2 (by rw [Nat.mul_comm]; exact a2 h0)
      generalize s.val / r = q at *
      omega
  · generalize s.val / r = q at *
    omega

theorem rel_narrow {b : List Nat} {s : St} {e : Sp} (h : Rel b s e) {fl fh ft : Nat} (h1 : fl < fh) (h3 : fh ≤ ft) (hin : In b (narrowE e fl fh ft)) : Rel b (narrowS s fl fh ft) (narrowE e fl fh ft) := by
  have hv := h.val
  have hr := h.rng
  have hn := narrow_le (e := e) h1 h3
  have hk : (narrowE e fl fh ft).k = e.k := rfl
  unfold In at hin
  rw [hk] at hin
  refine ⟨?_, ?_, h.last, h.front⟩
  · unfold narrowS narrowE
    simp only [hr]
  · show s.val - s.rng / ft * (ft - fh) + codeN b e.k + 1 = _
    rw [hr]
    omega

theorem rel_put {b : List Nat} (hb : Bytes b) {s : St} {e : Sp} (h : Rel b s e) (hi : Inv s) {fl fh ft : Nat} (h1 : fl < fh) (h3 : fh ≤ ft) (hft : ft ≤ 32768) (hin : In b (putE e fl fh ft)) :
    (fl ≤ chooseS s ft ∧ chooseS s ft < fh) ∧ Rel b (takeS b s fl fh ft) (putE e fl fh ft) := by
  have hin2 := in_norm hb 3 _ hin
  have hc := choose_back h hi h1 h3 hft hin2
  exact ⟨hc, rel_on hb 3 _ _ (rel_narrow h h1 h3 hin2) (narrow_pre hi (by omega) hft hc.1 hc.2 h3).1⟩

/-- At first the reader stands where the writer began. -/
theorem rel_start {b : List Nat} (hb : Bytes b) : Rel b (initS b) startE := by
  have h0 := hb 0
  refine rel_on hb 3 _ _ ⟨rfl, ?_, rfl, rfl⟩ ⟨by show 1 ≤ 128; decide, by show 128 ≤ 2147483648; decide, by show 127 - byteAt b 0 / 2 < 128; omega, h0, rfl⟩
  show 127 - byteAt b 0 / 2 + (256 * 0 + byteAt b 0) / 2 + 1 = 0 + 128
  omega

theorem startE_is : startE = { low := 0, rng := 2147483648, k := 3 } := by
  unfold startE normE
  rw [if_pos (by show 128 ≤ 8388608; decide)]
  unfold normE
  rw [if_pos (by show 128 * 256 ≤ 8388608; decide)]
  unfold normE
  rw [if_pos (by show 128 * 256 * 256 ≤ 8388608; decide)]
  unfold normE
  simp

/-! ### Flags -/
def flagE (v : Bool) (n : Nat) (e : Sp) : Sp :=
  if v then { e with low := e.low + (e.rng - e.rng / 2 ^ n), rng := e.rng / 2 ^ n } else { e with rng := e.rng - e.rng / 2 ^ n }
def putFlagE (v : Bool) (n : Nat) (e : Sp) : Sp := normE 3 (flagE v n e)

theorem flagE_in {b : List Nat} {e : Sp} {v : Bool} {n : Nat} (h : In b (flagE v n e)) : In b e := by
  have hd : e.rng / 2 ^ n ≤ e.rng := Nat.div_le_self _ _
  unfold In flagE at *
  generalize e.rng / 2 ^ n = q at *
  cases v
  · simp only [Bool.false_eq_true, if_false] at h; omega
  · simp only [if_true] at h; omega

theorem rel_flag {b : List Nat} (hb : Bytes b) {s : St} {e : Sp} (h : Rel b s e) (hi : Inv s) {v : Bool} {n : Nat} (h1 : 1 ≤ n) (h2 : n ≤ 15) (hin : In b (putFlagE v n e)) :
    (flagS b n s).1 = v ∧ Rel b (flagS b n s).2 (putFlagE v n e) := by
  have hin2 := in_norm hb 3 _ hin
  have hv := h.val
  have hr := h.rng
  obtain ⟨hp, _⟩ := flag_pre hi h1 h2
  have hd : e.rng / 2 ^ n ≤ e.rng := Nat.div_le_self _ _
  have hcase : (s.val < s.rng / 2 ^ n ↔ v = true) := by
    rw [hr]
    unfold In flagE at hin2
    generalize e.rng / 2 ^ n = q at *
    cases v
    · simp only [Bool.false_eq_true, if_false] at hin2
      constructor
      · intro hh; omega
      · intro hh; cases hh
    · simp only [if_true] at hin2
      constructor
      · intro _; rfl
      · intro _; omega
  have hf : flagS b n s = ((flagPre n s).1, onS b 3 (flagPre n s).2) := by
    unfold flagS
    rw [if_pos (by omega)]
    rfl
  rw [hf]
  have hrel : (flagPre n s).1 = v ∧ Rel b (flagPre n s).2 (flagE v n e) := by
    unfold flagPre
    cases v
    · have hc : ¬ s.val < s.rng / 2 ^ n := fun hh => by have := hcase.1 hh; cases this
      rw [if_neg hc]
      rw [hr] at hc
      refine ⟨rfl, ?_, ?_, h.last, h.front⟩
      · show s.rng - s.rng / 2 ^ n = e.rng - e.rng / 2 ^ n
        rw [hr]
      · show s.val - s.rng / 2 ^ n + codeN b e.k + 1 = e.low + (e.rng - e.rng / 2 ^ n)
        rw [hr]
        omega
    · have hc : s.val < s.rng / 2 ^ n := hcase.2 rfl
      rw [if_pos hc]
      rw [hr] at hc
      refine ⟨rfl, ?_, ?_, h.last, h.front⟩
      · show s.rng / 2 ^ n = e.rng / 2 ^ n
        rw [hr]
      · show s.val + codeN b e.k + 1 = e.low + (e.rng - e.rng / 2 ^ n) + e.rng / 2 ^ n
        omega
  exact ⟨hrel.1, rel_on hb 3 _ _ hrel.2 hp⟩

/-! ### Symbols -/
def symFl (t : List Int) (v : Nat) : Nat := if v = 0 then 0 else (256 - t[v - 1]?.getD 0).toNat
def symFh (t : List Int) (v : Nat) : Nat := (256 - t[v]?.getD 0).toNat

/-- Where f lies in a symbol's part, that symbol is found. -/
theorem symGo_at (f : Int) : ∀ (l : List Int) (k : Nat) (p : Int) (v : Nat), falls p l = true → v < l.length → (if v = 0 then 256 - p else 256 - l[v - 1]?.getD 0) ≤ f → f < 256 - l[v]?.getD 0 →
    symGo f k p l = (k + v, (if v = 0 then p else l[v - 1]?.getD 0), l[v]?.getD 0)
  | [], _, _, _, _, hv, _, _ => by simp at hv
  | x :: l, k, p, 0, h, hv, h1, h2 => by
    simp at h1 h2
    unfold symGo
    rw [if_pos (by omega)]
    simp
  | x :: l, k, p, v + 1, h, hv, h1, h2 => by
    unfold falls at h
    split at h
    · cases h
    · simp only [List.length_cons] at hv
      simp only [Nat.add_eq_zero_iff, Nat.one_ne_zero, and_false, if_false, Nat.add_sub_cancel, List.getElem?_cons_succ] at h1 h2 ⊢
      have hx : 256 - x ≤ f := by
        cases v with
        | zero => simpa using h1
        | succ u =>
          have hfall : ∀ (m : List Int) (q : Int) (j : Nat), falls q m = true → j < m.length → m[j]?.getD 0 < q := by
            intro m
            induction m with
            | nil => intro q j _ hj; simp at hj
            | cons y m ih =>
              intro q j hq hj
              unfold falls at hq
              split at hq
              · cases hq
              · cases j with
                | zero => simp; omega
                | succ j =>
                  have := ih y j hq (by simpa using hj)
                  simp only [List.getElem?_cons_succ]
                  omega
          have h3 := hfall l x u h (by omega)
          simp only [List.getElem?_cons_succ] at h1
          omega
      unfold symGo
      rw [if_neg (by omega)]
      have ih := symGo_at f l (k + 1) x v h (by omega) (by
        cases v with
        | zero => simpa using hx
        | succ u => simpa using h1) h2
      rw [ih]
      cases v with
      | zero => simp
      | succ u => simp [Nat.add_assoc, Nat.add_comm 1]

end Go.Proofs.Ytinjkffkkmbioaa
