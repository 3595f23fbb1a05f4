/- Reading bits, as plain numbers: the state of a reader, what each of its steps does to it, and what holds of it ever after. Nothing here is of any program. -/
import Derived.Test.YtgiellpepnbpcaaDoorTabsD
namespace Go.Proofs.YtgiellpepnbpcaaDoor

/-! ### The state, and how it goes on -/
structure St where
  rng : Nat
  val : Nat
  last : Nat
  front : Nat
  raw : Nat
  cnt : Nat
  bad : Bool

def byteAt (b : List Nat) (i : Nat) : Nat := b[i]?.getD 0
def Bytes (b : List Nat) : Prop := ∀ i, byteAt b i < 256

def stepS (b : List Nat) (s : St) : St :=
  { s with cnt := s.cnt + 8, rng := s.rng * 256, last := byteAt b s.front, front := s.front + 1, val := (256 * s.val + 255 - (256 * s.last + byteAt b s.front) / 2 % 256) % 2147483648 }

def onS (b : List Nat) : Nat → St → St
  | 0, s => s
  | n + 1, s => if s.rng ≤ 8388608 then onS b n (stepS b s) else s

def initS (b : List Nat) : St := onS b 3 { rng := 128, val := 127 - byteAt b 0 / 2, last := byteAt b 0, front := 1, raw := 0, cnt := 9, bad := false }

/-- What holds between two reads. -/
structure Inv (s : St) : Prop where
  low : 8388608 < s.rng
  high : s.rng ≤ 2147483648
  val : s.val < s.rng
  last : s.last < 256
  cnt : s.cnt = 8 * s.front + 1 + s.raw

/-- What holds ahead of going on. -/
structure Pre (s : St) : Prop where
  low : 1 ≤ s.rng
  high : s.rng ≤ 2147483648
  val : s.val < s.rng
  last : s.last < 256
  cnt : s.cnt = 8 * s.front + 1 + s.raw

theorem Inv.pre {s : St} (h : Inv s) : Pre s := ⟨by have := h.low; omega, h.high, h.val, h.last, h.cnt⟩

theorem stepS_val {b : List Nat} (hb : Bytes b) {s : St} (h : Pre s) (hr : s.rng ≤ 8388608) :
    (stepS b s).val = 256 * s.val + 255 - (256 * s.last + byteAt b s.front) / 2 % 256 ∧ (stepS b s).val < s.rng * 256 := by
  have h1 := h.val
  have h2 := hb s.front
  have h3 : (256 * s.val + 255 - (256 * s.last + byteAt b s.front) / 2 % 256) < 2147483648 := by omega
  show (256 * s.val + 255 - (256 * s.last + byteAt b s.front) / 2 % 256) % 2147483648 = _ ∧ _
  refine ⟨Nat.mod_eq_of_lt h3, ?_⟩
  show (256 * s.val + 255 - (256 * s.last + byteAt b s.front) / 2 % 256) % 2147483648 < _
  rw [Nat.mod_eq_of_lt h3]
  omega

theorem stepS_pre {b : List Nat} (hb : Bytes b) {s : St} (h : Pre s) (hr : s.rng ≤ 8388608) : Pre (stepS b s) := by
  have hv := stepS_val hb h hr
  refine ⟨?_, ?_, hv.2, hb _, ?_⟩
  · show 1 ≤ s.rng * 256
    have := h.low; omega
  · show s.rng * 256 ≤ 2147483648
    omega
  · show s.cnt + 8 = 8 * (s.front + 1) + 1 + s.raw
    have := h.cnt; omega

theorem onS_inv {b : List Nat} (hb : Bytes b) : ∀ (n : Nat) (s : St), Pre s → 8388608 < s.rng * 256 ^ n → Inv (onS b n s)
  | 0, s, h, hr => by
    have h0 : 8388608 < s.rng := by simpa using hr
    exact ⟨h0, h.high, h.val, h.last, h.cnt⟩
  | n + 1, s, h, hr => by
    unfold onS
    split
    · rename_i hc
      refine onS_inv hb n _ (stepS_pre hb h hc) ?_
      show 8388608 < s.rng * 256 * 256 ^ n
      rw [Nat.pow_succ] at hr
      rw [Nat.mul_assoc, Nat.mul_comm 256]
      exact hr
    · exact ⟨by omega, h.high, h.val, h.last, h.cnt⟩

theorem onS_inv3 {b : List Nat} (hb : Bytes b) {s : St} (h : Pre s) : Inv (onS b 3 s) :=
  onS_inv hb 3 s h (by have := h.low; omega)

theorem initS_inv {b : List Nat} (hb : Bytes b) : Inv (initS b) :=
  onS_inv3 hb ⟨by show 1 ≤ 128; decide, by show 128 ≤ 2147483648; decide, by show 127 - byteAt b 0 / 2 < 128; omega, hb 0, rfl⟩

/-- Going on changes neither what was read nor whether it can be. -/
theorem onS_same (b : List Nat) : ∀ (n : Nat) (s : St), (onS b n s).raw = s.raw ∧ (onS b n s).bad = s.bad
  | 0, _ => ⟨rfl, rfl⟩
  | n + 1, s => by
    unfold onS
    split
    · exact onS_same b n _
    · exact ⟨rfl, rfl⟩

/-! ### How much was read -/
def lenN (n : Nat) : Nat := if n = 0 then 0 else n.log2 + 1
def tellZ (s : St) : Int := (s.cnt : Int) - (lenN s.rng : Int)

theorem lenN_256 {n : Nat} (h : 1 ≤ n) : lenN (n * 256) = lenN n + 8 := by
  unfold lenN
  rw [if_neg (by omega), if_neg (by omega)]
  have h1 : 2 ^ n.log2 ≤ n := Nat.log2_self_le (by omega)
  have h2 : n < 2 ^ (n.log2 + 1) := Nat.lt_log2_self
  have h3 : (n * 256).log2 = n.log2 + 8 := by
    refine (Nat.log2_eq_iff (by omega)).2 ⟨?_, ?_⟩
    · rw [Nat.pow_add]; omega
    · rw [show n.log2 + 8 + 1 = n.log2 + 1 + 8 by omega, Nat.pow_add]; omega
  rw [h3]

theorem lenN_mono {m n : Nat} (h : m ≤ n) : lenN m ≤ lenN n := by
  unfold lenN
  split
  · exact Nat.zero_le _
  · rename_i hm
    rw [if_neg (by omega)]
    have h1 : 2 ^ m.log2 ≤ m := Nat.log2_self_le hm
    have h2 : n < 2 ^ (n.log2 + 1) := Nat.lt_log2_self
    have h3 : m.log2 < n.log2 + 1 := (Nat.pow_lt_pow_iff_right (by decide)).1 (Nat.lt_of_le_of_lt h1 (Nat.lt_of_le_of_lt h h2))
    omega

theorem onS_tell (b : List Nat) : ∀ (n : Nat) (s : St), 1 ≤ s.rng → tellZ (onS b n s) = tellZ s
  | 0, _, _ => rfl
  | n + 1, s, h => by
    unfold onS
    split
    · rw [onS_tell b n (stepS b s) (by show 1 ≤ s.rng * 256; omega)]
      unfold tellZ stepS
      simp only
      rw [lenN_256 h]
      omega
    · rfl

theorem lenN_in {n : Nat} (h : 8388608 < n) (h2 : n ≤ 2147483648) : 24 ≤ lenN n ∧ lenN n ≤ 32 := by
  have h3 := lenN_mono (show 8388608 ≤ n by omega)
  have h4 := lenN_mono h2
  have e1 : lenN 8388608 = 24 := by decide
  have e2 : lenN 2147483648 = 32 := by decide
  omega

theorem Inv.tell {s : St} (h : Inv s) : 8 * (s.front : Int) + s.raw - 31 ≤ tellZ s ∧ tellZ s ≤ 8 * (s.front : Int) + s.raw - 23 := by
  have h1 := lenN_in h.low h.high
  have h2 := h.cnt
  unfold tellZ
  omega

/-! ### To choose, and to take -/
def chooseS (s : St) (ft : Nat) : Nat := ft - min (s.val / (s.rng / ft) + 1) ft

def narrowS (s : St) (fl fh ft : Nat) : St :=
  { s with val := s.val - s.rng / ft * (ft - fh), rng := if 0 < fl then s.rng / ft * (fh - fl) else s.rng - s.rng / ft * (ft - fh) }

def takeS (b : List Nat) (s : St) (fl fh ft : Nat) : St := onS b 3 (narrowS s fl fh ft)

theorem chooseS_lt {s : St} {ft : Nat} (h : 1 ≤ ft) : chooseS s ft < ft := by
  unfold chooseS
  generalize s.val / (s.rng / ft) = q
  omega

/-- What is chosen tells where the value lies. -/
theorem choose_out {s : St} (h : Inv s) {ft fl fh : Nat} (hft : 1 ≤ ft) (hft2 : ft ≤ 32768) (h1 : fl ≤ chooseS s ft) (h2 : chooseS s ft < fh) (h3 : fh ≤ ft) :
    1 ≤ s.rng / ft ∧ s.rng / ft * (ft - fh) ≤ s.val ∧ (0 < fl → s.val < s.rng / ft * (ft - fl)) ∧ s.rng / ft * ft ≤ s.rng := by
  have he : 1 ≤ s.rng / ft := (Nat.le_div_iff_mul_le (by omega)).2 (by have := h.low; omega)
  have hm : s.rng / ft * ft ≤ s.rng := Nat.div_mul_le_self _ _
  unfold chooseS at h1 h2
  generalize s.rng / ft = e at *
  have hq : e * (s.val / e) ≤ s.val := Nat.mul_div_le _ _
  have hq2 : s.val < e * (s.val / e + 1) := Nat.lt_mul_div_succ _ he
  generalize s.val / e = q at *
  refine ⟨he, ?_, fun h0 => ?_, hm⟩
  · have h4 : e * (ft - fh) ≤ e * q := Nat.mul_le_mul_left _ (by omega)
    omega
  · have h4 : e * (q + 1) ≤ e * (ft - fl) := Nat.mul_le_mul_left _ (by omega)
    omega

theorem narrow_pre {s : St} (h : Inv s) {ft fl fh : Nat} (hft : 1 ≤ ft) (hft2 : ft ≤ 32768) (h1 : fl ≤ chooseS s ft) (h2 : chooseS s ft < fh) (h3 : fh ≤ ft) :
    Pre (narrowS s fl fh ft) ∧ (narrowS s fl fh ft).rng ≤ s.rng := by
  obtain ⟨he, a1, a2, a3⟩ := choose_out h hft hft2 h1 h2 h3
  have hv := h.val
  have hh := h.high
  have hlt : fl < fh := by omega
  have m1 : s.rng / ft * (ft - fh) ≤ s.rng / ft * ft := Nat.mul_le_mul_left _ (by omega)
  have m2 : s.rng / ft * (fh - fl) ≤ s.rng / ft * ft := Nat.mul_le_mul_left _ (by omega)
  have m3 : s.rng / ft * (ft - fl) = s.rng / ft * (ft - fh) + s.rng / ft * (fh - fl) := by rw [← Nat.mul_add]; congr 1; omega
  have m4 : s.rng / ft * 1 ≤ s.rng / ft * (fh - fl) := Nat.mul_le_mul_left _ (by omega)
  by_cases h0 : 0 < fl
  · have a4 := a2 h0
    have e1 : (narrowS s fl fh ft).rng = s.rng / ft * (fh - fl) := if_pos h0
    refine ⟨⟨?_, ?_, ?_, h.last, h.cnt⟩, ?_⟩
    · rw [e1]; omega
    · rw [e1]; omega
    · rw [e1]
      show s.val - s.rng / ft * (ft - fh) < _
      omega
    · rw [e1]; omega
  · have e1 : (narrowS s fl fh ft).rng = s.rng - s.rng / ft * (ft - fh) := if_neg h0
    refine ⟨⟨?_, ?_, ?_, h.last, h.cnt⟩, ?_⟩
    · rw [e1]; omega
    · rw [e1]; omega
    · rw [e1]
      show s.val - s.rng / ft * (ft - fh) < _
      omega
    · rw [e1]; omega

theorem takeS_inv {b : List Nat} (hb : Bytes b) {s : St} (h : Inv s) {ft fl fh : Nat} (hft : 1 ≤ ft) (hft2 : ft ≤ 32768) (h1 : fl ≤ chooseS s ft) (h2 : chooseS s ft < fh) (h3 : fh ≤ ft) : Inv (takeS b s fl fh ft) :=
  onS_inv3 hb (narrow_pre h hft hft2 h1 h2 h3).1

theorem tell_narrow {s t : St} (h : t.rng ≤ s.rng) (hc : t.cnt = s.cnt) : tellZ s ≤ tellZ t := by
  have := lenN_mono h
  unfold tellZ
  omega

theorem takeS_tell {b : List Nat} {s : St} (h : Inv s) {ft fl fh : Nat} (hft : 1 ≤ ft) (hft2 : ft ≤ 32768) (h1 : fl ≤ chooseS s ft) (h2 : chooseS s ft < fh) (h3 : fh ≤ ft) : tellZ s ≤ tellZ (takeS b s fl fh ft) := by
  obtain ⟨p, hr⟩ := narrow_pre h hft hft2 h1 h2 h3
  unfold takeS
  rw [onS_tell b 3 _ p.low]
  exact tell_narrow hr rfl

/-! ### Symbols -/
/-- The first symbol below which f lies: its number, what stands ahead of it, what stands at it. -/
def symGo (f : Int) : Nat → Int → List Int → Nat × Int × Int
  | k, p, [] => (k, p, p)
  | k, p, x :: l => if f < 256 - x then (k, p, x) else symGo f (k + 1) x l

theorem falls_last_nonneg : ∀ (l : List Int) (p : Int), falls p l = true → (∃ n, l[n]? = some 0 ∧ n + 1 = l.length) → ∀ x ∈ l, 0 ≤ x
  | [], _, _, _, x, hx => by cases hx
  | y :: l, p, h, ⟨n, hn, hl⟩, x, hx => by
    unfold falls at h
    split at h
    · cases h
    · cases l with
      | nil =>
        simp at hl
        subst hl
        simp at hn
        subst hn
        simp at hx
        omega
      | cons z l =>
        have hn' : n = (n - 1) + 1 := by simp at hl; omega
        rw [hn'] at hn
        have ih := falls_last_nonneg (z :: l) y h ⟨n - 1, by simpa using hn, by simp at hl ⊢; omega⟩
        rcases List.mem_cons.1 hx with rfl | hx
        · unfold falls at h
          split at h
          · cases h
          · have := ih z (by simp)
            omega
        · exact ih x hx

theorem symGo_out (f : Int) : ∀ (l : List Int) (k : Nat) (p : Int), falls p l = true → (∀ x ∈ l, 0 ≤ x) → (∃ x ∈ l, f < 256 - x) → 256 - p ≤ f → p ≤ 256 →
    k ≤ (symGo f k p l).1 ∧ (symGo f k p l).1 < k + l.length ∧ 256 - (symGo f k p l).2.1 ≤ f ∧ f < 256 - (symGo f k p l).2.2 ∧ 0 ≤ (symGo f k p l).2.2 ∧ (symGo f k p l).2.2 < (symGo f k p l).2.1 ∧ (symGo f k p l).2.1 ≤ 256
  | [], _, _, _, _, ⟨_, hx, _⟩, _, _ => by cases hx
  | x :: l, k, p, h, hn, ⟨y, hy, hy2⟩, hp, hp2 => by
    unfold falls at h
    split at h
    · cases h
    · rename_i hpx
      unfold symGo
      split
      · rename_i hc
        have := hn x (by simp)
        simp only [List.length_cons]
        omega
      · rename_i hc
        have hyl : y ∈ l := by
          rcases List.mem_cons.1 hy with rfl | hy
          · omega
          · exact hy
        have ih := symGo_out f l (k + 1) x h (fun z hz => hn z (by simp [hz])) ⟨y, hyl, hy2⟩ (by omega) (by omega)
        simp only [List.length_cons]
        omega

def symS (b : List Nat) (t : List Int) (s : St) : Nat × St :=
  if goodB t then
    (fun r => (r.1, takeS b s (256 - r.2.1).toNat (256 - r.2.2).toNat 256)) (symGo (chooseS s 256 : Nat) 0 256 t)
  else (0, s)

theorem good_out {t : List Int} (h : goodB t = true) : 1 ≤ t.length ∧ t.length ≤ 256 ∧ falls 256 t = true ∧ (∃ n, t[n]? = some 0 ∧ n + 1 = t.length) := by
  unfold goodB at h
  simp only [Bool.and_eq_true, decide_eq_true_eq] at h
  obtain ⟨h1, h2, h3, h4⟩ := h
  refine ⟨h1, h2, h4, t.length - 1, ?_, by omega⟩
  rw [List.getElem?_eq_getElem (by omega)] at h3 ⊢
  simpa using h3

theorem sym_out {t : List Int} (h : goodB t = true) {f : Nat} (hf : f < 256) :
    (symGo f 0 256 t).1 < t.length ∧ 256 - (symGo f 0 256 t).2.1 ≤ (f : Int) ∧ (f : Int) < 256 - (symGo f 0 256 t).2.2 ∧ 0 ≤ (symGo f 0 256 t).2.2 ∧ (symGo f 0 256 t).2.2 < (symGo f 0 256 t).2.1 ∧ (symGo f 0 256 t).2.1 ≤ 256 := by
  obtain ⟨h1, h2, h3, n, hn, hl⟩ := good_out h
  have h0 : (0 : Int) ∈ t := List.mem_of_getElem? hn
  have := symGo_out f t 0 256 h3 (falls_last_nonneg t 256 h3 ⟨n, hn, hl⟩) ⟨0, h0, by omega⟩ (by omega) (by omega)
  omega

theorem symS_inv {b : List Nat} (hb : Bytes b) {s : St} (h : Inv s) (t : List Int) :
    Inv (symS b t s).2 ∧ tellZ s ≤ tellZ (symS b t s).2 ∧ (goodB t = true → (symS b t s).1 < t.length) ∧ (goodB t = false → symS b t s = (0, s)) := by
  unfold symS
  cases hg : goodB t
  · exact ⟨h, Int.le_refl _, fun h => (by cases h), fun _ => rfl⟩
  · obtain ⟨a1, a2, a3, a4, a5, a6⟩ := sym_out hg (chooseS_lt (s := s) (ft := 256) (by decide))
    refine ⟨takeS_inv hb h (by decide) (by decide) ?_ ?_ ?_, takeS_tell h (by decide) (by decide) ?_ ?_ ?_, fun _ => a1, fun h => (by cases h)⟩ <;> omega

/-! ### Flags -/
def flagPre (n : Nat) (s : St) : Bool × St :=
  if s.val < s.rng / 2 ^ n then (true, { s with rng := s.rng / 2 ^ n }) else (false, { s with val := s.val - s.rng / 2 ^ n, rng := s.rng - s.rng / 2 ^ n })
def flagS (b : List Nat) (n : Int) (s : St) : Bool × St :=
  if 1 ≤ n ∧ n ≤ 15 then ((flagPre n.toNat s).1, onS b 3 (flagPre n.toNat s).2) else (false, s)

theorem flag_pre {s : St} (h : Inv s) {n : Nat} (h1 : 1 ≤ n) (h2 : n ≤ 15) : Pre (flagPre n s).2 ∧ (flagPre n s).2.rng ≤ s.rng ∧ (flagPre n s).2.cnt = s.cnt ∧ (flagPre n s).2.bad = s.bad ∧ (flagPre n s).2.raw = s.raw := by
  have hp1 : 2 ^ 1 ≤ 2 ^ n := Nat.pow_le_pow_right (by decide) h1
  have hp2 : 2 ^ n ≤ 2 ^ 15 := Nat.pow_le_pow_right (by decide) h2
  have hd1 : 1 ≤ s.rng / 2 ^ n := (Nat.le_div_iff_mul_le (by omega)).2 (by have := h.low; omega)
  have hd2 : s.rng / 2 ^ n < s.rng := Nat.div_lt_self (by have := h.low; omega) (by omega)
  have hv := h.val
  have hh := h.high
  unfold flagPre
  split
  · rename_i hc
    exact ⟨⟨hd1, by show s.rng / 2 ^ n ≤ _; omega, hc, h.last, h.cnt⟩, by show s.rng / 2 ^ n ≤ s.rng; omega, rfl, rfl, rfl⟩
  · rename_i hc
    refine ⟨⟨?_, ?_, ?_, h.last, h.cnt⟩, ?_, rfl, rfl, rfl⟩
    · show 1 ≤ s.rng - s.rng / 2 ^ n; omega
    · show s.rng - s.rng / 2 ^ n ≤ _; omega
    · show s.val - s.rng / 2 ^ n < s.rng - s.rng / 2 ^ n; omega
    · show s.rng - s.rng / 2 ^ n ≤ s.rng; omega

theorem flagS_inv {b : List Nat} (hb : Bytes b) {s : St} (h : Inv s) (n : Int) : Inv (flagS b n s).2 ∧ tellZ s ≤ tellZ (flagS b n s).2 := by
  unfold flagS
  split
  · rename_i hn
    obtain ⟨p, hr, hc, _⟩ := flag_pre h (n := n.toNat) (by omega) (by omega)
    refine ⟨onS_inv3 hb p, ?_⟩
    show tellZ s ≤ tellZ (onS b 3 (flagPre n.toNat s).2)
    rw [onS_tell b 3 _ p.low]
    exact tell_narrow hr hc
  · exact ⟨h, Int.le_refl _⟩

end Go.Proofs.YtgiellpepnbpcaaDoor
