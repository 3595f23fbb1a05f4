/- Texts put together: RcM TocM TocN TocO TocP. -/
import Derived.Test.YtgiellpepnbpcaaDoorMA
/- Reading bits, as plain numbers: the state of a reader, what each of its steps does to it, and what holds of it ever after. Nothing here is of any program. -/
namespace Go.Proofs.YtgiellpepnbpcaaDoor

/-! ### The state, and how it goes on -/
structure St where
  rng : Nat
  val : Nat
  last : Nat
  front : Nat
  raw : Nat
  cnt : Nat
  bad : Bool

def byteAt (b : List Nat) (i : Nat) : Nat := b[i]?.getD 0
def Bytes (b : List Nat) : Prop := ∀ i, byteAt b i < 256

def stepS (b : List Nat) (s : St) : St :=
  { s with cnt := s.cnt + 8, rng := s.rng * 256, last := byteAt b s.front, front := s.front + 1, val := (256 * s.val + 255 - (256 * s.last + byteAt b s.front) / 2 % 256) % 2147483648 }

def onS (b : List Nat) : Nat → St → St
  | 0, s => s
  | n + 1, s => if s.rng ≤ 8388608 then onS b n (stepS b s) else s

def initS (b : List Nat) : St := onS b 3 { rng := 128, val := 127 - byteAt b 0 / 2, last := byteAt b 0, front := 1, raw := 0, cnt := 9, bad := false }

/-- What holds between two reads. -/
structure Inv (s : St) : Prop where
  low : 8388608 < s.rng
  high : s.rng ≤ 2147483648
  val : s.val < s.rng
  last : s.last < 256
  cnt : s.cnt = 8 * s.front + 1 + s.raw

/-- What holds ahead of going on. -/
structure Pre (s : St) : Prop where
  low : 1 ≤ s.rng
  high : s.rng ≤ 2147483648
  val : s.val < s.rng
  last : s.last < 256
  cnt : s.cnt = 8 * s.front + 1 + s.raw

theorem Inv.pre {s : St} (h : Inv s) : Pre s := ⟨by have := h.low; omega, h.high, h.val, h.last, h.cnt⟩

theorem stepS_val {b : List Nat} (hb : Bytes b) {s : St} (h : Pre s) (hr : s.rng ≤ 8388608) :
    (stepS b s).val = 256 * s.val + 255 - (256 * s.last + byteAt b s.front) / 2 % 256 ∧ (stepS b s).val < s.rng * 256 := by
  have h1 := h.val
  have h2 := hb s.front
  have h3 : (256 * s.val + 255 - (256 * s.last + byteAt b s.front) / 2 % 256) < 2147483648 := by omega
  show (256 * s.val + 255 - (256 * s.last + byteAt b s.front) / 2 % 256) % 2147483648 = _ ∧ _
  refine ⟨Nat.mod_eq_of_lt h3, ?_⟩
  show (256 * s.val + 255 - (256 * s.last + byteAt b s.front) / 2 % 256) % 2147483648 < _
  rw [Nat.mod_eq_of_lt h3]
  omega

theorem stepS_pre {b : List Nat} (hb : Bytes b) {s : St} (h : Pre s) (hr : s.rng ≤ 8388608) : Pre (stepS b s) := by
  have hv := stepS_val hb h hr
  refine ⟨?_, ?_, hv.2, hb _, ?_⟩
  · show 1 ≤ s.rng * 256
    have := h.low; omega
  · show s.rng * 256 ≤ 2147483648
    omega
  · show s.cnt + 8 = 8 * (s.front + 1) + 1 + s.raw
    have := h.cnt; omega

theorem onS_inv {b : List Nat} (hb : Bytes b) : ∀ (n : Nat) (s : St), Pre s → 8388608 < s.rng * 256 ^ n → Inv (onS b n s)
  | 0, s, h, hr => by
    have h0 : 8388608 < s.rng := by simpa using hr
    exact ⟨h0, h.high, h.val, h.last, h.cnt⟩
  | n + 1, s, h, hr => by
    unfold onS
    split
    · rename_i hc
      refine onS_inv hb n _ (stepS_pre hb h hc) ?_
      show 8388608 < s.rng * 256 * 256 ^ n
      rw [Nat.pow_succ] at hr
      rw [Nat.mul_assoc, Nat.mul_comm 256]
      exact hr
    · exact ⟨by omega, h.high, h.val, h.last, h.cnt⟩

theorem onS_inv3 {b : List Nat} (hb : Bytes b) {s : St} (h : Pre s) : Inv (onS b 3 s) :=
  onS_inv hb 3 s h (by have := h.low; omega)

theorem initS_inv {b : List Nat} (hb : Bytes b) : Inv (initS b) :=
  onS_inv3 hb ⟨by show 1 ≤ 128; decide, by show 128 ≤ 2147483648; decide, by show 127 - byteAt b 0 / 2 < 128; omega, hb 0, rfl⟩

/-- Going on changes neither what was read nor whether it can be. -/
theorem onS_same (b : List Nat) : ∀ (n : Nat) (s : St), (onS b n s).raw = s.raw ∧ (onS b n s).bad = s.bad
  | 0, _ => ⟨rfl, rfl⟩
  | n + 1, s => by
    unfold onS
    split
    · exact onS_same b n _
    · exact ⟨rfl, rfl⟩

/-! ### How much was read -/
def lenN (n : Nat) : Nat := if n = 0 then 0 else n.log2 + 1
def tellZ (s : St) : Int := (s.cnt : Int) - (lenN s.rng : Int)

theorem lenN_256 {n : Nat} (h : 1 ≤ n) : lenN (n * 256) = lenN n + 8 := by
  unfold lenN
  rw [if_neg (by omega), if_neg (by omega)]
  have h1 : 2 ^ n.log2 ≤ n := Nat.log2_self_le (by omega)
  have h2 : n < 2 ^ (n.log2 + 1) := Nat.lt_log2_self
  have h3 : (n * 256).log2 = n.log2 + 8 := by
    refine (Nat.log2_eq_iff (by omega)).2 ⟨?_, ?_⟩
    · rw [Nat.pow_add]; omega
    · rw [show n.log2 + 8 + 1 = n.log2 + 1 + 8 by omega, Nat.pow_add]; omega
  rw [h3]

theorem lenN_mono {m n : Nat} (h : m ≤ n) : lenN m ≤ lenN n := by
  unfold lenN
  split
  · exact Nat.zero_le _
  · rename_i hm
    rw [if_neg (by omega)]
    have h1 : 2 ^ m.log2 ≤ m := Nat.log2_self_le hm
    have h2 : n < 2 ^ (n.log2 + 1) := Nat.lt_log2_self
    have h3 : m.log2 < n.log2 + 1 := (Nat.pow_lt_pow_iff_right (by decide)).1 (Nat.lt_of_le_of_lt h1 (Nat.lt_of_le_of_lt h h2))
    omega

theorem onS_tell (b : List Nat) : ∀ (n : Nat) (s : St), 1 ≤ s.rng → tellZ (onS b n s) = tellZ s
  | 0, _, _ => rfl
  | n + 1, s, h => by
    unfold onS
    split
    · rw [onS_tell b n (stepS b s) (by show 1 ≤ s.rng * 256; omega)]
      unfold tellZ stepS
      simp only
      rw [lenN_256 h]
      omega
    · rfl

theorem lenN_in {n : Nat} (h : 8388608 < n) (h2 : n ≤ 2147483648) : 24 ≤ lenN n ∧ lenN n ≤ 32 := by
  have h3 := lenN_mono (show 8388608 ≤ n by omega)
  have h4 := lenN_mono h2
  have e1 : lenN 8388608 = 24 := by decide
  have e2 : lenN 2147483648 = 32 := by decide
  omega

theorem Inv.tell {s : St} (h : Inv s) : 8 * (s.front : Int) + s.raw - 31 ≤ tellZ s ∧ tellZ s ≤ 8 * (s.front : Int) + s.raw - 23 := by
  have h1 := lenN_in h.low h.high
  have h2 := h.cnt
  unfold tellZ
  omega

/-! ### To choose, and to take -/
def chooseS (s : St) (ft : Nat) : Nat := ft - min (s.val / (s.rng / ft) + 1) ft

def narrowS (s : St) (fl fh ft : Nat) : St :=
  { s with val := s.val - s.rng / ft * (ft - fh), rng := if 0 < fl then s.rng / ft * (fh - fl) else s.rng - s.rng / ft * (ft - fh) }

def takeS (b : List Nat) (s : St) (fl fh ft : Nat) : St := onS b 3 (narrowS s fl fh ft)

theorem chooseS_lt {s : St} {ft : Nat} (h : 1 ≤ ft) : chooseS s ft < ft := by
  unfold chooseS
  generalize s.val / (s.rng / ft) = q
  omega

/-- What is chosen tells where the value lies. -/
theorem choose_out {s : St} (h : Inv s) {ft fl fh : Nat} (hft : 1 ≤ ft) (hft2 : ft ≤ 32768) (h1 : fl ≤ chooseS s ft) (h2 : chooseS s ft < fh) (h3 : fh ≤ ft) :
    1 ≤ s.rng / ft ∧ s.rng / ft * (ft - fh) ≤ s.val ∧ (0 < fl → s.val < s.rng / ft * (ft - fl)) ∧ s.rng / ft * ft ≤ s.rng := by
  have he : 1 ≤ s.rng / ft := (Nat.le_div_iff_mul_le (by omega)).2 (by have := h.low; omega)
  have hm : s.rng / ft * ft ≤ s.rng := Nat.div_mul_le_self _ _
  unfold chooseS at h1 h2
  generalize s.rng / ft = e at *
  have hq : e * (s.val / e) ≤ s.val := Nat.mul_div_le _ _
  have hq2 : s.val < e * (s.val / e + 1) := Nat.lt_mul_div_succ _ he
  generalize s.val / e = q at *
  refine ⟨he, ?_, fun h0 => ?_, hm⟩
  · have h4 : e * (ft - fh) ≤ e * q := Nat.mul_le_mul_left _ (by omega)
    omega
  · have h4 : e * (q + 1) ≤ e * (ft - fl) := Nat.mul_le_mul_left _ (by omega)
    omega

theorem narrow_pre {s : St} (h : Inv s) {ft fl fh : Nat} (hft : 1 ≤ ft) (hft2 : ft ≤ 32768) (h1 : fl ≤ chooseS s ft) (h2 : chooseS s ft < fh) (h3 : fh ≤ ft) :
    Pre (narrowS s fl fh ft) ∧ (narrowS s fl fh ft).rng ≤ s.rng := by
  obtain ⟨he, a1, a2, a3⟩ := choose_out h hft hft2 h1 h2 h3
  have hv := h.val
  have hh := h.high
  have hlt : fl < fh := by omega
  have m1 : s.rng / ft * (ft - fh) ≤ s.rng / ft * ft := Nat.mul_le_mul_left _ (by omega)
  have m2 : s.rng / ft * (fh - fl) ≤ s.rng / ft * ft := Nat.mul_le_mul_left _ (by omega)
  have m3 : s.rng / ft * (ft - fl) = s.rng / ft * (ft - fh) + s.rng / ft * (fh - fl) := by rw [← Nat.mul_add]; congr 1; omega
  have m4 : s.rng / ft * 1 ≤ s.rng / ft * (fh - fl) := Nat.mul_le_mul_left _ (by omega)
  by_cases h0 : 0 < fl
  · have a4 := a2 h0
    have e1 : (narrowS s fl fh ft).rng = s.rng / ft * (fh - fl) := if_pos h0
    refine ⟨⟨?_, ?_, ?_, h.last, h.cnt⟩, ?_⟩
    · rw [e1]; omega
    · rw [e1]; omega
    · rw [e1]
      show s.val - s.rng / ft * (ft - fh) < _
      omega
    · rw [e1]; omega
  · have e1 : (narrowS s fl fh ft).rng = s.rng - s.rng / ft * (ft - fh) := if_neg h0
    refine ⟨⟨?_, ?_, ?_, h.last, h.cnt⟩, ?_⟩
    · rw [e1]; omega
    · rw [e1]; omega
    · rw [e1]
      show s.val - s.rng / ft * (ft - fh) < _
      omega
    · rw [e1]; omega

theorem takeS_inv {b : List Nat} (hb : Bytes b) {s : St} (h : Inv s) {ft fl fh : Nat} (hft : 1 ≤ ft) (hft2 : ft ≤ 32768) (h1 : fl ≤ chooseS s ft) (h2 : chooseS s ft < fh) (h3 : fh ≤ ft) : Inv (takeS b s fl fh ft) :=
  onS_inv3 hb (narrow_pre h hft hft2 h1 h2 h3).1

theorem tell_narrow {s t : St} (h : t.rng ≤ s.rng) (hc : t.cnt = s.cnt) : tellZ s ≤ tellZ t := by
  have := lenN_mono h
  unfold tellZ
  omega

theorem takeS_tell {b : List Nat} {s : St} (h : Inv s) {ft fl fh : Nat} (hft : 1 ≤ ft) (hft2 : ft ≤ 32768) (h1 : fl ≤ chooseS s ft) (h2 : chooseS s ft < fh) (h3 : fh ≤ ft) : tellZ s ≤ tellZ (takeS b s fl fh ft) := by
  obtain ⟨p, hr⟩ := narrow_pre h hft hft2 h1 h2 h3
  unfold takeS
  rw [onS_tell b 3 _ p.low]
  exact tell_narrow hr rfl

/-! ### Symbols -/
/-- The first symbol below which f lies: its number, what stands ahead of it, what stands at it. -/
def symGo (f : Int) : Nat → Int → List Int → Nat × Int × Int
  | k, p, [] => (k, p, p)
  | k, p, x :: l => if f < 256 - x then (k, p, x) else symGo f (k + 1) x l

theorem falls_last_nonneg : ∀ (l : List Int) (p : Int), falls p l = true → (∃ n, l[n]? = some 0 ∧ n + 1 = l.length) → ∀ x ∈ l, 0 ≤ x
  | [], _, _, _, x, hx => by cases hx
  | y :: l, p, h, ⟨n, hn, hl⟩, x, hx => by
    unfold falls at h
    split at h
    · cases h
    · cases l with
      | nil =>
        simp at hl
        subst hl
        simp at hn
        subst hn
        simp at hx
        omega
      | cons z l =>
        have hn' : n = (n - 1) + 1 := by simp at hl; omega
        rw [hn'] at hn
        have ih := falls_last_nonneg (z :: l) y h ⟨n - 1, by simpa using hn, by simp at hl ⊢; omega⟩
        rcases List.mem_cons.1 hx with rfl | hx
        · unfold falls at h
          split at h
          · cases h
          · have := ih z (by simp)
            omega
        · exact ih x hx

theorem symGo_out (f : Int) : ∀ (l : List Int) (k : Nat) (p : Int), falls p l = true → (∀ x ∈ l, 0 ≤ x) → (∃ x ∈ l, f < 256 - x) → 256 - p ≤ f → p ≤ 256 →
    k ≤ (symGo f k p l).1 ∧ (symGo f k p l).1 < k + l.length ∧ 256 - (symGo f k p l).2.1 ≤ f ∧ f < 256 - (symGo f k p l).2.2 ∧ 0 ≤ (symGo f k p l).2.2 ∧ (symGo f k p l).2.2 < (symGo f k p l).2.1 ∧ (symGo f k p l).2.1 ≤ 256
  | [], _, _, _, _, ⟨_, hx, _⟩, _, _ => by cases hx
  | x :: l, k, p, h, hn, ⟨y, hy, hy2⟩, hp, hp2 => by
    unfold falls at h
    split at h
    · cases h
    · rename_i hpx
      unfold symGo
      split
      · rename_i hc
        have := hn x (by simp)
        simp only [List.length_cons]
        omega
      · rename_i hc
        have hyl : y ∈ l := by
          rcases List.mem_cons.1 hy with rfl | hy
          · omega
          · exact hy
        have ih := symGo_out f l (k + 1) x h (fun z hz => hn z (by simp [hz])) ⟨y, hyl, hy2⟩ (by omega) (by omega)
        simp only [List.length_cons]
        omega

def symS (b : List Nat) (t : List Int) (s : St) : Nat × St :=
  if goodB t then
    (fun r => (r.1, takeS b s (256 - r.2.1).toNat (256 - r.2.2).toNat 256)) (symGo (chooseS s 256 : Nat) 0 256 t)
  else (0, s)

theorem good_out {t : List Int} (h : goodB t = true) : 1 ≤ t.length ∧ t.length ≤ 256 ∧ falls 256 t = true ∧ (∃ n, t[n]? = some 0 ∧ n + 1 = t.length) := by
  unfold goodB at h
  simp only [Bool.and_eq_true, decide_eq_true_eq] at h
  obtain ⟨h1, h2, h3, h4⟩ := h
  refine ⟨h1, h2, h4, t.length - 1, ?_, by omega⟩
  rw [List.getElem?_eq_getElem (by omega)] at h3 ⊢
  simpa using h3

theorem sym_out {t : List Int} (h : goodB t = true) {f : Nat} (hf : f < 256) :
    (symGo f 0 256 t).1 < t.length ∧ 256 - (symGo f 0 256 t).2.1 ≤ (f : Int) ∧ (f : Int) < 256 - (symGo f 0 256 t).2.2 ∧ 0 ≤ (symGo f 0 256 t).2.2 ∧ (symGo f 0 256 t).2.2 < (symGo f 0 256 t).2.1 ∧ (symGo f 0 256 t).2.1 ≤ 256 := by
  obtain ⟨h1, h2, h3, n, hn, hl⟩ := good_out h
  have h0 : (0 : Int) ∈ t := List.mem_of_getElem? hn
  have := symGo_out f t 0 256 h3 (falls_last_nonneg t 256 h3 ⟨n, hn, hl⟩) ⟨0, h0, by omega⟩ (by omega) (by omega)
  omega

theorem symS_inv {b : List Nat} (hb : Bytes b) {s : St} (h : Inv s) (t : List Int) :
    Inv (symS b t s).2 ∧ tellZ s ≤ tellZ (symS b t s).2 ∧ (goodB t = true → (symS b t s).1 < t.length) ∧ (goodB t = false → symS b t s = (0, s)) := by
  unfold symS
  cases hg : goodB t
  · exact ⟨h, Int.le_refl _, fun h => (by cases h), fun _ => rfl⟩
  · obtain ⟨a1, a2, a3, a4, a5, a6⟩ := sym_out hg (chooseS_lt (s := s) (ft := 256) (by decide))
    refine ⟨takeS_inv hb h (by decide) (by decide) ?_ ?_ ?_, takeS_tell h (by decide) (by decide) ?_ ?_ ?_, fun _ => a1, fun h => (by cases h)⟩ <;> omega

/-! ### Flags -/
def flagPre (n : Nat) (s : St) : Bool × St :=
  if s.val < s.rng / 2 ^ n then (true, { s with rng := s.rng / 2 ^ n }) else (false, { s with val := s.val - s.rng / 2 ^ n, rng := s.rng - s.rng / 2 ^ n })
def flagS (b : List Nat) (n : Int) (s : St) : Bool × St :=
  if 1 ≤ n ∧ n ≤ 15 then ((flagPre n.toNat s).1, onS b 3 (flagPre n.toNat s).2) else (false, s)

theorem flag_pre {s : St} (h : Inv s) {n : Nat} (h1 : 1 ≤ n) (h2 : n ≤ 15) : Pre (flagPre n s).2 ∧ (flagPre n s).2.rng ≤ s.rng ∧ (flagPre n s).2.cnt = s.cnt ∧ (flagPre n s).2.bad = s.bad ∧ (flagPre n s).2.raw = s.raw := by
  have hp1 : 2 ^ 1 ≤ 2 ^ n := Nat.pow_le_pow_right (by decide) h1
  have hp2 : 2 ^ n ≤ 2 ^ 15 := Nat.pow_le_pow_right (by decide) h2
  have hd1 : 1 ≤ s.rng / 2 ^ n := (Nat.le_div_iff_mul_le (by omega)).2 (by have := h.low; omega)
  have hd2 : s.rng / 2 ^ n < s.rng := Nat.div_lt_self (by have := h.low; omega) (by omega)
  have hv := h.val
  have hh := h.high
  unfold flagPre
  split
  · rename_i hc
    exact ⟨⟨hd1, by show s.rng / 2 ^ n ≤ _; omega, hc, h.last, h.cnt⟩, by show s.rng / 2 ^ n ≤ s.rng; omega, rfl, rfl, rfl⟩
  · rename_i hc
    refine ⟨⟨?_, ?_, ?_, h.last, h.cnt⟩, ?_, rfl, rfl, rfl⟩
    · show 1 ≤ s.rng - s.rng / 2 ^ n; omega
    · show s.rng - s.rng / 2 ^ n ≤ _; omega
    · show s.val - s.rng / 2 ^ n < s.rng - s.rng / 2 ^ n; omega
    · show s.rng - s.rng / 2 ^ n ≤ s.rng; omega

theorem flagS_inv {b : List Nat} (hb : Bytes b) {s : St} (h : Inv s) (n : Int) : Inv (flagS b n s).2 ∧ tellZ s ≤ tellZ (flagS b n s).2 := by
  unfold flagS
  split
  · rename_i hn
    obtain ⟨p, hr, hc, _⟩ := flag_pre h (n := n.toNat) (by omega) (by omega)
    refine ⟨onS_inv3 hb p, ?_⟩
    show tellZ s ≤ tellZ (onS b 3 (flagPre n.toNat s).2)
    rw [onS_tell b 3 _ p.low]
    exact tell_narrow hr hc
  · exact ⟨h, Int.le_refl _⟩

end Go.Proofs.YtgiellpepnbpcaaDoor

/- Packets as plain lists of numbers: cut, put together, and back. Nothing here is of any program. -/
namespace Go.Proofs.YtgiellpepnbpcaaDoor

structure Pk where
  config : Nat
  ch : Nat
  frames : List (List Nat)
  pad : Nat

def msN (c : Nat) : Nat := 10 + 10 * (c % 2)

/-- One length, and what is left. -/
def takeLen : List Nat → Option (Nat × List Nat)
  | [] => none
  | n :: r => if n < 252 then (if n ≤ r.length then some (n, r) else none) else
    match r with
    | [] => none
    | m :: r' => if n + 4 * m ≤ r'.length then some (n + 4 * m, r') else none

def lensN : Nat → List Nat → Option (List Nat × List Nat)
  | 0, r => some ([], r)
  | k + 1, r =>
    match takeLen r with
    | none => none
    | some (n, r') =>
      match lensN k r' with
      | none => none
      | some (l, r'') => some (n :: l, r'')

def padN : List Nat → Nat → Option (Nat × List Nat)
  | [], _ => none
  | c :: r, p => if c = 255 then padN r (p + 254) else some (p + c, r)

def sumN : List Nat → Nat
  | [] => 0
  | n :: l => n + sumN l

/-- Frames of these lengths, and the last one: all that is left. -/
def cutN : List Nat → List Nat → List (List Nat)
  | [], r => [r]
  | n :: l, r => r.take n :: cutN l (r.drop n)

/-- So many frames of so many bytes. -/
def evenN : Nat → Nat → List Nat → List (List Nat)
  | 0, _, _ => []
  | m + 1, k, r => r.take k :: evenN m k (r.drop k)

def shortN (fs : List (List Nat)) : Bool := fs.all fun f => decide (f.length ≤ 1275)

/-- Code 3, behind its byte and the padding's: the frames. -/
def bodyN (m : Nat) (told : Bool) (r : List Nat) : Option (List (List Nat)) :=
  if told then
    match lensN (m - 1) r with
    | none => none
    | some (l, r') => if sumN l ≤ r'.length then some (cutN l r') else none
  else if r.length % m = 0 then some (evenN m (r.length / m) r) else none

/-- Code 3: the frames, and how much padding. -/
def manyN (ms : Nat) : List Nat → Option (List (List Nat) × Nat)
  | [] => none
  | c :: r =>
    if c % 64 = 0 ∨ 120 < c % 64 * ms then none
    else if c / 64 % 2 = 1 then
      match padN r 0 with
      | none => none
      | some (p, r') => if p ≤ r'.length then (bodyN (c % 64) (decide (c / 128 % 2 = 1)) (r'.take (r'.length - p))).map fun fs => (fs, p) else none
    else (bodyN (c % 64) (decide (c / 128 % 2 = 1)) r).map fun fs => (fs, 0)

def framesN (h : Nat) (r : List Nat) : Option (List (List Nat) × Nat) :=
  if h % 4 = 0 then some ([r], 0)
  else if h % 4 = 1 then (if r.length % 2 = 1 then none else some ([r.take (r.length / 2), r.drop (r.length / 2)], 0))
  else if h % 4 = 2 then
    match takeLen r with
    | none => none
    | some (n, r') => some ([r'.take n, r'.drop n], 0)
  else manyN (msN (h / 8)) r

def parseN : List Nat → Option Pk
  | [] => none
  | h :: r =>
    if 11 < h / 8 then none
    else match framesN h r with
      | none => none
      | some (fs, p) => if shortN fs = true then some { config := h / 8, ch := 1 + h / 4 % 2, frames := fs, pad := p } else none

/-- May it be? -/
structure GoodP (p : Pk) : Prop where
  config : p.config ≤ 11
  ch : 1 ≤ p.ch ∧ p.ch ≤ 2
  some_ : 1 ≤ p.frames.length
  time : p.frames.length * msN p.config ≤ 120
  short : ∀ f ∈ p.frames, f.length ≤ 1275
  pad : p.pad ≤ 1000

theorem msN_in (c : Nat) : 10 ≤ msN c ∧ msN c ≤ 20 := by unfold msN; omega
theorem GoodP.few {p : Pk} (h : GoodP p) : p.frames.length ≤ 12 := by
  have h1 := (msN_in p.config).1
  have h2 := h.time
  have : p.frames.length * 10 ≤ p.frames.length * msN p.config := Nat.mul_le_mul_left _ h1
  omega

def putN (n : Nat) : List Nat := if n ≤ 251 then [n] else [252 + n % 4, (n - (252 + n % 4)) / 4]

def putsN : List Nat → List Nat
  | [] => []
  | n :: l => putN n ++ putsN l

def padBytes (p : Nat) : List Nat := List.replicate (p / 254) 255 ++ [p % 254]

def flatN : List (List Nat) → List Nat
  | [] => []
  | f :: fs => f ++ flatN fs

/-- The lengths of all but the last. -/
def lensOf : List (List Nat) → List Nat
  | [] => []
  | [_] => []
  | f :: g :: fs => f.length :: lensOf (g :: fs)

/-- Are all of one length? -/
def alikeN : List (List Nat) → Bool
  | [] => true
  | f :: fs => fs.all fun g => decide (g.length = f.length)

def headN (p : Pk) : Nat := 8 * p.config + 4 * (p.ch - 1)

/-- Code 3's byte. -/
def codeByte (p : Pk) : Nat := p.frames.length + (if alikeN p.frames = true then 0 else 128) + (if p.pad = 0 then 0 else 64)

/-- Put together, t in the padding's place. -/
def packT (p : Pk) (t : List Nat) : List Nat :=
  if p.pad = 0 ∧ p.frames.length = 1 then headN p :: flatN p.frames
  else if p.pad = 0 ∧ p.frames.length = 2 ∧ alikeN p.frames = true then (headN p + 1) :: flatN p.frames
  else if p.pad = 0 ∧ p.frames.length = 2 then (headN p + 2) :: (putsN (lensOf p.frames) ++ flatN p.frames)
  else (headN p + 3) :: codeByte p :: ((if p.pad = 0 then [] else padBytes p.pad) ++ ((if alikeN p.frames = true then [] else putsN (lensOf p.frames)) ++ (flatN p.frames ++ t)))

def packN (p : Pk) : List Nat := packT p (List.replicate p.pad 0)

/-! ### Lengths -/
theorem takeLen_put {n : Nat} (hn : n ≤ 1275) {r : List Nat} (hr : n ≤ r.length) : takeLen (putN n ++ r) = some (n, r) := by
  unfold putN
  by_cases h : n ≤ 251
  · rw [if_pos h]
    show (if n < 252 then (if n ≤ r.length then some (n, r) else none) else _) = _
    rw [if_pos (by omega), if_pos hr]
  · rw [if_neg h]
    show (if 252 + n % 4 < 252 then _ else if 252 + n % 4 + 4 * ((n - (252 + n % 4)) / 4) ≤ r.length then some (252 + n % 4 + 4 * ((n - (252 + n % 4)) / 4), r) else none) = _
    have e : 252 + n % 4 + 4 * ((n - (252 + n % 4)) / 4) = n := by omega
    rw [if_neg (by omega), e, if_pos hr]

theorem putN_bytes {n : Nat} (hn : n ≤ 1275) : ∀ x ∈ putN n, x < 256 := by
  unfold putN
  split
  · intro x hx
    have : x = n := by simpa using hx
    omega
  · intro x hx
    simp at hx
    omega

theorem sumN_mem : ∀ {l : List Nat} {n : Nat}, n ∈ l → n ≤ sumN l
  | m :: l, n, h => by
    show n ≤ m + sumN l
    rcases List.mem_cons.1 h with h1 | h1
    · omega
    · have := sumN_mem h1; omega

theorem putsN_len : ∀ (l : List Nat), l.length ≤ (putsN l).length
  | [] => Nat.le_refl _
  | n :: l => by
    have := putsN_len l
    show l.length + 1 ≤ (putN n ++ putsN l).length
    rw [List.length_append]
    unfold putN
    split <;> simp <;> omega

theorem lensN_puts : ∀ (l : List Nat), (∀ n ∈ l, n ≤ 1275) → ∀ r : List Nat, sumN l ≤ r.length → lensN l.length (putsN l ++ r) = some (l, r)
  | [], _, _, _ => rfl
  | n :: l, h, r, hr => by
    have hs : n + sumN l ≤ r.length := hr
    have ih := lensN_puts l (fun m hm => h m (by simp [hm])) r (by omega)
    have h1 := takeLen_put (h n (by simp)) (r := putsN l ++ r) (by rw [List.length_append]; omega)
    show (match takeLen ((putN n ++ putsN l) ++ r) with | none => none | some (n, r') => match lensN l.length r' with | none => none | some (l, r'') => some (n :: l, r'')) = _
    rw [List.append_assoc, h1]
    simp only [ih]

/-! ### Padding -/
theorem padN_run : ∀ (k p c : Nat) (r : List Nat), c < 255 → padN (List.replicate k 255 ++ ([c] ++ r)) p = some (p + 254 * k + c, r)
  | 0, p, c, r, hc => by
    show (if c = 255 then _ else some (p + c, r)) = _
    rw [if_neg (by omega)]
    simp
  | k + 1, p, c, r, hc => by
    rw [List.replicate_succ]
    show (if 255 = 255 then padN (List.replicate k 255 ++ ([c] ++ r)) (p + 254) else _) = _
    rw [if_pos rfl, padN_run k (p + 254) c r hc]
    congr 2
    omega

theorem padN_bytes (p : Nat) (r : List Nat) : padN (padBytes p ++ r) 0 = some (p, r) := by
  unfold padBytes
  rw [List.append_assoc, padN_run (p / 254) 0 (p % 254) r (by omega)]
  congr 2
  omega

/-! ### Frames -/
theorem cutN_flat : ∀ {fs : List (List Nat)}, fs ≠ [] → cutN (lensOf fs) (flatN fs) = fs
  | [], h => absurd rfl h
  | [f], _ => by show [f ++ []] = [f]; simp
  | f :: g :: fs, _ => by
    have ih := cutN_flat (fs := g :: fs) (by simp)
    show (f ++ flatN (g :: fs)).take f.length :: cutN (lensOf (g :: fs)) ((f ++ flatN (g :: fs)).drop f.length) = _
    rw [List.take_left, List.drop_left, ih]

theorem evenN_flat (k : Nat) : ∀ (fs : List (List Nat)), (∀ f ∈ fs, f.length = k) → evenN fs.length k (flatN fs) = fs
  | [], _ => rfl
  | f :: fs, h => by
    have hf := h f (by simp)
    have ih := evenN_flat k fs (fun g hg => h g (by simp [hg]))
    show (f ++ flatN fs).take k :: evenN fs.length k ((f ++ flatN fs).drop k) = _
    rw [← hf, List.take_left, List.drop_left, hf, ih]

theorem lensOf_len : ∀ {fs : List (List Nat)}, fs ≠ [] → (lensOf fs).length = fs.length - 1
  | [], h => absurd rfl h
  | [_], _ => rfl
  | f :: g :: fs, _ => by
    have ih := lensOf_len (fs := g :: fs) (by simp)
    show (lensOf (g :: fs)).length + 1 = fs.length + 1 + 1 - 1
    rw [ih]
    show fs.length + 1 - 1 + 1 = _
    omega

theorem lensOf_sum : ∀ (fs : List (List Nat)), sumN (lensOf fs) ≤ (flatN fs).length
  | [] => Nat.le_refl _
  | [f] => Nat.zero_le _
  | f :: g :: fs => by
    have ih := lensOf_sum (g :: fs)
    show f.length + sumN (lensOf (g :: fs)) ≤ (f ++ flatN (g :: fs)).length
    rw [List.length_append]
    omega

theorem lensOf_mem : ∀ {fs : List (List Nat)} {n : Nat}, n ∈ lensOf fs → ∃ f ∈ fs, f.length = n
  | [], n, h => by cases h
  | [_], n, h => by cases h
  | f :: g :: fs, n, h => by
    rcases List.mem_cons.1 h with h1 | h1
    · exact ⟨f, by simp, h1.symm⟩
    · obtain ⟨x, hx, e⟩ := lensOf_mem (fs := g :: fs) h1
      exact ⟨x, by simp at hx ⊢; exact .inr hx, e⟩

theorem flat_even {k : Nat} : ∀ {fs : List (List Nat)}, (∀ f ∈ fs, f.length = k) → (flatN fs).length = fs.length * k
  | [], _ => by show 0 = 0 * k; simp
  | f :: fs, h => by
    have ih := flat_even (fs := fs) (fun g hg => h g (by simp [hg]))
    show (f ++ flatN fs).length = (fs.length + 1) * k
    rw [List.length_append, ih, h f (by simp), Nat.add_mul]
    omega

theorem alike_all {fs : List (List Nat)} (h : alikeN fs = true) : ∃ k, ∀ f ∈ fs, f.length = k := by
  cases fs with
  | nil => exact ⟨0, fun f hf => by cases hf⟩
  | cons f fs =>
    refine ⟨f.length, fun g hg => ?_⟩
    rcases List.mem_cons.1 hg with h1 | h1
    · rw [h1]
    · have := List.all_eq_true.1 h g h1
      simpa using this

theorem alike_of {fs : List (List Nat)} {k : Nat} (h : ∀ f ∈ fs, f.length = k) : alikeN fs = true := by
  cases fs with
  | nil => rfl
  | cons f fs =>
    refine List.all_eq_true.2 fun g hg => ?_
    rw [h g (by simp [hg]), h f (by simp)]
    simp

theorem bodyN_pack {fs : List (List Nat)} (h0 : 1 ≤ fs.length) (hs : ∀ f ∈ fs, f.length ≤ 1275) :
    bodyN fs.length (!(alikeN fs)) ((if alikeN fs = true then [] else putsN (lensOf fs)) ++ flatN fs) = some fs := by
  have hne : fs ≠ [] := fun e => by rw [e] at h0; simp at h0
  unfold bodyN
  cases ha : alikeN fs
  · show (match lensN (fs.length - 1) (putsN (lensOf fs) ++ flatN fs) with | none => none | some (l, r') => if sumN l ≤ r'.length then some (cutN l r') else none) = _
    rw [← lensOf_len hne, lensN_puts (lensOf fs) (fun n hn => by obtain ⟨f, hf, e⟩ := lensOf_mem hn; rw [← e]; exact hs f hf) (flatN fs) (lensOf_sum fs)]
    show (if sumN (lensOf fs) ≤ (flatN fs).length then some (cutN (lensOf fs) (flatN fs)) else none) = _
    rw [if_pos (lensOf_sum fs), cutN_flat hne]
  · obtain ⟨k, hk⟩ := alike_all ha
    have e := flat_even hk
    show (if (flatN fs).length % fs.length = 0 then some (evenN fs.length ((flatN fs).length / fs.length) (flatN fs)) else none) = _
    rw [e, if_pos (Nat.mul_mod_right _ _), Nat.mul_div_cancel_left _ (by omega), evenN_flat k fs hk]

/-! ### Put together, and cut again -/
theorem head_in {p : Pk} (h : GoodP p) {c : Nat} (hc : c < 4) : (headN p + c) / 8 = p.config ∧ 1 + (headN p + c) / 4 % 2 = p.ch ∧ (headN p + c) % 4 = c ∧ headN p + c < 256 := by
  have h1 := h.config
  obtain ⟨h2, h3⟩ := h.ch
  unfold headN
  omega

theorem shortN_of {fs : List (List Nat)} (h : ∀ f ∈ fs, f.length ≤ 1275) : shortN fs = true := List.all_eq_true.2 fun f hf => decide_eq_true (h f hf)

theorem parseN_head {p : Pk} (h : GoodP p) {c : Nat} (hc : c < 4) {r : List Nat} (hf : framesN (headN p + c) r = some (p.frames, p.pad)) : parseN ((headN p + c) :: r) = some p := by
  obtain ⟨e1, e2, _, _⟩ := head_in h hc
  show (if 11 < (headN p + c) / 8 then none else match framesN (headN p + c) r with | none => none | some (fs, q) => if shortN fs = true then some ({ config := (headN p + c) / 8, ch := 1 + (headN p + c) / 4 % 2, frames := fs, pad := q } : Pk) else none) = _
  rw [if_neg (by rw [e1]; have := h.config; omega), hf]
  show (if shortN p.frames = true then some ({ config := (headN p + c) / 8, ch := 1 + (headN p + c) / 4 % 2, frames := p.frames, pad := p.pad } : Pk) else none) = _
  rw [if_pos (shortN_of h.short), e1, e2]

theorem two_of {fs : List (List Nat)} (h : fs.length = 2) : ∃ f g, fs = [f, g] := by
  match fs, h with
  | [f, g], _ => exact ⟨f, g, rfl⟩

theorem parse_packT {p : Pk} (h : GoodP p) {t : List Nat} (ht : t.length = p.pad) : parseN (packT p t) = some p := by
  have h0 := h.some_
  have hfew := h.few
  have htime := h.time
  obtain ⟨_, _, m0, _⟩ := head_in h (c := 0) (by decide)
  obtain ⟨_, _, m1, _⟩ := head_in h (c := 1) (by decide)
  obtain ⟨_, _, m2, _⟩ := head_in h (c := 2) (by decide)
  obtain ⟨d3, _, m3, _⟩ := head_in h (c := 3) (by decide)
  unfold packT
  split
  · rename_i hc
    obtain ⟨f, hf⟩ : ∃ f, p.frames = [f] := List.length_eq_one_iff.1 hc.2
    refine parseN_head h (c := 0) (by decide) ?_
    unfold framesN
    rw [if_pos m0, hf, hc.1]
    show some ([f ++ []], 0) = _
    simp
  split
  · rename_i _ hc
    obtain ⟨c1, c2, c3⟩ := hc
    obtain ⟨f, g, hf⟩ : ∃ f g, p.frames = [f, g] := two_of c2
    obtain ⟨k, hk⟩ := alike_all c3
    have k1 := hk f (by simp [hf])
    have k2 := hk g (by simp [hf])
    refine parseN_head h (c := 1) (by decide) ?_
    unfold framesN
    rw [if_neg (by omega), if_pos m1, hf, c1]
    show (if (f ++ (g ++ [])).length % 2 = 1 then none else some ([(f ++ (g ++ [])).take ((f ++ (g ++ [])).length / 2), (f ++ (g ++ [])).drop ((f ++ (g ++ [])).length / 2)], 0)) = _
    have e : (f ++ (g ++ [])).length = 2 * f.length := by simp; omega
    rw [e, if_neg (by omega), show 2 * f.length / 2 = f.length by omega, List.take_left, List.drop_left]
    simp
  split
  · rename_i _ _ hc
    obtain ⟨c1, c2⟩ := hc
    obtain ⟨f, g, hf⟩ : ∃ f g, p.frames = [f, g] := two_of c2
    refine parseN_head h (c := 2) (by decide) ?_
    unfold framesN
    rw [if_neg (by omega), if_neg (by omega), if_pos m2, hf, c1]
    show (match takeLen ((putN f.length ++ []) ++ (f ++ (g ++ []))) with | none => none | some (n, r') => some ([r'.take n, r'.drop n], 0)) = _
    rw [List.append_nil, takeLen_put (h.short f (by simp [hf])) (by simp)]
    show some ([(f ++ (g ++ [])).take f.length, (f ++ (g ++ [])).drop f.length], 0) = _
    rw [List.take_left, List.drop_left]
    simp
  · rename_i n1 n2 n3
    refine parseN_head h (c := 3) (by decide) ?_
    unfold framesN
    rw [if_neg (by omega), if_neg (by omega), if_neg (by omega), d3]
    obtain ⟨hb1, hb2, hb3⟩ : codeByte p % 64 = p.frames.length ∧ decide (codeByte p / 128 % 2 = 1) = !(alikeN p.frames) ∧ (codeByte p / 64 % 2 = 1 ↔ p.pad ≠ 0) := by
      unfold codeByte
      cases ha : alikeN p.frames
      · by_cases hp : p.pad = 0
        · rw [if_neg (by simp), if_pos hp]
          exact ⟨by omega, decide_eq_true (by omega), ⟨fun h => by omega, fun h => absurd hp h⟩⟩
        · rw [if_neg (by simp), if_neg hp]
          exact ⟨by omega, decide_eq_true (by omega), ⟨fun _ => hp, fun _ => by omega⟩⟩
      · by_cases hp : p.pad = 0
        · rw [if_pos rfl, if_pos hp]
          exact ⟨by omega, decide_eq_false (by omega), ⟨fun h => by omega, fun h => absurd hp h⟩⟩
        · rw [if_pos rfl, if_neg hp]
          exact ⟨by omega, decide_eq_false (by omega), ⟨fun _ => hp, fun _ => by omega⟩⟩
    unfold manyN
    simp only
    rw [hb1, hb2, if_neg (by omega)]
    have hbody := bodyN_pack h0 h.short
    by_cases hp : p.pad = 0
    · have ht0 : t = [] := List.eq_nil_of_length_eq_zero (by omega)
      rw [if_neg (by rw [hb3]; exact fun h => h hp), if_pos hp, ht0, List.nil_append, List.append_nil, hbody, hp]
      rfl
    · rw [if_pos (hb3.2 hp), if_neg hp, padN_bytes]
      simp only
      obtain ⟨q, hq⟩ : ∃ q, (if alikeN p.frames = true then [] else putsN (lensOf p.frames)) ++ flatN p.frames = q := ⟨_, rfl⟩
      rw [hq] at hbody
      rw [← List.append_assoc, hq]
      have e : (q ++ t).length - p.pad = q.length := by rw [List.length_append]; omega
      rw [if_pos (by rw [List.length_append]; omega), e, List.take_left, hbody]
      rfl

theorem parse_pack {p : Pk} (h : GoodP p) : parseN (packN p) = some p := parse_packT h (List.length_replicate ..)

end Go.Proofs.YtgiellpepnbpcaaDoor

/- Packets as plain lists of numbers: what is cut out of any bytes may be put together again, in hardly more of them. Nothing here is of any program. -/
namespace Go.Proofs.YtgiellpepnbpcaaDoor

theorem takeLen_is {r r' : List Nat} {n : Nat} (h : takeLen r = some (n, r')) : (putN n).length + r'.length = r.length ∧ n ≤ r'.length ∧ ∃ k, r' = r.drop k := by
  cases r with
  | nil => cases h
  | cons x r =>
    by_cases hx : x < 252
    · have e : takeLen (x :: r) = if x ≤ r.length then some (x, r) else none := by
        show (if x < 252 then (if x ≤ r.length then some (x, r) else none) else _) = _
        rw [if_pos hx]
      rw [e] at h
      split at h
      · rename_i hle
        cases h
        refine ⟨?_, hle, 1, rfl⟩
        unfold putN
        rw [if_pos (by omega)]
        simp
        omega
      · cases h
    · cases r with
      | nil =>
        have e : takeLen [x] = none := by
          show (if x < 252 then (if x ≤ 0 then some (x, []) else none) else none) = _
          rw [if_neg hx]
        rw [e] at h; cases h
      | cons m r =>
        have e : takeLen (x :: m :: r) = if x + 4 * m ≤ r.length then some (x + 4 * m, r) else none := by
          show (if x < 252 then _ else if x + 4 * m ≤ r.length then some (x + 4 * m, r) else none) = _
          rw [if_neg hx]
        rw [e] at h
        split at h
        · rename_i hle
          cases h
          refine ⟨?_, hle, 2, rfl⟩
          unfold putN
          rw [if_neg (by omega)]
          simp
          omega
        · cases h

theorem lensN_is : ∀ (k : Nat) {r r' : List Nat} {l : List Nat}, lensN k r = some (l, r') → (putsN l).length + r'.length = r.length ∧ l.length = k ∧ ∃ q, r' = r.drop q
  | 0, r, r', l, h => by
    cases h
    exact ⟨by simp [putsN], rfl, 0, rfl⟩
  | k + 1, r, r', l, h => by
    cases ht : takeLen r with
    | none =>
      have e : lensN (k + 1) r = none := by
        show (match takeLen r with | none => none | some (n, r') => match lensN k r' with | none => none | some (l, r'') => some (n :: l, r'')) = _
        rw [ht]
      rw [e] at h; cases h
    | some x =>
      obtain ⟨n, r1⟩ := x
      have e : lensN (k + 1) r = match lensN k r1 with | none => none | some (l, r'') => some (n :: l, r'') := by
        show (match takeLen r with | none => none | some (n, r') => match lensN k r' with | none => none | some (l, r'') => some (n :: l, r'')) = _
        rw [ht]
      rw [e] at h
      cases hl : lensN k r1 with
      | none => rw [hl] at h; cases h
      | some y =>
        obtain ⟨l2, r2⟩ := y
        rw [hl] at h
        cases h
        obtain ⟨a1, _, q1, a3⟩ := takeLen_is ht
        obtain ⟨b1, b2, q2, b3⟩ := lensN_is k hl
        refine ⟨?_, by simp [b2], q1 + q2, by rw [b3, a3, List.drop_drop]⟩
        show (putN n ++ putsN l2).length + _ = _
        rw [List.length_append]
        omega

theorem padN_is : ∀ (r : List Nat) (q : Nat) {p : Nat} {r' : List Nat}, (∀ x ∈ r, x < 256) → padN r q = some (p, r') → q ≤ p ∧ (p - q) / 254 + r'.length ≤ r.length ∧ r'.length < r.length ∧ ∃ k, r' = r.drop k
  | [], _, _, _, _, h => by cases h
  | c :: r, q, p, r', hb, h => by
    by_cases hc : c = 255
    · have e : padN (c :: r) q = padN r (q + 254) := if_pos hc
      rw [e] at h
      obtain ⟨a1, a2, a3, k, a4⟩ := padN_is r (q + 254) (fun x hx => hb x (by simp [hx])) h
      refine ⟨by omega, ?_, by simp; omega, k + 1, a4⟩
      show (p - q) / 254 + r'.length ≤ r.length + 1
      omega
    · have e : padN (c :: r) q = some (q + c, r) := if_neg hc
      rw [e] at h
      cases h
      have := hb c (by simp)
      refine ⟨by omega, ?_, by simp, 1, rfl⟩
      show (q + c - q) / 254 + r.length ≤ r.length + 1
      omega

theorem cutN_is : ∀ (l r : List Nat), sumN l ≤ r.length → lensOf (cutN l r) = l ∧ flatN (cutN l r) = r ∧ (cutN l r).length = l.length + 1
  | [], r, _ => by
    refine ⟨rfl, ?_, rfl⟩
    show r ++ [] = r
    simp
  | n :: l, r, h => by
    have hs : n + sumN l ≤ r.length := h
    obtain ⟨a1, a2, a3⟩ := cutN_is l (r.drop n) (by rw [List.length_drop]; omega)
    obtain ⟨g, gs, e⟩ : ∃ g gs, cutN l (r.drop n) = g :: gs := by
      cases hc : cutN l (r.drop n) with
      | nil => rw [hc] at a3; simp at a3
      | cons g gs => exact ⟨g, gs, rfl⟩
    refine ⟨?_, ?_, by show (cutN l (r.drop n)).length + 1 = _; rw [a3]; rfl⟩
    · show lensOf (r.take n :: cutN l (r.drop n)) = _
      rw [e] at a1 ⊢
      show (r.take n).length :: lensOf (g :: gs) = _
      rw [a1, List.length_take, Nat.min_eq_left (by omega)]
    · show r.take n ++ flatN (cutN l (r.drop n)) = r
      rw [a2, List.take_append_drop]

theorem evenN_is (k : Nat) : ∀ (m : Nat) (r : List Nat), r.length = m * k → (∀ f ∈ evenN m k r, f.length = k) ∧ flatN (evenN m k r) = r ∧ (evenN m k r).length = m
  | 0, r, h => by
    have : r = [] := List.eq_nil_of_length_eq_zero (by omega)
    subst this
    exact ⟨fun f hf => (by cases hf), rfl, rfl⟩
  | m + 1, r, h => by
    rw [Nat.add_mul, Nat.one_mul] at h
    obtain ⟨a1, a2, a3⟩ := evenN_is k m (r.drop k) (by rw [List.length_drop]; omega)
    refine ⟨fun f hf => ?_, ?_, by show (evenN m k (r.drop k)).length + 1 = _; rw [a3]⟩
    · rcases List.mem_cons.1 hf with h1 | h1
      · rw [h1, List.length_take, Nat.min_eq_left (by omega)]
      · exact a1 f h1
    · show r.take k ++ flatN (evenN m k (r.drop k)) = r
      rw [a2, List.take_append_drop]

/-- How many bytes lengths take, where they are told. -/
def toldN (fs : List (List Nat)) : Nat := if alikeN fs = true then 0 else (putsN (lensOf fs)).length

theorem bodyN_is {m : Nat} (hm : 1 ≤ m) {told : Bool} {r : List Nat} {fs : List (List Nat)} (h : bodyN m told r = some fs) : fs.length = m ∧ toldN fs + (flatN fs).length ≤ r.length := by
  unfold bodyN at h
  cases told
  · rw [if_neg (by simp)] at h
    split at h
    · rename_i hd
      cases h
      obtain ⟨a1, a2, a3⟩ := evenN_is (r.length / m) m r (by have := Nat.div_add_mod r.length m; rw [hd] at this; omega)
      refine ⟨a3, ?_⟩
      unfold toldN
      rw [if_pos (alike_of a1), a2]
      omega
    · cases h
  · rw [if_pos rfl] at h
    cases hl : lensN (m - 1) r with
    | none => rw [hl] at h; cases h
    | some x =>
      obtain ⟨l, r'⟩ := x
      rw [hl] at h
      simp only at h
      split at h
      · rename_i hs
        cases h
        obtain ⟨b1, b2, _⟩ := lensN_is (m - 1) hl
        obtain ⟨c1, c2, c3⟩ := cutN_is l r' hs
        refine ⟨by rw [c3, b2]; omega, ?_⟩
        unfold toldN
        rw [c1, c2]
        split <;> omega
      · cases h

/-- How many bytes a packet takes. -/
def sizeN (p : Pk) : Nat := (packN p).length

theorem padBytes_len (p : Nat) : (padBytes p).length = p / 254 + 1 := by simp [padBytes]

theorem sizeN_le (p : Pk) : sizeN p ≤ 2 + (if p.pad = 0 then 0 else p.pad / 254 + 1) + toldN p.frames + (flatN p.frames).length + p.pad ∧
    (p.pad = 0 → p.frames.length = 1 → sizeN p = 1 + (flatN p.frames).length) ∧ (p.pad = 0 → p.frames.length = 2 → sizeN p = 1 + toldN p.frames + (flatN p.frames).length) := by
  unfold sizeN packN packT toldN
  by_cases c1 : p.pad = 0 ∧ p.frames.length = 1
  · rw [if_pos c1]
    refine ⟨?_, fun _ _ => ?_, fun _ h => ?_⟩
    · simp only [List.length_cons]; omega
    · simp only [List.length_cons]; omega
    · omega
  · rw [if_neg c1]
    by_cases c2 : p.pad = 0 ∧ p.frames.length = 2 ∧ alikeN p.frames = true
    · rw [if_pos c2, if_pos c2.2.2]
      refine ⟨?_, fun h1 h2 => absurd ⟨h1, h2⟩ c1, fun _ _ => ?_⟩
      · simp only [List.length_cons]; omega
      · simp only [List.length_cons]; omega
    · rw [if_neg c2]
      by_cases c3 : p.pad = 0 ∧ p.frames.length = 2
      · have ha : ¬ alikeN p.frames = true := fun h => c2 ⟨c3.1, c3.2, h⟩
        rw [if_pos c3, if_neg ha]
        refine ⟨?_, fun h1 h2 => absurd ⟨h1, h2⟩ c1, fun _ _ => ?_⟩
        · simp only [List.length_cons, List.length_append]; omega
        · simp only [List.length_cons, List.length_append]; omega
      · rw [if_neg c3]
        refine ⟨?_, fun h1 h2 => absurd ⟨h1, h2⟩ c1, fun h1 h2 => absurd ⟨h1, h2⟩ c3⟩
        simp only [List.length_cons, List.length_append, List.length_replicate]
        have hp := padBytes_len p.pad
        split <;> split <;> (try simp only [List.length_nil]) <;> omega

/-- What is cut out of any bytes. -/
structure CutOf (h : Nat) (r : List Nat) (fs : List (List Nat)) (pad : Nat) : Prop where
  some_ : 1 ≤ fs.length
  time : fs.length * msN (h / 8) ≤ 120
  room : (flatN fs).length + pad ≤ r.length
  size : ∀ c ch, sizeN { config := c, ch := ch, frames := fs, pad := pad } ≤ r.length + 2

theorem flat_two (f g : List Nat) : (flatN [f, g]).length = f.length + g.length := by show (f ++ (g ++ [])).length = _; simp

theorem framesN_is {h : Nat} {r : List Nat} (hb : ∀ x ∈ r, x < 256) {fs : List (List Nat)} {pad : Nat} (hf : framesN h r = some (fs, pad)) : CutOf h r fs pad := by
  have hms := msN_in (h / 8)
  unfold framesN at hf
  split at hf
  · cases hf
    have e : (flatN [r]).length = r.length := by show (r ++ []).length = _; simp
    refine ⟨by simp, by show 1 * _ ≤ _; omega, by omega, fun c ch => ?_⟩
    have := (sizeN_le { config := c, ch := ch, frames := [r], pad := 0 }).2.1 rfl rfl
    rw [this]
    show 1 + (flatN [r]).length ≤ _
    omega
  · split at hf
    · split at hf
      · cases hf
      · rename_i hodd
        cases hf
        have e := flat_two (r.take (r.length / 2)) (r.drop (r.length / 2))
        rw [List.length_take, List.length_drop, Nat.min_eq_left (by omega)] at e
        refine ⟨by simp, by show 2 * _ ≤ _; omega, by omega, fun c ch => ?_⟩
        have := (sizeN_le { config := c, ch := ch, frames := [r.take (r.length / 2), r.drop (r.length / 2)], pad := 0 }).2.2 rfl rfl
        rw [this]
        have ha : alikeN [r.take (r.length / 2), r.drop (r.length / 2)] = true := alike_of (k := r.length / 2) fun f hf => by
          rcases List.mem_cons.1 hf with h1 | h1
          · rw [h1, List.length_take]; omega
          · have h2 : f = r.drop (r.length / 2) := by simpa using h1
            rw [h2, List.length_drop]; omega
        show 1 + toldN [r.take (r.length / 2), r.drop (r.length / 2)] + (flatN [r.take (r.length / 2), r.drop (r.length / 2)]).length ≤ _
        unfold toldN
        rw [if_pos ha]
        omega
    · split at hf
      · cases ht : takeLen r with
        | none => rw [ht] at hf; cases hf
        | some x =>
          obtain ⟨n, r'⟩ := x
          rw [ht] at hf
          cases hf
          obtain ⟨a1, a2, _⟩ := takeLen_is ht
          have e := flat_two (r'.take n) (r'.drop n)
          rw [List.length_take, List.length_drop, Nat.min_eq_left a2] at e
          refine ⟨by simp, by show 2 * _ ≤ _; omega, by omega, fun c ch => ?_⟩
          have := (sizeN_le { config := c, ch := ch, frames := [r'.take n, r'.drop n], pad := 0 }).2.2 rfl rfl
          rw [this]
          show 1 + toldN [r'.take n, r'.drop n] + (flatN [r'.take n, r'.drop n]).length ≤ _
          unfold toldN
          have e2 : (putsN (lensOf [r'.take n, r'.drop n])).length = (putN n).length := by
            show (putN (r'.take n).length ++ []).length = _
            rw [List.append_nil, List.length_take, Nat.min_eq_left a2]
          split <;> omega
      · cases r with
        | nil => cases hf
        | cons c r1 =>
          have hb1 : ∀ x ∈ r1, x < 256 := fun x hx => hb x (by simp [hx])
          unfold manyN at hf
          simp only at hf
          split at hf
          · cases hf
          · rename_i hm
            split at hf
            · cases hp : padN r1 0 with
              | none => rw [hp] at hf; cases hf
              | some x =>
                obtain ⟨p, r2⟩ := x
                rw [hp] at hf
                simp only at hf
                split at hf
                · rename_i hle
                  obtain ⟨b1, b2, b3, _⟩ := padN_is r1 0 hb1 hp
                  cases hbd : bodyN (c % 64) (decide (c / 128 % 2 = 1)) (r2.take (r2.length - p)) with
                  | none => rw [hbd] at hf; cases hf
                  | some gs =>
                    rw [hbd] at hf
                    cases hf
                    obtain ⟨d1, d2⟩ := bodyN_is (by omega) hbd
                    rw [List.length_take, Nat.min_eq_left (by omega)] at d2
                    have es : (c :: r1).length = r1.length + 1 := rfl
                    refine ⟨by omega, by rw [d1]; omega, by omega, fun cc ch => ?_⟩
                    have := (sizeN_le { config := cc, ch := ch, frames := fs, pad := pad }).1
                    simp only at this
                    split at this <;> omega
                · cases hf
            · cases hbd : bodyN (c % 64) (decide (c / 128 % 2 = 1)) r1 with
              | none => rw [hbd] at hf; cases hf
              | some gs =>
                rw [hbd] at hf
                cases hf
                obtain ⟨d1, d2⟩ := bodyN_is (by omega) hbd
                have es : (c :: r1).length = r1.length + 1 := rfl
                refine ⟨by omega, by rw [d1]; omega, by omega, fun cc ch => ?_⟩
                have := (sizeN_le { config := cc, ch := ch, frames := fs, pad := 0 }).1
                simp only [if_pos] at this
                omega

/-- Whatever is cut: it may be put together again, where its padding isn't too much, in hardly more bytes; its frames are fewer bytes than it was. -/
theorem parse_is {b : List Nat} (hb : ∀ x ∈ b, x < 256) {p : Pk} (h : parseN b = some p) :
    (p.pad ≤ 1000 → GoodP p) ∧ p.config ≤ 11 ∧ 1 ≤ p.frames.length ∧ p.frames.length * msN p.config ≤ 120 ∧ (∀ f ∈ p.frames, f.length ≤ 1275) ∧ (flatN p.frames).length < b.length ∧ (packN p).length ≤ b.length + 1 := by
  cases b with
  | nil => cases h
  | cons x r =>
    have hbr : ∀ y ∈ r, y < 256 := fun y hy => hb y (by simp [hy])
    unfold parseN at h
    simp only at h
    split at h
    · cases h
    · rename_i h11
      cases hf : framesN x r with
      | none => rw [hf] at h; cases h
      | some y =>
        obtain ⟨fs, pad⟩ := y
        rw [hf] at h
        simp only at h
        split at h
        · rename_i hs
          cases h
          have hc := framesN_is hbr hf
          have hsh : ∀ f ∈ fs, f.length ≤ 1275 := fun f hf => by simpa using List.all_eq_true.1 hs f hf
          have hroom := hc.room
          have hsize := hc.size (x / 8) (1 + x / 4 % 2)
          refine ⟨fun hp => ⟨by show x / 8 ≤ 11; omega, by show 1 ≤ 1 + x / 4 % 2 ∧ 1 + x / 4 % 2 ≤ 2; omega, hc.some_, hc.time, hsh, hp⟩, by show x / 8 ≤ 11; omega, hc.some_, hc.time, hsh, ?_, ?_⟩
          · show (flatN fs).length < r.length + 1; omega
          · show sizeN _ ≤ r.length + 1 + 1; exact hsize
        · cases h

/-- So what any bytes hold, put together and cut again, is the same. -/
theorem repack {b : List Nat} (hb : ∀ x ∈ b, x < 256) {p : Pk} (h : parseN b = some p) (hp : p.pad ≤ 1000) : parseN (packN p) = some p := parse_pack ((parse_is hb h).1 hp)

end Go.Proofs.YtgiellpepnbpcaaDoor

/- Packets as plain lists of numbers: how they come up, frame by frame, length by length. Nothing here is of any program. -/
namespace Go.Proofs.YtgiellpepnbpcaaDoor

theorem flatN_snoc : ∀ (fs : List (List Nat)) (f : List Nat), flatN (fs ++ [f]) = flatN fs ++ f
  | [], f => by show f ++ [] = [] ++ f; simp
  | g :: fs, f => by
    show g ++ flatN (fs ++ [f]) = (g ++ flatN fs) ++ f
    rw [flatN_snoc fs f, List.append_assoc]

theorem flatN_take {fs : List (List Nat)} {i : Nat} {f : List Nat} (h : fs[i]? = some f) : flatN (fs.take (i + 1)) = flatN (fs.take i) ++ f := by
  rw [List.take_add_one, h]
  exact flatN_snoc _ f

theorem flatN_all (fs : List (List Nat)) : flatN (fs.take fs.length) = flatN fs := by rw [List.take_length]

theorem putsN_snoc : ∀ (l : List Nat) (n : Nat), putsN (l ++ [n]) = putsN l ++ putN n
  | [], n => by show putN n ++ [] = [] ++ putN n; simp
  | m :: l, n => by
    show putN m ++ putsN (l ++ [n]) = (putN m ++ putsN l) ++ putN n
    rw [putsN_snoc l n, List.append_assoc]

/-- The lengths of the first i frames. -/
def lensTo (fs : List (List Nat)) (i : Nat) : List Nat := (fs.take i).map List.length

theorem lensTo_snoc {fs : List (List Nat)} {i : Nat} {f : List Nat} (h : fs[i]? = some f) : lensTo fs (i + 1) = lensTo fs i ++ [f.length] := by
  unfold lensTo
  rw [List.take_add_one, h]
  simp

theorem lensOf_to : ∀ (fs : List (List Nat)), lensOf fs = lensTo fs (fs.length - 1)
  | [] => rfl
  | [_] => rfl
  | f :: g :: fs => by
    have ih := lensOf_to (g :: fs)
    show f.length :: lensOf (g :: fs) = _
    rw [ih]
    unfold lensTo
    show f.length :: ((g :: fs).take (fs.length + 1 - 1)).map List.length = ((f :: g :: fs).take (fs.length + 1 + 1 - 1)).map List.length
    rw [show fs.length + 1 + 1 - 1 = (fs.length + 1 - 1) + 1 by omega, List.take_succ_cons]
    rfl

/-- Are the first i of the first one's length? -/
def alikeTo (fs : List (List Nat)) (i : Nat) : Bool := (fs.take i).all fun f => decide (f.length = (fs[0]?.getD []).length)

theorem alikeTo_snoc {fs : List (List Nat)} {i : Nat} {f : List Nat} (h : fs[i]? = some f) : alikeTo fs (i + 1) = (alikeTo fs i && decide (f.length = (fs[0]?.getD []).length)) := by
  unfold alikeTo
  rw [List.take_add_one, h]
  simp

theorem alikeTo_one (fs : List (List Nat)) : alikeTo fs 1 = true := by
  unfold alikeTo
  cases fs with
  | nil => rfl
  | cons f fs => simp

theorem alikeTo_all (fs : List (List Nat)) : alikeTo fs fs.length = alikeN fs := by
  unfold alikeTo
  rw [List.take_length]
  cases fs with
  | nil => rfl
  | cons f fs => simp [alikeN]

theorem padBytes_up (p k : Nat) (h : k ≤ p / 254) : padBytes p = List.replicate k 255 ++ (List.replicate (p / 254 - k) 255 ++ [p % 254]) := by
  unfold padBytes
  rw [← List.append_assoc, List.replicate_append_replicate, show k + (p / 254 - k) = p / 254 by omega]

theorem replicate_snoc (n c : Nat) : List.replicate (n + 1) c = List.replicate n c ++ [c] := List.replicate_succ'

/-- The bytes of a packet are bytes. -/
theorem flatN_bytes {fs : List (List Nat)} (h : ∀ f ∈ fs, ∀ x ∈ f, x < 256) : ∀ x ∈ flatN fs, x < 256 := by
  induction fs with
  | nil => intro x hx; cases hx
  | cons f fs ih =>
    intro x hx
    have hx' : x ∈ f ++ flatN fs := hx
    rcases List.mem_append.1 hx' with h1 | h1
    · exact h f (by simp) x h1
    · exact ih (fun g hg => h g (by simp [hg])) x h1

theorem putsN_bytes {l : List Nat} (h : ∀ n ∈ l, n ≤ 1275) : ∀ x ∈ putsN l, x < 256 := by
  induction l with
  | nil => intro x hx; cases hx
  | cons n l ih =>
    intro x hx
    have hx' : x ∈ putN n ++ putsN l := hx
    rcases List.mem_append.1 hx' with h1 | h1
    · exact putN_bytes (h n (by simp)) x h1
    · exact ih (fun m hm => h m (by simp [hm])) x h1

theorem padBytes_bytes {p : Nat} : ∀ x ∈ padBytes p, x < 256 := by
  intro x hx
  unfold padBytes at hx
  rcases List.mem_append.1 hx with h1 | h1
  · have := List.eq_of_mem_replicate h1; omega
  · have : x = p % 254 := by simpa using h1
    omega

/-- The first byte, code 3's byte: bytes. -/
theorem codeByte_lt {p : Pk} (h : GoodP p) : codeByte p < 256 := by
  have := h.few
  unfold codeByte
  split <;> split <;> omega

theorem packT_bytes {p : Pk} (h : GoodP p) (hb : ∀ f ∈ p.frames, ∀ x ∈ f, x < 256) {t : List Nat} (ht : ∀ x ∈ t, x < 256) : ∀ x ∈ packT p t, x < 256 := by
  have hf := flatN_bytes hb
  have hp := putsN_bytes (l := lensOf p.frames) fun n hn => by
    obtain ⟨f, hf, e⟩ := lensOf_mem hn
    rw [← e]
    exact h.short f hf
  have d0 := (head_in h (c := 0) (by decide)).2.2.2
  have d1 := (head_in h (c := 1) (by decide)).2.2.2
  have d2 := (head_in h (c := 2) (by decide)).2.2.2
  have d3 := (head_in h (c := 3) (by decide)).2.2.2
  have hc := codeByte_lt h
  intro x hx
  unfold packT at hx
  split at hx
  · rcases List.mem_cons.1 hx with h1 | h1
    · omega
    · exact hf x h1
  split at hx
  · rcases List.mem_cons.1 hx with h1 | h1
    · omega
    · exact hf x h1
  split at hx
  · rcases List.mem_cons.1 hx with h1 | h1
    · omega
    · rcases List.mem_append.1 h1 with h2 | h2
      · exact hp x h2
      · exact hf x h2
  · rcases List.mem_cons.1 hx with h1 | h1
    · omega
    · rcases List.mem_cons.1 h1 with h2 | h2
      · omega
      · rcases List.mem_append.1 h2 with h3 | h3
        · split at h3
          · cases h3
          · exact padBytes_bytes x h3
        · rcases List.mem_append.1 h3 with h4 | h4
          · split at h4
            · cases h4
            · exact hp x h4
          · rcases List.mem_append.1 h4 with h5 | h5
            · exact hf x h5
            · exact ht x h5

/-- A packet's last bytes are its padding. -/
theorem packT_end {p : Pk} {t : List Nat} (ht : t.length = p.pad) : ∃ q, packT p t = q ++ t ∧ ∀ t' : List Nat, t'.length = p.pad → packT p t' = q ++ t' := by
  unfold packT
  by_cases c1 : p.pad = 0 ∧ p.frames.length = 1
  · refine ⟨headN p :: flatN p.frames, ?_, fun t' ht' => ?_⟩
    · rw [if_pos c1, List.eq_nil_of_length_eq_zero (show t.length = 0 by omega), List.append_nil]
    · rw [if_pos c1, List.eq_nil_of_length_eq_zero (show t'.length = 0 by omega), List.append_nil]
  · simp only [if_neg c1]
    by_cases c2 : p.pad = 0 ∧ p.frames.length = 2 ∧ alikeN p.frames = true
    · refine ⟨(headN p + 1) :: flatN p.frames, ?_, fun t' ht' => ?_⟩
      · rw [if_pos c2, List.eq_nil_of_length_eq_zero (show t.length = 0 by omega), List.append_nil]
      · rw [if_pos c2, List.eq_nil_of_length_eq_zero (show t'.length = 0 by omega), List.append_nil]
    · simp only [if_neg c2]
      by_cases c3 : p.pad = 0 ∧ p.frames.length = 2
      · refine ⟨(headN p + 2) :: (putsN (lensOf p.frames) ++ flatN p.frames), ?_, fun t' ht' => ?_⟩
        · rw [if_pos c3, List.eq_nil_of_length_eq_zero (show t.length = 0 by omega), List.append_nil]
        · rw [if_pos c3, List.eq_nil_of_length_eq_zero (show t'.length = 0 by omega), List.append_nil]
      · simp only [if_neg c3]
        refine ⟨(headN p + 3) :: codeByte p :: ((if p.pad = 0 then [] else padBytes p.pad) ++ ((if alikeN p.frames = true then [] else putsN (lensOf p.frames)) ++ flatN p.frames)), ?_, fun t' _ => ?_⟩
        · simp only [List.cons_append, List.append_assoc]
        · simp only [List.cons_append, List.append_assoc]

end Go.Proofs.YtgiellpepnbpcaaDoor

/- Packets as plain lists of numbers: another way to cut them: first how long all frames are, then the frames. It comes to the same. Nothing here is of any program. -/
namespace Go.Proofs.YtgiellpepnbpcaaDoor

/-- What a code stands for: how many frames, are lengths told, is there padding; and what is left. -/
def headP (code : Nat) (r : List Nat) : Option (Nat × Bool × Bool × List Nat) :=
  if code = 0 then some (1, false, false, r)
  else if code = 1 then some (2, false, false, r)
  else if code = 2 then some (2, true, false, r)
  else match r with
    | [] => none
    | v :: r' => some (v % 64, decide (v / 128 % 2 = 1), decide (v / 64 % 2 = 1), r')

def padP (r : List Nat) : Option (Nat × List Nat) :=
  match padN r 0 with
  | none => none
  | some (p, r') => if p ≤ r'.length then some (p, r'.take (r'.length - p)) else none

/-- One length; what is left is not asked. -/
def take2 : List Nat → Option (Nat × List Nat)
  | [] => none
  | n :: r => if n < 252 then some (n, r) else
    match r with
    | [] => none
    | m :: r' => some (n + 4 * m, r')

def lens2 : Nat → List Nat → Option (List Nat × List Nat)
  | 0, r => some ([], r)
  | k + 1, r =>
    match take2 r with
    | none => none
    | some (n, r') =>
      match lens2 k r' with
      | none => none
      | some (l, r'') => some (n :: l, r'')

def sizes2 (m : Nat) (told : Bool) (r : List Nat) : Option (List Nat × List Nat) :=
  if told then
    match lens2 (m - 1) r with
    | none => none
    | some (l, r') => if sumN l ≤ r'.length then some (l ++ [r'.length - sumN l], r') else none
  else if r.length % m = 0 then some (List.replicate m (r.length / m), r) else none

def cutF : List Nat → List Nat → List (List Nat)
  | [], _ => []
  | n :: l, r => r.take n :: cutF l (r.drop n)

def shortS (l : List Nat) : Bool := l.all fun n => decide (n ≤ 1275)

def bodyP (m : Nat) (told : Bool) (r : List Nat) : Option (List (List Nat)) :=
  match sizes2 m told r with
  | none => none
  | some (l, r') => if shortS l = true then some (cutF l r') else none

def parseP : List Nat → Option Pk
  | [] => none
  | h :: r =>
    if 11 < h / 8 then none
    else match headP (h % 4) r with
      | none => none
      | some (m, told, pd, r1) =>
        if m < 1 ∨ 120 < m * msN (h / 8) then none
        else match (if pd then padP r1 else some (0, r1)) with
          | none => none
          | some (p, r2) =>
            match bodyP m told r2 with
            | none => none
            | some fs => some { config := h / 8, ch := 1 + h / 4 % 2, frames := fs, pad := p }

/-! ### It is the same -/
theorem take2_some {r r' : List Nat} {n : Nat} (h : take2 r = some (n, r')) : takeLen r = if n ≤ r'.length then some (n, r') else none := by
  cases r with
  | nil => cases h
  | cons x r =>
    by_cases hx : x < 252
    · have e : take2 (x :: r) = some (x, r) := if_pos hx
      rw [e] at h
      cases h
      exact if_pos hx
    · cases r with
      | nil =>
        have e : take2 [x] = none := if_neg hx
        rw [e] at h
        cases h
      | cons m r =>
        have e : take2 (x :: m :: r) = some (x + 4 * m, r) := if_neg hx
        rw [e] at h
        cases h
        exact if_neg hx

theorem take2_none {r : List Nat} (h : take2 r = none) : takeLen r = none := by
  cases r with
  | nil => rfl
  | cons x r =>
    by_cases hx : x < 252
    · have e : take2 (x :: r) = some (x, r) := if_pos hx
      rw [e] at h; cases h
    · cases r with
      | nil => exact if_neg hx
      | cons m r =>
        have e : take2 (x :: m :: r) = some (x + 4 * m, r) := if_neg hx
        rw [e] at h; cases h

theorem take2_len {r r' : List Nat} {n : Nat} (h : take2 r = some (n, r')) : r'.length < r.length ∧ ∃ k, k ≤ 2 ∧ k ≤ r.length ∧ r' = r.drop k := by
  cases r with
  | nil => cases h
  | cons x r =>
    by_cases hx : x < 252
    · have e : take2 (x :: r) = some (x, r) := if_pos hx
      rw [e] at h; cases h
      exact ⟨by simp, 1, by omega, by simp, rfl⟩
    · cases r with
      | nil =>
        have e : take2 [x] = none := if_neg hx
        rw [e] at h; cases h
      | cons m r =>
        have e : take2 (x :: m :: r) = some (x + 4 * m, r) := if_neg hx
        rw [e] at h; cases h
        exact ⟨by simp; omega, 2, by omega, by simp, rfl⟩

theorem lens2_len : ∀ (k : Nat) {r r' : List Nat} {l : List Nat}, lens2 k r = some (l, r') → r'.length ≤ r.length ∧ l.length = k
  | 0, r, r', l, h => by cases h; exact ⟨Nat.le_refl _, rfl⟩
  | k + 1, r, r', l, h => by
    cases ht : take2 r with
    | none =>
      have e : lens2 (k + 1) r = none := by show (match take2 r with | none => none | some (n, r') => match lens2 k r' with | none => none | some (l, r'') => some (n :: l, r'')) = _; rw [ht]
      rw [e] at h; cases h
    | some q =>
      obtain ⟨n, r1⟩ := q
      have e : lens2 (k + 1) r = match lens2 k r1 with | none => none | some (l, r'') => some (n :: l, r'') := by show (match take2 r with | none => none | some (n, r') => match lens2 k r' with | none => none | some (l, r'') => some (n :: l, r'')) = _; rw [ht]
      rw [e] at h
      cases hl : lens2 k r1 with
      | none => rw [hl] at h; cases h
      | some q2 =>
        obtain ⟨l2, r2⟩ := q2
        rw [hl] at h
        cases h
        have h1 := (take2_len ht).1
        obtain ⟨h2, h3⟩ := lens2_len k hl
        exact ⟨by omega, by simp; exact h3⟩

/-- The sum at the end asks all that each length asks. -/
theorem lens_same : ∀ (k : Nat) (r : List Nat), (match lens2 k r with | none => none | some (l, r') => if sumN l ≤ r'.length then some (l, r') else none) = (match lensN k r with | none => none | some (l, r') => if sumN l ≤ r'.length then some (l, r') else none)
  | 0, r => rfl
  | k + 1, r => by
    have e2 : lens2 (k + 1) r = match take2 r with | none => none | some (n, r') => match lens2 k r' with | none => none | some (l, r'') => some (n :: l, r'') := rfl
    have eN : lensN (k + 1) r = match takeLen r with | none => none | some (n, r') => match lensN k r' with | none => none | some (l, r'') => some (n :: l, r'') := rfl
    cases ht : take2 r with
    | none =>
      have h1 := take2_none ht
      rw [e2, eN, ht, h1]
    | some q =>
      obtain ⟨n, r1⟩ := q
      have h1 := take2_some ht
      have ih := lens_same k r1
      rw [e2, eN, ht, h1]
      by_cases hn : n ≤ r1.length
      · rw [if_pos hn]
        simp only
        cases h2 : lens2 k r1 with
        | none =>
          cases h3 : lensN k r1 with
          | none => rfl
          | some q3 =>
            obtain ⟨l3, r3⟩ := q3
            rw [h2, h3] at ih
            simp only at ih ⊢
            by_cases hs : sumN l3 ≤ r3.length
            · rw [if_pos hs] at ih; cases ih
            · rw [if_neg (by show ¬ n + sumN l3 ≤ _; omega)]
        | some q2 =>
          obtain ⟨l2, r2⟩ := q2
          cases h3 : lensN k r1 with
          | none =>
            rw [h2, h3] at ih
            simp only at ih ⊢
            by_cases hs : sumN l2 ≤ r2.length
            · rw [if_pos hs] at ih; cases ih
            · rw [if_neg (by show ¬ n + sumN l2 ≤ _; omega)]
          | some q3 =>
            obtain ⟨l3, r3⟩ := q3
            rw [h2, h3] at ih
            simp only at ih ⊢
            by_cases hs : sumN l2 ≤ r2.length
            · rw [if_pos hs] at ih
              by_cases hs3 : sumN l3 ≤ r3.length
              · rw [if_pos hs3] at ih
                cases ih
                rfl
              · rw [if_neg hs3] at ih; cases ih
            · rw [if_neg hs] at ih
              by_cases hs3 : sumN l3 ≤ r3.length
              · rw [if_pos hs3] at ih; cases ih
              · rw [if_neg (by show ¬ n + sumN l2 ≤ _; omega), if_neg (by show ¬ n + sumN l3 ≤ _; omega)]
      · rw [if_neg hn]
        simp only
        cases h2 : lens2 k r1 with
        | none => rfl
        | some q2 =>
          obtain ⟨l2, r2⟩ := q2
          have := (lens2_len k h2).1
          simp only
          rw [if_neg (by show ¬ n + sumN l2 ≤ _; omega)]

theorem cutF_cut : ∀ (l r : List Nat), sumN l ≤ r.length → cutF (l ++ [r.length - sumN l]) r = cutN l r ∧ shortS (l ++ [r.length - sumN l]) = shortN (cutN l r)
  | [], r, _ => by
    show ([r.take (r.length - 0)] : List (List Nat)) = [r] ∧ shortS [r.length - 0] = shortN [r]
    rw [Nat.sub_zero, List.take_length]
    exact ⟨rfl, rfl⟩
  | n :: l, r, h => by
    have hs : n + sumN l ≤ r.length := h
    have hd : (r.drop n).length = r.length - n := List.length_drop ..
    obtain ⟨a1, a2⟩ := cutF_cut l (r.drop n) (by omega)
    have e : (r.drop n).length - sumN l = r.length - sumN (n :: l) := by show _ = r.length - (n + sumN l); omega
    rw [e] at a1 a2
    refine ⟨?_, ?_⟩
    · show r.take n :: cutF (l ++ [r.length - sumN (n :: l)]) (r.drop n) = r.take n :: cutN l (r.drop n)
      rw [a1]
    · show (decide (n ≤ 1275) && shortS (l ++ [r.length - sumN (n :: l)])) = (decide ((r.take n).length ≤ 1275) && shortN (cutN l (r.drop n)))
      rw [a2, List.length_take, Nat.min_eq_left (by omega)]

theorem cutF_even (k : Nat) : ∀ (m : Nat) (r : List Nat), r.length = m * k → cutF (List.replicate m k) r = evenN m k r ∧ shortS (List.replicate m k) = shortN (evenN m k r)
  | 0, r, _ => ⟨rfl, rfl⟩
  | m + 1, r, h => by
    rw [Nat.add_mul, Nat.one_mul] at h
    obtain ⟨a1, a2⟩ := cutF_even k m (r.drop k) (by rw [List.length_drop]; omega)
    rw [List.replicate_succ]
    refine ⟨?_, ?_⟩
    · show r.take k :: cutF (List.replicate m k) (r.drop k) = r.take k :: evenN m k (r.drop k)
      rw [a1]
    · show (decide (k ≤ 1275) && shortS (List.replicate m k)) = (decide ((r.take k).length ≤ 1275) && shortN (evenN m k (r.drop k)))
      rw [a2, List.length_take, Nat.min_eq_left (by omega)]

theorem bodyP_is {m : Nat} (told : Bool) (r : List Nat) : bodyP m told r = match bodyN m told r with | none => none | some fs => if shortN fs = true then some fs else none := by
  unfold bodyP sizes2 bodyN
  cases told
  · simp only [Bool.false_eq_true, if_false]
    by_cases hd : r.length % m = 0
    · rw [if_pos hd, if_pos hd]
      have hk : r.length = m * (r.length / m) := by have := Nat.div_add_mod r.length m; omega
      obtain ⟨a1, a2⟩ := cutF_even (r.length / m) m r hk
      simp only [a1, a2]
    · rw [if_neg hd, if_neg hd]
  · simp only [if_true]
    have h := lens_same (m - 1) r
    cases h2 : lens2 (m - 1) r with
    | none =>
      rw [h2] at h
      cases h3 : lensN (m - 1) r with
      | none => rfl
      | some q =>
        obtain ⟨l, r'⟩ := q
        rw [h3] at h
        simp only at h ⊢
        by_cases hs : sumN l ≤ r'.length
        · rw [if_pos hs] at h; cases h
        · rw [if_neg hs]
    | some q2 =>
      obtain ⟨l2, r2⟩ := q2
      rw [h2] at h
      simp only at h ⊢
      by_cases hs : sumN l2 ≤ r2.length
      · rw [if_pos hs] at h ⊢
        cases h3 : lensN (m - 1) r with
        | none => rw [h3] at h; cases h
        | some q =>
          obtain ⟨l, r'⟩ := q
          rw [h3] at h
          simp only at h ⊢
          by_cases hs3 : sumN l ≤ r'.length
          · rw [if_pos hs3] at h ⊢
            cases h
            obtain ⟨a1, a2⟩ := cutF_cut l2 r2 hs3
            simp only [a1, a2]
          · rw [if_neg hs3] at h; cases h
      · rw [if_neg hs] at h ⊢
        cases h3 : lensN (m - 1) r with
        | none => rfl
        | some q =>
          obtain ⟨l, r'⟩ := q
          rw [h3] at h
          simp only at h ⊢
          by_cases hs3 : sumN l ≤ r'.length
          · rw [if_pos hs3] at h; cases h
          · rw [if_neg hs3]

theorem even_one (r : List Nat) : bodyN 1 false r = some [r] := by
  unfold bodyN
  rw [if_neg (by simp), if_pos (Nat.mod_one _), Nat.div_one]
  show some [r.take r.length] = _
  rw [List.take_length]

theorem even_two (r : List Nat) : bodyN 2 false r = if r.length % 2 = 1 then none else some [r.take (r.length / 2), r.drop (r.length / 2)] := by
  unfold bodyN
  rw [if_neg (by simp)]
  by_cases h : r.length % 2 = 0
  · rw [if_pos h, if_neg (by omega)]
    show some [r.take (r.length / 2), (r.drop (r.length / 2)).take (r.length / 2)] = _
    rw [List.take_of_length_le (l := r.drop (r.length / 2)) (by rw [List.length_drop]; omega)]
  · rw [if_neg h, if_pos (by omega)]

theorem told_two (r : List Nat) : bodyN 2 true r = match takeLen r with | none => none | some (n, r') => some [r'.take n, r'.drop n] := by
  unfold bodyN
  rw [if_pos rfl]
  have e : lensN (2 - 1) r = match takeLen r with | none => none | some (n, r') => some ([n], r') := rfl
  rw [e]
  cases h : takeLen r with
  | none => rfl
  | some q =>
    obtain ⟨n, r'⟩ := q
    have hn := (takeLen_is h).2.1
    simp only
    rw [if_pos (by show n + 0 ≤ _; omega)]
    rfl

theorem parse_eq : ∀ b : List Nat, parseP b = parseN b
  | [] => rfl
  | h :: r => by
    unfold parseP parseN
    simp only
    by_cases hc : 11 < h / 8
    · rw [if_pos hc, if_pos hc]
    · rw [if_neg hc, if_neg hc]
      have h4 : h % 4 < 4 := Nat.mod_lt _ (by decide)
      have hms := msN_in (h / 8)
      unfold framesN headP
      by_cases c0 : h % 4 = 0
      · rw [if_pos c0, if_pos c0]
        simp only
        rw [if_neg (by omega)]
        simp only [Bool.false_eq_true, if_false]
        rw [bodyP_is, even_one]
        by_cases hs : shortN [r] = true
        · simp only [hs, if_true]
        · simp only [if_neg hs]
      rw [if_neg c0, if_neg c0]
      by_cases c1 : h % 4 = 1
      · rw [if_pos c1, if_pos c1]
        simp only
        rw [if_neg (by omega)]
        simp only [Bool.false_eq_true, if_false]
        rw [bodyP_is, even_two]
        by_cases hp : r.length % 2 = 1
        · rw [if_pos hp, if_pos hp]
        · rw [if_neg hp, if_neg hp]
          simp only
          by_cases hs : shortN [r.take (r.length / 2), r.drop (r.length / 2)] = true
          · simp only [hs, if_true]
          · simp only [if_neg hs]
      rw [if_neg c1, if_neg c1]
      by_cases c2 : h % 4 = 2
      · rw [if_pos c2, if_pos c2]
        simp only
        rw [if_neg (by omega)]
        simp only [Bool.false_eq_true, if_false]
        rw [bodyP_is, told_two]
        cases takeLen r with
        | none => rfl
        | some q =>
          obtain ⟨n, r'⟩ := q
          simp only
          by_cases hs : shortN [r'.take n, r'.drop n] = true
          · simp only [hs, if_true]
          · simp only [if_neg hs]
      rw [if_neg c2, if_neg c2]
      cases r with
      | nil => rfl
      | cons v r =>
        unfold manyN
        simp only
        by_cases hm : v % 64 = 0 ∨ 120 < v % 64 * msN (h / 8)
        · rw [if_pos hm, if_pos (by omega)]
        · rw [if_neg hm, if_neg (by omega)]
          by_cases hp : v / 64 % 2 = 1
          · rw [if_pos hp]
            simp only [hp, decide_true, if_true]
            unfold padP
            cases padN r 0 with
            | none => rfl
            | some q =>
              obtain ⟨p, r'⟩ := q
              simp only
              by_cases hl : p ≤ r'.length
              · rw [if_pos hl, if_pos hl]
                simp only
                rw [bodyP_is]
                cases bodyN (v % 64) (decide (v / 128 % 2 = 1)) (r'.take (r'.length - p)) with
                | none => rfl
                | some fs =>
                  simp only [Option.map_some]
                  by_cases hs : shortN fs = true
                  · simp only [hs, if_true]
                  · simp only [if_neg hs]
              · rw [if_neg hl, if_neg hl]
          · rw [if_neg hp]
            simp only [hp, decide_false, Bool.false_eq_true, if_false]
            rw [bodyP_is]
            cases bodyN (v % 64) (decide (v / 128 % 2 = 1)) r with
            | none => rfl
            | some fs =>
              simp only [Option.map_some]
              by_cases hs : shortN fs = true
              · simp only [hs, if_true]
              · simp only [if_neg hs]

end Go.Proofs.YtgiellpepnbpcaaDoor

