/- Texts put together: RcM RcN RencM RencN RencO RencP RencQ RencL RencR RencW RencX RencT. -/
import Derived.Test.YtdbgcbbfnjoebaaMA
/- Reading bits, as plain numbers: the state of a reader, what each of its steps does to it, and what holds of it ever after. Nothing here is of any program. -/
namespace Go.Proofs.Ytdbgcbbfnjoebaa

/-! ### The state, and how it goes on -/
structure St where
  rng : Nat
  val : Nat
  last : Nat
  front : Nat
  raw : Nat
  cnt : Nat
  bad : Bool

def byteAt (b : List Nat) (i : Nat) : Nat := b[i]?.getD 0
def Bytes (b : List Nat) : Prop := ∀ i, byteAt b i < 256

def stepS (b : List Nat) (s : St) : St :=
  { s with cnt := s.cnt + 8, rng := s.rng * 256, last := byteAt b s.front, front := s.front + 1, val := (256 * s.val + 255 - (256 * s.last + byteAt b s.front) / 2 % 256) % 2147483648 }

def onS (b : List Nat) : Nat → St → St
  | 0, s => s
  | n + 1, s => if s.rng ≤ 8388608 then onS b n (stepS b s) else s

def initS (b : List Nat) : St := onS b 3 { rng := 128, val := 127 - byteAt b 0 / 2, last := byteAt b 0, front := 1, raw := 0, cnt := 9, bad := false }

/-- What holds between two reads. -/
structure Inv (s : St) : Prop where
  low : 8388608 < s.rng
  high : s.rng ≤ 2147483648
  val : s.val < s.rng
  last : s.last < 256
  cnt : s.cnt = 8 * s.front + 1 + s.raw

/-- What holds ahead of going on. -/
structure Pre (s : St) : Prop where
  low : 1 ≤ s.rng
  high : s.rng ≤ 2147483648
  val : s.val < s.rng
  last : s.last < 256
  cnt : s.cnt = 8 * s.front + 1 + s.raw

theorem Inv.pre {s : St} (h : Inv s) : Pre s := ⟨by have := h.low; omega, h.high, h.val, h.last, h.cnt⟩

theorem stepS_val {b : List Nat} (hb : Bytes b) {s : St} (h : Pre s) (hr : s.rng ≤ 8388608) :
    (stepS b s).val = 256 * s.val + 255 - (256 * s.last + byteAt b s.front) / 2 % 256 ∧ (stepS b s).val < s.rng * 256 := by
  have h1 := h.val
  have h2 := hb s.front
  have h3 : (256 * s.val + 255 - (256 * s.last + byteAt b s.front) / 2 % 256) < 2147483648 := by omega
  show (256 * s.val + 255 - (256 * s.last + byteAt b s.front) / 2 % 256) % 2147483648 = _ ∧ _
  refine ⟨Nat.mod_eq_of_lt h3, ?_⟩
  show (256 * s.val + 255 - (256 * s.last + byteAt b s.front) / 2 % 256) % 2147483648 < _
  rw [Nat.mod_eq_of_lt h3]
  omega

theorem stepS_pre {b : List Nat} (hb : Bytes b) {s : St} (h : Pre s) (hr : s.rng ≤ 8388608) : Pre (stepS b s) := by
  have hv := stepS_val hb h hr
  refine ⟨?_, ?_, hv.2, hb _, ?_⟩
  · show 1 ≤ s.rng * 256
    have := h.low; omega
  · show s.rng * 256 ≤ 2147483648
    omega
  · show s.cnt + 8 = 8 * (s.front + 1) + 1 + s.raw
    have := h.cnt; omega

theorem onS_inv {b : List Nat} (hb : Bytes b) : ∀ (n : Nat) (s : St), Pre s → 8388608 < s.rng * 256 ^ n → Inv (onS b n s)
  | 0, s, h, hr => by
    have h0 : 8388608 < s.rng := by simpa using hr
    exact ⟨h0, h.high, h.val, h.last, h.cnt⟩
  | n + 1, s, h, hr => by
    unfold onS
    split
    · rename_i hc
      refine onS_inv hb n _ (stepS_pre hb h hc) ?_
      show 8388608 < s.rng * 256 * 256 ^ n
      rw [Nat.pow_succ] at hr
      rw [Nat.mul_assoc, Nat.mul_comm 256]
      exact hr
    · exact ⟨by omega, h.high, h.val, h.last, h.cnt⟩

theorem onS_inv3 {b : List Nat} (hb : Bytes b) {s : St} (h : Pre s) : Inv (onS b 3 s) :=
  onS_inv hb 3 s h (by have := h.low; omega)

theorem initS_inv {b : List Nat} (hb : Bytes b) : Inv (initS b) :=
  onS_inv3 hb ⟨by show 1 ≤ 128; decide, by show 128 ≤ 2147483648; decide, by show 127 - byteAt b 0 / 2 < 128; omega, hb 0, rfl⟩

/-- Going on changes neither what was read nor whether it can be. -/
theorem onS_same (b : List Nat) : ∀ (n : Nat) (s : St), (onS b n s).raw = s.raw ∧ (onS b n s).bad = s.bad
  | 0, _ => ⟨rfl, rfl⟩
  | n + 1, s => by
    unfold onS
    split
    · exact onS_same b n _
    · exact ⟨rfl, rfl⟩

/-! ### How much was read -/
def lenN (n : Nat) : Nat := if n = 0 then 0 else n.log2 + 1
def tellZ (s : St) : Int := (s.cnt : Int) - (lenN s.rng : Int)

theorem lenN_256 {n : Nat} (h : 1 ≤ n) : lenN (n * 256) = lenN n + 8 := by
  unfold lenN
  rw [if_neg (by omega), if_neg (by omega)]
  have h1 : 2 ^ n.log2 ≤ n := Nat.log2_self_le (by omega)
  have h2 : n < 2 ^ (n.log2 + 1) := Nat.lt_log2_self
  have h3 : (n * 256).log2 = n.log2 + 8 := by
    refine (Nat.log2_eq_iff (by omega)).2 ⟨?_, ?_⟩
    · rw [Nat.pow_add]; omega
    · rw [show n.log2 + 8 + 1 = n.log2 + 1 + 8 by omega, Nat.pow_add]; omega
  rw [h3]

theorem lenN_mono {m n : Nat} (h : m ≤ n) : lenN m ≤ lenN n := by
  unfold lenN
  split
  · exact Nat.zero_le _
  · rename_i hm
    rw [if_neg (by omega)]
    have h1 : 2 ^ m.log2 ≤ m := Nat.log2_self_le hm
    have h2 : n < 2 ^ (n.log2 + 1) := Nat.lt_log2_self
    have h3 : m.log2 < n.log2 + 1 := (Nat.pow_lt_pow_iff_right (by decide)).1 (Nat.lt_of_le_of_lt h1 (Nat.lt_of_le_of_lt h h2))
    omega

theorem onS_tell (b : List Nat) : ∀ (n : Nat) (s : St), 1 ≤ s.rng → tellZ (onS b n s) = tellZ s
  | 0, _, _ => rfl
  | n + 1, s, h => by
    unfold onS
    split
    · rw [onS_tell b n (stepS b s) (by show 1 ≤ s.rng * 256; omega)]
      unfold tellZ stepS
      simp only
      rw [lenN_256 h]
      omega
    · rfl

theorem lenN_in {n : Nat} (h : 8388608 < n) (h2 : n ≤ 2147483648) : 24 ≤ lenN n ∧ lenN n ≤ 32 := by
  have h3 := lenN_mono (show 8388608 ≤ n by omega)
  have h4 := lenN_mono h2
  have e1 : lenN 8388608 = 24 := by decide
  have e2 : lenN 2147483648 = 32 := by decide
  omega

theorem Inv.tell {s : St} (h : Inv s) : 8 * (s.front : Int) + s.raw - 31 ≤ tellZ s ∧ tellZ s ≤ 8 * (s.front : Int) + s.raw - 23 := by
  have h1 := lenN_in h.low h.high
  have h2 := h.cnt
  unfold tellZ
  omega

/-! ### To choose, and to take -/
def chooseS (s : St) (ft : Nat) : Nat := ft - min (s.val / (s.rng / ft) + 1) ft

def narrowS (s : St) (fl fh ft : Nat) : St :=
  { s with val := s.val - s.rng / ft * (ft - fh), rng := if 0 < fl then s.rng / ft * (fh - fl) else s.rng - s.rng / ft * (ft - fh) }

def takeS (b : List Nat) (s : St) (fl fh ft : Nat) : St := onS b 3 (narrowS s fl fh ft)

theorem chooseS_lt {s : St} {ft : Nat} (h : 1 ≤ ft) : chooseS s ft < ft := by
  unfold chooseS
  generalize s.val / (s.rng / ft) = q
  omega

/-- What is chosen tells where the value lies. -/
theorem choose_out {s : St} (h : Inv s) {ft fl fh : Nat} (hft : 1 ≤ ft) (hft2 : ft ≤ 32768) (h1 : fl ≤ chooseS s ft) (h2 : chooseS s ft < fh) (h3 : fh ≤ ft) :
    1 ≤ s.rng / ft ∧ s.rng / ft * (ft - fh) ≤ s.val ∧ (0 < fl → s.val < s.rng / ft * (ft - fl)) ∧ s.rng / ft * ft ≤ s.rng := by
  have he : 1 ≤ s.rng / ft := (Nat.le_div_iff_mul_le (by omega)).2 (by have := h.low; omega)
  have hm : s.rng / ft * ft ≤ s.rng := Nat.div_mul_le_self _ _
  unfold chooseS at h1 h2
  generalize s.rng / ft = e at *
  have hq : e * (s.val / e) ≤ s.val := Nat.mul_div_le _ _
  have hq2 : s.val < e * (s.val / e + 1) := Nat.lt_mul_div_succ _ he
  generalize s.val / e = q at *
  refine ⟨he, ?_, fun h0 => ?_, hm⟩
  · have h4 : e * (ft - fh) ≤ e * q := Nat.mul_le_mul_left _ (by omega)
    omega
  · have h4 : e * (q + 1) ≤ e * (ft - fl) := Nat.mul_le_mul_left _ (by omega)
    omega

theorem narrow_pre {s : St} (h : Inv s) {ft fl fh : Nat} (hft : 1 ≤ ft) (hft2 : ft ≤ 32768) (h1 : fl ≤ chooseS s ft) (h2 : chooseS s ft < fh) (h3 : fh ≤ ft) :
    Pre (narrowS s fl fh ft) ∧ (narrowS s fl fh ft).rng ≤ s.rng := by
  obtain ⟨he, a1, a2, a3⟩ := choose_out h hft hft2 h1 h2 h3
  have hv := h.val
  have hh := h.high
  have hlt : fl < fh := by omega
  have m1 : s.rng / ft * (ft - fh) ≤ s.rng / ft * ft := Nat.mul_le_mul_left _ (by omega)
  have m2 : s.rng / ft * (fh - fl) ≤ s.rng / ft * ft := Nat.mul_le_mul_left _ (by omega)
  have m3 : s.rng / ft * (ft - fl) = s.rng / ft * (ft - fh) + s.rng / ft * (fh - fl) := by rw [← Nat.mul_add]; congr 1; omega
  have m4 : s.rng / ft * 1 ≤ s.rng / ft * (fh - fl) := Nat.mul_le_mul_left _ (by omega)
  by_cases h0 : 0 < fl
  · have a4 := a2 h0
    have e1 : (narrowS s fl fh ft).rng = s.rng / ft * (fh - fl) := if_pos h0
    refine ⟨⟨?_, ?_, ?_, h.last, h.cnt⟩, ?_⟩
    · rw [e1]; omega
    · rw [e1]; omega
    · rw [e1]
      show s.val - s.rng / ft * (ft - fh) < _
      omega
    · rw [e1]; omega
  · have e1 : (narrowS s fl fh ft).rng = s.rng - s.rng / ft * (ft - fh) := if_neg h0
    refine ⟨⟨?_, ?_, ?_, h.last, h.cnt⟩, ?_⟩
    · rw [e1]; omega
    · rw [e1]; omega
    · rw [e1]
      show s.val - s.rng / ft * (ft - fh) < _
      omega
    · rw [e1]; omega

theorem takeS_inv {b : List Nat} (hb : Bytes b) {s : St} (h : Inv s) {ft fl fh : Nat} (hft : 1 ≤ ft) (hft2 : ft ≤ 32768) (h1 : fl ≤ chooseS s ft) (h2 : chooseS s ft < fh) (h3 : fh ≤ ft) : Inv (takeS b s fl fh ft) :=
  onS_inv3 hb (narrow_pre h hft hft2 h1 h2 h3).1

theorem tell_narrow {s t : St} (h : t.rng ≤ s.rng) (hc : t.cnt = s.cnt) : tellZ s ≤ tellZ t := by
  have := lenN_mono h
  unfold tellZ
  omega

theorem takeS_tell {b : List Nat} {s : St} (h : Inv s) {ft fl fh : Nat} (hft : 1 ≤ ft) (hft2 : ft ≤ 32768) (h1 : fl ≤ chooseS s ft) (h2 : chooseS s ft < fh) (h3 : fh ≤ ft) : tellZ s ≤ tellZ (takeS b s fl fh ft) := by
  obtain ⟨p, hr⟩ := narrow_pre h hft hft2 h1 h2 h3
  unfold takeS
  rw [onS_tell b 3 _ p.low]
  exact tell_narrow hr rfl

/-! ### Symbols -/
/-- The first symbol below which f lies: its number, what stands ahead of it, what stands at it. -/
def symGo (f : Int) : Nat → Int → List Int → Nat × Int × Int
  | k, p, [] => (k, p, p)
  | k, p, x :: l => if f < 256 - x then (k, p, x) else symGo f (k + 1) x l

theorem falls_last_nonneg : ∀ (l : List Int) (p : Int), falls p l = true → (∃ n, l[n]? = some 0 ∧ n + 1 = l.length) → ∀ x ∈ l, 0 ≤ x
  | [], _, _, _, x, hx => by cases hx
  | y :: l, p, h, ⟨n, hn, hl⟩, x, hx => by
    unfold falls at h
    split at h
    · cases h
    · cases l with
      | nil =>
        simp at hl
        subst hl
        simp at hn
        subst hn
        simp at hx
        omega
      | cons z l =>
        have hn' : n = (n - 1) + 1 := by simp at hl; omega
        rw [hn'] at hn
        have ih := falls_last_nonneg (z :: l) y h ⟨n - 1, by simpa using hn, by simp at hl ⊢; omega⟩
        rcases List.mem_cons.1 hx with rfl | hx
        · unfold falls at h
          split at h
          · cases h
          · have := ih z (by simp)
            omega
        · exact ih x hx

theorem symGo_out (f : Int) : ∀ (l : List Int) (k : Nat) (p : Int), falls p l = true → (∀ x ∈ l, 0 ≤ x) → (∃ x ∈ l, f < 256 - x) → 256 - p ≤ f → p ≤ 256 →
    k ≤ (symGo f k p l).1 ∧ (symGo f k p l).1 < k + l.length ∧ 256 - (symGo f k p l).2.1 ≤ f ∧ f < 256 - (symGo f k p l).2.2 ∧ 0 ≤ (symGo f k p l).2.2 ∧ (symGo f k p l).2.2 < (symGo f k p l).2.1 ∧ (symGo f k p l).2.1 ≤ 256
  | [], _, _, _, _, ⟨_, hx, _⟩, _, _ => by cases hx
  | x :: l, k, p, h, hn, ⟨y, hy, hy2⟩, hp, hp2 => by
    unfold falls at h
    split at h
    · cases h
    · rename_i hpx
      unfold symGo
      split
      · rename_i hc
        have := hn x (by simp)
        simp only [List.length_cons]
        omega
      · rename_i hc
        have hyl : y ∈ l := by
          rcases List.mem_cons.1 hy with rfl | hy
          · omega
          · exact hy
        have ih := symGo_out f l (k + 1) x h (fun z hz => hn z (by simp [hz])) ⟨y, hyl, hy2⟩ (by omega) (by omega)
        simp only [List.length_cons]
        omega

def symS (b : List Nat) (t : List Int) (s : St) : Nat × St :=
  if goodB t then
    (fun r => (r.1, takeS b s (256 - r.2.1).toNat (256 - r.2.2).toNat 256)) (symGo (chooseS s 256 : Nat) 0 256 t)
  else (0, s)

theorem good_out {t : List Int} (h : goodB t = true) : 1 ≤ t.length ∧ t.length ≤ 256 ∧ falls 256 t = true ∧ (∃ n, t[n]? = some 0 ∧ n + 1 = t.length) := by
  unfold goodB at h
  simp only [Bool.and_eq_true, decide_eq_true_eq] at h
  obtain ⟨h1, h2, h3, h4⟩ := h
  refine ⟨h1, h2, h4, t.length - 1, ?_, by omega⟩
  rw [List.getElem?_eq_getElem (by omega)] at h3 ⊢
  simpa using h3

theorem sym_out {t : List Int} (h : goodB t = true) {f : Nat} (hf : f < 256) :
    (symGo f 0 256 t).1 < t.length ∧ 256 - (symGo f 0 256 t).2.1 ≤ (f : Int) ∧ (f : Int) < 256 - (symGo f 0 256 t).2.2 ∧ 0 ≤ (symGo f 0 256 t).2.2 ∧ (symGo f 0 256 t).2.2 < (symGo f 0 256 t).2.1 ∧ (symGo f 0 256 t).2.1 ≤ 256 := by
  obtain ⟨h1, h2, h3, n, hn, hl⟩ := good_out h
  have h0 : (0 : Int) ∈ t := List.mem_of_getElem? hn
  have := symGo_out f t 0 256 h3 (falls_last_nonneg t 256 h3 ⟨n, hn, hl⟩) ⟨0, h0, by omega⟩ (by omega) (by omega)
  omega

theorem symS_inv {b : List Nat} (hb : Bytes b) {s : St} (h : Inv s) (t : List Int) :
    Inv (symS b t s).2 ∧ tellZ s ≤ tellZ (symS b t s).2 ∧ (goodB t = true → (symS b t s).1 < t.length) ∧ (goodB t = false → symS b t s = (0, s)) := by
  unfold symS
  cases hg : goodB t
  · exact ⟨h, Int.le_refl _, fun h => (by cases h), fun _ => rfl⟩
  · obtain ⟨a1, a2, a3, a4, a5, a6⟩ := sym_out hg (chooseS_lt (s := s) (ft := 256) (by decide))
    refine ⟨takeS_inv hb h (by decide) (by decide) ?_ ?_ ?_, takeS_tell h (by decide) (by decide) ?_ ?_ ?_, fun _ => a1, fun h => (by cases h)⟩ <;> omega

/-! ### Flags -/
def flagPre (n : Nat) (s : St) : Bool × St :=
  if s.val < s.rng / 2 ^ n then (true, { s with rng := s.rng / 2 ^ n }) else (false, { s with val := s.val - s.rng / 2 ^ n, rng := s.rng - s.rng / 2 ^ n })
def flagS (b : List Nat) (n : Int) (s : St) : Bool × St :=
  if 1 ≤ n ∧ n ≤ 15 then ((flagPre n.toNat s).1, onS b 3 (flagPre n.toNat s).2) else (false, s)

theorem flag_pre {s : St} (h : Inv s) {n : Nat} (h1 : 1 ≤ n) (h2 : n ≤ 15) : Pre (flagPre n s).2 ∧ (flagPre n s).2.rng ≤ s.rng ∧ (flagPre n s).2.cnt = s.cnt ∧ (flagPre n s).2.bad = s.bad ∧ (flagPre n s).2.raw = s.raw := by
  have hp1 : 2 ^ 1 ≤ 2 ^ n := Nat.pow_le_pow_right (by decide) h1
  have hp2 : 2 ^ n ≤ 2 ^ 15 := Nat.pow_le_pow_right (by decide) h2
  have hd1 : 1 ≤ s.rng / 2 ^ n := (Nat.le_div_iff_mul_le (by omega)).2 (by have := h.low; omega)
  have hd2 : s.rng / 2 ^ n < s.rng := Nat.div_lt_self (by have := h.low; omega) (by omega)
  have hv := h.val
  have hh := h.high
  unfold flagPre
  split
  · rename_i hc
    exact ⟨⟨hd1, by show s.rng / 2 ^ n ≤ _; omega, hc, h.last, h.cnt⟩, by show s.rng / 2 ^ n ≤ s.rng; omega, rfl, rfl, rfl⟩
  · rename_i hc
    refine ⟨⟨?_, ?_, ?_, h.last, h.cnt⟩, ?_, rfl, rfl, rfl⟩
    · show 1 ≤ s.rng - s.rng / 2 ^ n; omega
    · show s.rng - s.rng / 2 ^ n ≤ _; omega
    · show s.val - s.rng / 2 ^ n < s.rng - s.rng / 2 ^ n; omega
    · show s.rng - s.rng / 2 ^ n ≤ s.rng; omega

theorem flagS_inv {b : List Nat} (hb : Bytes b) {s : St} (h : Inv s) (n : Int) : Inv (flagS b n s).2 ∧ tellZ s ≤ tellZ (flagS b n s).2 := by
  unfold flagS
  split
  · rename_i hn
    obtain ⟨p, hr, hc, _⟩ := flag_pre h (n := n.toNat) (by omega) (by omega)
    refine ⟨onS_inv3 hb p, ?_⟩
    show tellZ s ≤ tellZ (onS b 3 (flagPre n.toNat s).2)
    rw [onS_tell b 3 _ p.low]
    exact tell_narrow hr hc
  · exact ⟨h, Int.le_refl _⟩

end Go.Proofs.Ytdbgcbbfnjoebaa

/- Reading bits, as plain numbers: bits from the end, numbers below another, numbers that are mostly small; readers of other bytes. Nothing here is of any program. -/
namespace Go.Proofs.Ytdbgcbbfnjoebaa

/-! ### Bits from the end -/
def backAt (b : List Nat) (j : Nat) : Nat := if j < b.length then byteAt b (b.length - 1 - j) else 0
def bitAt (b : List Nat) (p : Nat) : Nat := backAt b (p / 8) / 2 ^ (p % 8) % 2
def bitsN (b : List Nat) (at_ : Nat) : Nat → Nat
  | 0 => 0
  | n + 1 => bitsN b at_ n + bitAt b (at_ + n) * 2 ^ n

theorem bitAt_le (b : List Nat) (p : Nat) : bitAt b p ≤ 1 := by unfold bitAt; omega

theorem bitsN_lt (b : List Nat) (at_ : Nat) : ∀ n, bitsN b at_ n < 2 ^ n
  | 0 => by show 0 < 1; decide
  | n + 1 => by
    have h1 := bitsN_lt b at_ n
    have h2 := bitAt_le b (at_ + n)
    have h3 : bitAt b (at_ + n) * 2 ^ n ≤ 1 * 2 ^ n := Nat.mul_le_mul_right _ h2
    unfold bitsN
    rw [Nat.pow_succ]
    omega

theorem bitsN_add (b : List Nat) (at_ m : Nat) : ∀ n, bitsN b at_ (m + n) = bitsN b at_ m + bitsN b (at_ + m) n * 2 ^ m
  | 0 => by simp [bitsN]
  | n + 1 => by
    have h := bitsN_add b at_ m n
    show bitsN b at_ (m + n) + bitAt b (at_ + (m + n)) * 2 ^ (m + n) = bitsN b at_ m + (bitsN b (at_ + m) n + bitAt b (at_ + m + n) * 2 ^ n) * 2 ^ m
    rw [h, Nat.add_mul, Nat.add_assoc at_ m n, Nat.mul_assoc (bitAt b (at_ + (m + n))) (2 ^ n), ← Nat.pow_add, Nat.add_comm n m, Nat.add_assoc]

theorem bitsN_mod (b : List Nat) (at_ m n : Nat) : bitsN b at_ (m + n) % 2 ^ m = bitsN b at_ m := by
  rw [bitsN_add, Nat.add_mul_mod_self_right, Nat.mod_eq_of_lt (bitsN_lt b at_ m)]

theorem bitsN_div (b : List Nat) (at_ m n : Nat) : bitsN b at_ (m + n) / 2 ^ m = bitsN b (at_ + m) n := by
  rw [bitsN_add, Nat.add_mul_div_right _ _ (Nat.two_pow_pos m), Nat.div_eq_of_lt (bitsN_lt b at_ m), Nat.zero_add]

theorem backAt_lt {b : List Nat} (hb : Bytes b) (j : Nat) : backAt b j < 256 := by
  unfold backAt
  split
  · exact hb _
  · decide

/-- Eight bits at a byte's beginning are the byte. -/
theorem bitsN_byte {b : List Nat} (hb : Bytes b) (j : Nat) : bitsN b (8 * j) 8 = backAt b j := by
  have hx := backAt_lt hb j
  have e : ∀ k, k < 8 → bitAt b (8 * j + k) = backAt b j / 2 ^ k % 2 := fun k hk => by
    unfold bitAt
    rw [show (8 * j + k) / 8 = j by omega, show (8 * j + k) % 8 = k by omega]
  simp only [bitsN, e 0 (by decide), e 1 (by decide), e 2 (by decide), e 3 (by decide), e 4 (by decide), e 5 (by decide), e 6 (by decide), e 7 (by decide)]
  generalize backAt b j = x at *
  omega

def bitsS (b : List Nat) (n : Int) (s : St) : Nat × St :=
  if 0 ≤ n ∧ n ≤ 24 then (bitsN b s.raw n.toNat, { s with raw := s.raw + n.toNat, cnt := s.cnt + n.toNat }) else (0, s)

theorem bitsS_inv (b : List Nat) {s : St} (h : Inv s) (n : Int) : Inv (bitsS b n s).2 ∧ tellZ s ≤ tellZ (bitsS b n s).2 ∧ (0 ≤ n → n ≤ 24 → (bitsS b n s).1 < 2 ^ n.toNat) ∧ (¬ (0 ≤ n ∧ n ≤ 24) → bitsS b n s = (0, s)) := by
  unfold bitsS
  split
  · rename_i hn
    refine ⟨⟨h.low, h.high, h.val, h.last, ?_⟩, ?_, fun _ _ => bitsN_lt _ _ _, fun h => absurd hn h⟩
    · show s.cnt + n.toNat = 8 * s.front + 1 + (s.raw + n.toNat)
      have := h.cnt; omega
    · show (s.cnt : Int) - (lenN s.rng : Int) ≤ ((s.cnt + n.toNat : Nat) : Int) - (lenN s.rng : Int)
      omega
  · rename_i hn
    exact ⟨h, Int.le_refl _, fun h1 h2 => absurd ⟨h1, h2⟩ hn, fun _ => rfl⟩

/-! ### Numbers below another -/
def shiftN (ft : Nat) : Nat := lenN (ft - 1) - 8
def partN (ft : Nat) : Nat := (ft - 1) / 2 ^ shiftN ft + 1

def uintBig (b : List Nat) (ft : Nat) (s : St) : Nat × St :=
  (fun k => (fun r => if ft ≤ k * 2 ^ shiftN ft + r.1 then (ft - 1, { r.2 with bad := true }) else (k * 2 ^ shiftN ft + r.1, r.2)) (bitsS b (shiftN ft : Nat) (takeS b s k (k + 1) (partN ft)))) (chooseS s (partN ft))

def uintS (b : List Nat) (ft : Int) (s : St) : Nat × St :=
  if ft ≤ 1 ∨ 4294967295 < ft then (0, s)
  else if ft ≤ 256 then (chooseS s ft.toNat, takeS b s (chooseS s ft.toNat) (chooseS s ft.toNat + 1) ft.toNat)
  else uintBig b ft.toNat s

theorem shift_in {ft : Nat} (h1 : 257 ≤ ft) (h2 : ft ≤ 4294967295) : 1 ≤ shiftN ft ∧ shiftN ft ≤ 24 ∧ 129 ≤ partN ft ∧ partN ft ≤ 256 := by
  have h3 := lenN_mono (show 256 ≤ ft - 1 by omega)
  have h4 := lenN_mono (show ft - 1 ≤ 4294967294 by omega)
  have e1 : lenN 256 = 9 := by decide
  have e2 : lenN 4294967294 = 32 := by decide
  have hs : lenN (ft - 1) = (ft - 1).log2 + 1 := if_neg (by omega)
  have g1 : 2 ^ (ft - 1).log2 ≤ ft - 1 := Nat.log2_self_le (by omega)
  have g2 : ft - 1 < 2 ^ ((ft - 1).log2 + 1) := Nat.lt_log2_self
  have e3 : (ft - 1).log2 = shiftN ft + 7 := by unfold shiftN; omega
  rw [e3] at g1 g2
  rw [show shiftN ft + 7 + 1 = shiftN ft + 8 by omega] at g2
  rw [Nat.pow_add] at g1 g2
  have p := Nat.two_pow_pos (shiftN ft)
  have k1 : 2 ^ 7 ≤ (ft - 1) / 2 ^ shiftN ft := (Nat.le_div_iff_mul_le p).2 (by rw [Nat.mul_comm]; exact g1)
  have k2 : (ft - 1) / 2 ^ shiftN ft < 2 ^ 8 := (Nat.div_lt_iff_lt_mul p).2 (by rw [Nat.mul_comm]; exact g2)
  have e4 : 2 ^ 7 = 128 := by decide
  have e5 : 2 ^ 8 = 256 := by decide
  have hp : partN ft = (ft - 1) / 2 ^ shiftN ft + 1 := rfl
  have hsh : shiftN ft = lenN (ft - 1) - 8 := rfl
  omega

theorem Inv.mark {s : St} (h : Inv s) : Inv { s with bad := true } := ⟨h.low, h.high, h.val, h.last, h.cnt⟩

theorem take_one {b : List Nat} (hb : Bytes b) {s : St} (h : Inv s) {ft : Nat} (h1 : 1 ≤ ft) (h2 : ft ≤ 256) :
    Inv (takeS b s (chooseS s ft) (chooseS s ft + 1) ft) ∧ tellZ s ≤ tellZ (takeS b s (chooseS s ft) (chooseS s ft + 1) ft) := by
  have hk := chooseS_lt (s := s) h1
  exact ⟨takeS_inv hb h h1 (by omega) (Nat.le_refl _) (by omega) (by omega), takeS_tell h h1 (by omega) (Nat.le_refl _) (by omega) (by omega)⟩

theorem uintBig_inv {b : List Nat} (hb : Bytes b) {s : St} (h : Inv s) {ft : Nat} (h1 : 257 ≤ ft) (h2 : ft ≤ 4294967295) :
    Inv (uintBig b ft s).2 ∧ tellZ s ≤ tellZ (uintBig b ft s).2 ∧ (uintBig b ft s).1 < ft := by
  obtain ⟨s1, s2, s3, s4⟩ := shift_in h1 h2
  obtain ⟨i1, t1⟩ := take_one hb h (ft := partN ft) (by omega) (by omega)
  obtain ⟨i2, t2, _, _⟩ := bitsS_inv b i1 (shiftN ft : Nat)
  unfold uintBig
  simp only
  split
  · exact ⟨i2.mark, Int.le_trans t1 t2, by show ft - 1 < ft; omega⟩
  · rename_i hc
    exact ⟨i2, Int.le_trans t1 t2, by show _ < ft; omega⟩

theorem uintS_inv {b : List Nat} (hb : Bytes b) {s : St} (h : Inv s) (ft : Int) :
    Inv (uintS b ft s).2 ∧ tellZ s ≤ tellZ (uintS b ft s).2 ∧ (1 ≤ ft → ((uintS b ft s).1 : Int) < ft) ∧ (ft ≤ 1 ∨ 4294967295 < ft → uintS b ft s = (0, s)) := by
  unfold uintS
  split
  · rename_i hc
    exact ⟨h, Int.le_refl _, fun h1 => by show ((0 : Nat) : Int) < ft; omega, fun _ => rfl⟩
  · rename_i hc
    split
    · rename_i hc2
      obtain ⟨i1, t1⟩ := take_one hb h (ft := ft.toNat) (by omega) (by omega)
      have hk := chooseS_lt (s := s) (ft := ft.toNat) (by omega)
      exact ⟨i1, t1, fun _ => by show ((chooseS s ft.toNat : Nat) : Int) < ft; omega, fun h => absurd h hc⟩
    · obtain ⟨i1, t1, u1⟩ := uintBig_inv hb h (ft := ft.toNat) (by omega) (by omega)
      exact ⟨i1, t1, fun _ => by omega, fun h => absurd h hc⟩

/-! ### Numbers that are mostly small -/
/-- At most n steps: 32768 are enough for any number that is chosen. -/
def lapF (f decay : Nat) : Nat → Nat → Nat → Nat → Nat × Nat × Nat
  | 0, l, s, v => (l, s, v)
  | n + 1, l, s, v => if 1 < s ∧ l + 2 * s ≤ f then lapF f decay n (l + 2 * s) ((2 * s - 2) * decay / 32768 + 1) (v + 1) else (l, s, v)

theorem lapF_step {f decay n l s v : Nat} (h : 1 < s ∧ l + 2 * s ≤ f) : lapF f decay (n + 1) l s v = lapF f decay n (l + 2 * s) ((2 * s - 2) * decay / 32768 + 1) (v + 1) := if_pos h
theorem lapF_stop {f decay l s v : Nat} (n : Nat) (h : ¬ (1 < s ∧ l + 2 * s ≤ f)) : lapF f decay n l s v = (l, s, v) := by
  cases n with
  | zero => rfl
  | succ n => exact if_neg h

theorem lapF_in (f decay : Nat) : ∀ n l s v : Nat, f - l ≤ n → l ≤ f → 1 ≤ s → v ≤ l →
    (lapF f decay n l s v).1 ≤ f ∧ 1 ≤ (lapF f decay n l s v).2.1 ∧ (lapF f decay n l s v).2.2 ≤ (lapF f decay n l s v).1 ∧ ((lapF f decay n l s v).2.1 ≤ 1 ∨ f < (lapF f decay n l s v).1 + 2 * (lapF f decay n l s v).2.1)
  | 0, l, s, v, hn, hl, hs, hv => by
    refine ⟨hl, hs, hv, .inr ?_⟩
    show f < l + 2 * s
    omega
  | n + 1, l, s, v, hn, hl, hs, hv => by
    by_cases h : 1 < s ∧ l + 2 * s ≤ f
    · rw [lapF_step h]
      exact lapF_in f decay n _ _ _ (by omega) h.2 (by omega) (by omega)
    · rw [lapF_stop (n + 1) h]
      refine ⟨hl, hs, hv, ?_⟩
      show s ≤ 1 ∨ f < l + 2 * s
      omega

/-- Where the small ones end: what is told, and from where to where it lies. -/
def lapEnd (f : Nat) (r : Nat × Nat × Nat) : Int × Nat × Nat :=
  (fun (l v : Nat) => if f < l + r.2.1 then (-(v : Int), l, l + r.2.1) else ((v : Int), l + r.2.1, l + r.2.1 + r.2.1))
    (if r.2.1 ≤ 1 then r.1 + 2 * ((f - r.1) / 2) else r.1) (if r.2.1 ≤ 1 then r.2.2 + (f - r.1) / 2 else r.2.2)

def lapAll (fs decay f : Nat) : Int × Nat × Nat :=
  if f < fs then (0, 0, fs) else lapEnd f (lapF f decay 32768 fs ((32736 - fs) * (16384 - decay) / 32768 + 1) 1)

theorem lapEnd_in {f : Nat} {r : Nat × Nat × Nat} (h1 : r.1 ≤ f) (h2 : 1 ≤ r.2.1) (h3 : r.2.2 ≤ r.1) (h4 : r.2.1 ≤ 1 ∨ f < r.1 + 2 * r.2.1) :
    (lapEnd f r).2.1 ≤ f ∧ f < (lapEnd f r).2.2 ∧ -(f : Int) ≤ (lapEnd f r).1 ∧ (lapEnd f r).1 ≤ f := by
  obtain ⟨l, s, v⟩ := r
  simp only at h1 h2 h3 h4
  unfold lapEnd
  simp only
  by_cases hs : s ≤ 1
  · rw [if_pos hs, if_pos hs]
    split
    · simp only; omega
    · simp only; omega
  · rw [if_neg hs, if_neg hs]
    split
    · simp only; omega
    · simp only; omega

theorem lapAll_in {fs decay f : Nat} (hf : 256 ≤ fs) (hf2 : f ≤ 32768) : (lapAll fs decay f).2.1 ≤ f ∧ f < (lapAll fs decay f).2.2 ∧ -(f : Int) ≤ (lapAll fs decay f).1 ∧ (lapAll fs decay f).1 ≤ f := by
  unfold lapAll
  split
  · simp only; omega
  · have h := lapF_in f decay 32768 fs ((32736 - fs) * (16384 - decay) / 32768 + 1) 1 (by omega) (by omega) (by omega) (by omega)
    exact lapEnd_in h.1 h.2.1 h.2.2.1 h.2.2.2

abbrev lapOk (fs decay : Int) : Prop := 256 ≤ fs ∧ fs ≤ 28000 ∧ 0 ≤ decay ∧ decay ≤ 16000

def lapS (b : List Nat) (fs decay : Int) (s : St) : Int × St :=
  if lapOk fs decay then (fun r => (r.1, takeS b s r.2.1 (min r.2.2 32768) 32768)) (lapAll fs.toNat decay.toNat (chooseS s 32768)) else (0, s)

theorem lapS_inv {b : List Nat} (hb : Bytes b) {s : St} (h : Inv s) (fs decay : Int) : Inv (lapS b fs decay s).2 ∧ tellZ s ≤ tellZ (lapS b fs decay s).2 := by
  unfold lapS
  split
  · rename_i hok
    obtain ⟨o1, o2, o3, o4⟩ := hok
    have hk := chooseS_lt (s := s) (ft := 32768) (by decide)
    obtain ⟨a1, a2, a3, a4⟩ := lapAll_in (fs := fs.toNat) (decay := decay.toNat) (f := chooseS s 32768) (by omega) (by omega)
    exact ⟨takeS_inv hb h (by decide) (by decide) a1 (by omega) (by omega), takeS_tell h (by decide) (by decide) a1 (by omega) (by omega)⟩
  · exact ⟨h, Int.le_refl _⟩

/-! ### Readers of other bytes -/
theorem stepS_eq {b c : List Nat} {s : St} (h : byteAt b s.front = byteAt c s.front) : stepS b s = stepS c s := by
  unfold stepS
  rw [h]

theorem onS_front (b : List Nat) : ∀ (n : Nat) (s : St), s.front ≤ (onS b n s).front
  | 0, _ => Nat.le_refl _
  | n + 1, s => by
    unfold onS
    split
    · exact Nat.le_trans (show s.front ≤ s.front + 1 by omega) (onS_front b n (stepS b s))
    · exact Nat.le_refl _

/-- As long as what is read lies where the bytes are the same, so are the states. -/
theorem onS_eq {b c : List Nat} {N : Nat} (h : ∀ i, i < N → byteAt b i = byteAt c i) : ∀ (n : Nat) (s : St), (onS b n s).front ≤ N → onS c n s = onS b n s
  | 0, _, _ => rfl
  | n + 1, s, hf => by
    unfold onS at hf ⊢
    split
    · rename_i hc
      rw [if_pos hc] at hf
      have h1 := onS_front b n (stepS b s)
      have h2 : s.front < N := by
        have : (stepS b s).front = s.front + 1 := rfl
        omega
      rw [← stepS_eq (h s.front h2)]
      exact onS_eq h n _ hf
    · rfl

theorem takeS_eq {b c : List Nat} {N : Nat} (h : ∀ i, i < N → byteAt b i = byteAt c i) {s : St} {fl fh ft : Nat} (hf : (takeS b s fl fh ft).front ≤ N) : takeS c s fl fh ft = takeS b s fl fh ft := onS_eq h 3 _ hf

theorem symS_eq {b c : List Nat} {N : Nat} (h : ∀ i, i < N → byteAt b i = byteAt c i) {s : St} {t : List Int} (hf : (symS b t s).2.front ≤ N) : symS c t s = symS b t s := by
  unfold symS at hf ⊢
  split
  · rename_i hg
    rw [if_pos hg] at hf
    simp only at hf ⊢
    rw [takeS_eq h hf]
  · rfl

theorem symS_value (b c : List Nat) (t : List Int) (s : St) : (symS b t s).1 = (symS c t s).1 := by
  unfold symS
  split <;> rfl

theorem flagS_eq {b c : List Nat} {N : Nat} (h : ∀ i, i < N → byteAt b i = byteAt c i) {s : St} {n : Int} (hf : (flagS b n s).2.front ≤ N) : flagS c n s = flagS b n s := by
  unfold flagS at hf ⊢
  split
  · rename_i hg
    rw [if_pos hg] at hf
    simp only at hf ⊢
    rw [onS_eq h 3 _ hf]
  · rfl

theorem initS_eq {b c : List Nat} {N : Nat} (h : ∀ i, i < N → byteAt b i = byteAt c i) (hN : 0 < N) (hf : (initS b).front ≤ N) : initS c = initS b := by
  unfold initS at hf ⊢
  rw [← h 0 hN]
  exact onS_eq h 3 _ hf

theorem initS_is (b : List Nat) : (initS b).rng = 2147483648 ∧ (initS b).front = 4 ∧ (initS b).cnt = 33 ∧ (initS b).raw = 0 ∧ (initS b).bad = false := by
  unfold initS onS
  rw [if_pos (by show 128 ≤ 8388608; decide)]
  unfold onS
  rw [if_pos (by show 128 * 256 ≤ 8388608; decide)]
  unfold onS
  rw [if_pos (by show 128 * 256 * 256 ≤ 8388608; decide)]
  exact ⟨by show 128 * 256 * 256 * 256 = 2147483648; decide, by show 1 + 1 + 1 + 1 = 4; decide, by show 9 + 8 + 8 + 8 = 33; decide, by show 0 = 0; rfl, by show false = false; rfl⟩

theorem initS_tell (b : List Nat) : tellZ (initS b) = 1 := by
  obtain ⟨h1, _, h3, _⟩ := initS_is b
  unfold tellZ
  rw [h1, h3]
  have e : lenN 2147483648 = 32 := by decide
  rw [e]
  rfl

theorem byteAt_append (b c : List Nat) (i : Nat) (h : i < b.length) : byteAt (b ++ c) i = byteAt b i := by
  unfold byteAt
  rw [List.getElem?_append_left h]

/-- Noughts behind change nothing that is read from the beginning. -/
theorem byteAt_noughts (b : List Nat) (n i : Nat) : byteAt (b ++ List.replicate n 0) i = byteAt b i := by
  unfold byteAt
  rcases Nat.lt_or_ge i b.length with h | h
  · rw [List.getElem?_append_left h]
  · rw [List.getElem?_append_right h, List.getElem?_eq_none h]
    rcases Nat.lt_or_ge (i - b.length) n with h2 | h2
    · simp [h2]
    · rw [List.getElem?_eq_none (by simpa using h2)]

/-- What Tell allows was read where there are bytes. -/
theorem Inv.front_le {s : St} (h : Inv s) {n : Nat} (ht : tellZ s ≤ 8 * (n : Int) - 32) : s.front ≤ n := by
  have := h.tell.1
  omega

end Go.Proofs.Ytdbgcbbfnjoebaa

/- What is written is read, as plain numbers: a writer narrows a span of numbers; a reader of bytes that lie in the span reads what narrowed it. Nothing here is of any program. -/
namespace Go.Proofs.Ytdbgcbbfnjoebaa

/-! ### The number that bytes begin with -/
def preN (b : List Nat) : Nat → Nat
  | 0 => 0
  | n + 1 => 256 * preN b n + byteAt b n

/-- The first seven bits and eight for each time that a reader went on. -/
def codeN (b : List Nat) (k : Nat) : Nat := preN b (1 + k) / 2

theorem codeN_succ {b : List Nat} (hb : Bytes b) (k : Nat) : codeN b (k + 1) = 256 * codeN b k + (256 * byteAt b k + byteAt b (1 + k)) / 2 % 256 := by
  have h1 := hb (1 + k)
  have e1 : preN b (1 + (k + 1)) = 256 * preN b (1 + k) + byteAt b (1 + k) := rfl
  have e2 : preN b (1 + k) = 256 * preN b k + byteAt b k := by
    rw [Nat.add_comm]; rfl
  unfold codeN
  rw [e1]
  omega

theorem codeN_div {b : List Nat} (hb : Bytes b) (k : Nat) : codeN b (k + 1) / 256 = codeN b k := by
  rw [codeN_succ hb]
  omega

/-! ### The writer's span -/
structure Sp where
  low : Nat
  rng : Nat
  k : Nat

def normE : Nat → Sp → Sp
  | 0, e => e
  | n + 1, e => if e.rng ≤ 8388608 then normE n { low := e.low * 256, rng := e.rng * 256, k := e.k + 1 } else e

def narrowE (e : Sp) (fl fh ft : Nat) : Sp :=
  { e with low := if 0 < fl then e.low + (e.rng - e.rng / ft * (ft - fl)) else e.low, rng := if 0 < fl then e.rng / ft * (fh - fl) else e.rng - e.rng / ft * (ft - fh) }

def putE (e : Sp) (fl fh ft : Nat) : Sp := normE 3 (narrowE e fl fh ft)

def startE : Sp := normE 3 { low := 0, rng := 128, k := 0 }

/-- Do these bytes lie in the span? -/
def In (b : List Nat) (e : Sp) : Prop := e.low ≤ codeN b e.k ∧ codeN b e.k < e.low + e.rng

/-- A reader of these bytes stands where the writer stood. -/
structure Rel (b : List Nat) (s : St) (e : Sp) : Prop where
  rng : s.rng = e.rng
  val : s.val + codeN b e.k + 1 = e.low + e.rng
  last : s.last = byteAt b e.k
  front : s.front = 1 + e.k

theorem Rel.inside {b : List Nat} {s : St} {e : Sp} (h : Rel b s e) (hv : s.val < s.rng) : In b e := by
  have h1 := h.val
  have h2 := h.rng
  unfold In
  omega

theorem rel_step {b : List Nat} (hb : Bytes b) {s : St} {e : Sp} (h : Rel b s e) (hp : Pre s) (hr : s.rng ≤ 8388608) :
    Rel b (stepS b s) { low := e.low * 256, rng := e.rng * 256, k := e.k + 1 } := by
  have h1 := h.val
  have h2 := h.rng
  have hs := (stepS_val hb hp hr).1
  have hc := codeN_succ hb e.k
  have hf := h.front
  have hl := h.last
  refine ⟨?_, ?_, ?_, ?_⟩
  · show s.rng * 256 = e.rng * 256
    rw [h2]
  · show (stepS b s).val + codeN b (e.k + 1) + 1 = e.low * 256 + e.rng * 256
    rw [hs, hc, hl, hf]
    have hq : (256 * byteAt b e.k + byteAt b (1 + e.k)) / 2 % 256 < 256 := Nat.mod_lt _ (by decide)
    generalize (256 * byteAt b e.k + byteAt b (1 + e.k)) / 2 % 256 = q at *
    omega
  · show byteAt b s.front = byteAt b (e.k + 1)
    rw [hf]
    congr 1
    omega
  · show s.front + 1 = 1 + (e.k + 1)
    omega

theorem rel_on {b : List Nat} (hb : Bytes b) : ∀ (n : Nat) (s : St) (e : Sp), Rel b s e → Pre s → Rel b (onS b n s) (normE n e)
  | 0, _, _, h, _ => h
  | n + 1, s, e, h, hp => by
    unfold onS normE
    rw [h.rng]
    split
    · rename_i hc
      rw [← h.rng] at hc
      exact rel_on hb n _ _ (rel_step hb h hp hc) (stepS_pre hb hp hc)
    · exact h

/-- Bytes in the narrower span lie in the wider one. -/
theorem in_norm {b : List Nat} (hb : Bytes b) : ∀ (n : Nat) (e : Sp), In b (normE n e) → In b e
  | 0, _, h => h
  | n + 1, e, h => by
    unfold normE at h
    split at h
    · have h1 := in_norm hb n _ h
      have h2 := codeN_div hb e.k
      unfold In at h1 ⊢
      simp only at h1
      omega
    · exact h

theorem narrow_le {e : Sp} {fl fh ft : Nat} (h1 : fl < fh) (h3 : fh ≤ ft) :
    e.low ≤ (narrowE e fl fh ft).low ∧ (narrowE e fl fh ft).low + (narrowE e fl fh ft).rng + e.rng / ft * (ft - fh) = e.low + e.rng := by
  have hm : e.rng / ft * ft ≤ e.rng := Nat.div_mul_le_self _ _
  have m1 : e.rng / ft * (ft - fh) ≤ e.rng / ft * ft := Nat.mul_le_mul_left _ (by omega)
  have m2 : e.rng / ft * (ft - fl) ≤ e.rng / ft * ft := Nat.mul_le_mul_left _ (by omega)
  have m3 : e.rng / ft * (ft - fl) = e.rng / ft * (ft - fh) + e.rng / ft * (fh - fl) := by rw [← Nat.mul_add]; congr 1; omega
  unfold narrowE
  by_cases h0 : 0 < fl
  · simp only [if_pos h0]
    omega
  · simp only [if_neg h0]
    omega

theorem in_narrow {b : List Nat} {e : Sp} {fl fh ft : Nat} (h1 : fl < fh) (h3 : fh ≤ ft) (h : In b (narrowE e fl fh ft)) : In b e := by
  have hn := narrow_le (e := e) h1 h3
  have hk : (narrowE e fl fh ft).k = e.k := rfl
  unfold In at h ⊢
  rw [hk] at h
  omega

theorem in_put {b : List Nat} (hb : Bytes b) {e : Sp} {fl fh ft : Nat} (h1 : fl < fh) (h3 : fh ≤ ft) (h : In b (putE e fl fh ft)) : In b e :=
  in_narrow h1 h3 (in_norm hb 3 _ h)

/-- What is chosen lies where the writer put it. -/
theorem choose_back {b : List Nat} {s : St} {e : Sp} (h : Rel b s e) (hi : Inv s) {fl fh ft : Nat} (h1 : fl < fh) (h3 : fh ≤ ft) (hft : ft ≤ 32768) (hin : In b (narrowE e fl fh ft)) :
    fl ≤ chooseS s ft ∧ chooseS s ft < fh := by
  have hv := h.val
  have hr := h.rng
  have he : 1 ≤ e.rng / ft := (Nat.le_div_iff_mul_le (by omega)).2 (by have := hi.low; omega)
  have hn := narrow_le (e := e) h1 h3
  have hk : (narrowE e fl fh ft).k = e.k := rfl
  unfold In at hin
  rw [hk] at hin
  have a1 : e.rng / ft * (ft - fh) ≤ s.val := by omega
  have a2 : 0 < fl → s.val < e.rng / ft * (ft - fl) := fun h0 => by
    have e1 : (narrowE e fl fh ft).low = e.low + (e.rng - e.rng / ft * (ft - fl)) := if_pos h0
    have hm : e.rng / ft * ft ≤ e.rng := Nat.div_mul_le_self _ _
    have m2 : e.rng / ft * (ft - fl) ≤ e.rng / ft * ft := Nat.mul_le_mul_left _ (by omega)
    omega
  unfold chooseS
  rw [hr]
  generalize e.rng / ft = r at *
  have hq : ft - fh ≤ s.val / r := (Nat.le_div_iff_mul_le he).2 (by rw [Nat.mul_comm]; exact a1)
  refine ⟨?_, ?_⟩
  · rcases Nat.eq_zero_or_pos fl with h0 | h0
    · omega
    · have hq2 : s.val / r < ft - fl := (Nat.div_lt_iff_lt_mul he).2 (by rw [Nat.mul_comm]; exact a2 h0)
      generalize s.val / r = q at *
      omega
  · generalize s.val / r = q at *
    omega

theorem rel_narrow {b : List Nat} {s : St} {e : Sp} (h : Rel b s e) {fl fh ft : Nat} (h1 : fl < fh) (h3 : fh ≤ ft) (hin : In b (narrowE e fl fh ft)) : Rel b (narrowS s fl fh ft) (narrowE e fl fh ft) := by
  have hv := h.val
  have hr := h.rng
  have hn := narrow_le (e := e) h1 h3
  have hk : (narrowE e fl fh ft).k = e.k := rfl
  unfold In at hin
  rw [hk] at hin
  refine ⟨?_, ?_, h.last, h.front⟩
  · unfold narrowS narrowE
    simp only [hr]
  · show s.val - s.rng / ft * (ft - fh) + codeN b e.k + 1 = _
    rw [hr]
    omega

theorem rel_put {b : List Nat} (hb : Bytes b) {s : St} {e : Sp} (h : Rel b s e) (hi : Inv s) {fl fh ft : Nat} (h1 : fl < fh) (h3 : fh ≤ ft) (hft : ft ≤ 32768) (hin : In b (putE e fl fh ft)) :
    (fl ≤ chooseS s ft ∧ chooseS s ft < fh) ∧ Rel b (takeS b s fl fh ft) (putE e fl fh ft) := by
  have hin2 := in_norm hb 3 _ hin
  have hc := choose_back h hi h1 h3 hft hin2
  exact ⟨hc, rel_on hb 3 _ _ (rel_narrow h h1 h3 hin2) (narrow_pre hi (by omega) hft hc.1 hc.2 h3).1⟩

/-- At first the reader stands where the writer began. -/
theorem rel_start {b : List Nat} (hb : Bytes b) : Rel b (initS b) startE := by
  have h0 := hb 0
  refine rel_on hb 3 _ _ ⟨rfl, ?_, rfl, rfl⟩ ⟨by show 1 ≤ 128; decide, by show 128 ≤ 2147483648; decide, by show 127 - byteAt b 0 / 2 < 128; omega, h0, rfl⟩
  show 127 - byteAt b 0 / 2 + (256 * 0 + byteAt b 0) / 2 + 1 = 0 + 128
  omega

theorem startE_is : startE = { low := 0, rng := 2147483648, k := 3 } := by
  unfold startE normE
  rw [if_pos (by show 128 ≤ 8388608; decide)]
  unfold normE
  rw [if_pos (by show 128 * 256 ≤ 8388608; decide)]
  unfold normE
  rw [if_pos (by show 128 * 256 * 256 ≤ 8388608; decide)]
  unfold normE
  simp

/-! ### Flags -/
def flagE (v : Bool) (n : Nat) (e : Sp) : Sp :=
  if v then { e with low := e.low + (e.rng - e.rng / 2 ^ n), rng := e.rng / 2 ^ n } else { e with rng := e.rng - e.rng / 2 ^ n }
def putFlagE (v : Bool) (n : Nat) (e : Sp) : Sp := normE 3 (flagE v n e)

theorem flagE_in {b : List Nat} {e : Sp} {v : Bool} {n : Nat} (h : In b (flagE v n e)) : In b e := by
  have hd : e.rng / 2 ^ n ≤ e.rng := Nat.div_le_self _ _
  unfold In flagE at *
  generalize e.rng / 2 ^ n = q at *
  cases v
  · simp only [Bool.false_eq_true, if_false] at h; omega
  · simp only [if_true] at h; omega

theorem rel_flag {b : List Nat} (hb : Bytes b) {s : St} {e : Sp} (h : Rel b s e) (hi : Inv s) {v : Bool} {n : Nat} (h1 : 1 ≤ n) (h2 : n ≤ 15) (hin : In b (putFlagE v n e)) :
    (flagS b n s).1 = v ∧ Rel b (flagS b n s).2 (putFlagE v n e) := by
  have hin2 := in_norm hb 3 _ hin
  have hv := h.val
  have hr := h.rng
  obtain ⟨hp, _⟩ := flag_pre hi h1 h2
  have hd : e.rng / 2 ^ n ≤ e.rng := Nat.div_le_self _ _
  have hcase : (s.val < s.rng / 2 ^ n ↔ v = true) := by
    rw [hr]
    unfold In flagE at hin2
    generalize e.rng / 2 ^ n = q at *
    cases v
    · simp only [Bool.false_eq_true, if_false] at hin2
      constructor
      · intro hh; omega
      · intro hh; cases hh
    · simp only [if_true] at hin2
      constructor
      · intro _; rfl
      · intro _; omega
  have hf : flagS b n s = ((flagPre n s).1, onS b 3 (flagPre n s).2) := by
    unfold flagS
    rw [if_pos (by omega)]
    rfl
  rw [hf]
  have hrel : (flagPre n s).1 = v ∧ Rel b (flagPre n s).2 (flagE v n e) := by
    unfold flagPre
    cases v
    · have hc : ¬ s.val < s.rng / 2 ^ n := fun hh => by have := hcase.1 hh; cases this
      rw [if_neg hc]
      rw [hr] at hc
      refine ⟨rfl, ?_, ?_, h.last, h.front⟩
      · show s.rng - s.rng / 2 ^ n = e.rng - e.rng / 2 ^ n
        rw [hr]
      · show s.val - s.rng / 2 ^ n + codeN b e.k + 1 = e.low + (e.rng - e.rng / 2 ^ n)
        rw [hr]
        omega
    · have hc : s.val < s.rng / 2 ^ n := hcase.2 rfl
      rw [if_pos hc]
      rw [hr] at hc
      refine ⟨rfl, ?_, ?_, h.last, h.front⟩
      · show s.rng / 2 ^ n = e.rng / 2 ^ n
        rw [hr]
      · show s.val + codeN b e.k + 1 = e.low + (e.rng - e.rng / 2 ^ n) + e.rng / 2 ^ n
        omega
  exact ⟨hrel.1, rel_on hb 3 _ _ hrel.2 hp⟩

/-! ### Symbols -/
def symFl (t : List Int) (v : Nat) : Nat := if v = 0 then 0 else (256 - t[v - 1]?.getD 0).toNat
def symFh (t : List Int) (v : Nat) : Nat := (256 - t[v]?.getD 0).toNat

/-- Where f lies in a symbol's part, that symbol is found. -/
theorem symGo_at (f : Int) : ∀ (l : List Int) (k : Nat) (p : Int) (v : Nat), falls p l = true → v < l.length → (if v = 0 then 256 - p else 256 - l[v - 1]?.getD 0) ≤ f → f < 256 - l[v]?.getD 0 →
    symGo f k p l = (k + v, (if v = 0 then p else l[v - 1]?.getD 0), l[v]?.getD 0)
  | [], _, _, _, _, hv, _, _ => by simp at hv
  | x :: l, k, p, 0, h, hv, h1, h2 => by
    simp at h1 h2
    unfold symGo
    rw [if_pos (by omega)]
    simp
  | x :: l, k, p, v + 1, h, hv, h1, h2 => by
    unfold falls at h
    split at h
    · cases h
    · simp only [List.length_cons] at hv
      simp only [Nat.add_eq_zero_iff, Nat.one_ne_zero, and_false, if_false, Nat.add_sub_cancel, List.getElem?_cons_succ] at h1 h2 ⊢
      have hx : 256 - x ≤ f := by
        cases v with
        | zero => simpa using h1
        | succ u =>
          have hfall : ∀ (m : List Int) (q : Int) (j : Nat), falls q m = true → j < m.length → m[j]?.getD 0 < q := by
            intro m
            induction m with
            | nil => intro q j _ hj; simp at hj
            | cons y m ih =>
              intro q j hq hj
              unfold falls at hq
              split at hq
              · cases hq
              · cases j with
                | zero => simp; omega
                | succ j =>
                  have := ih y j hq (by simpa using hj)
                  simp only [List.getElem?_cons_succ]
                  omega
          have h3 := hfall l x u h (by omega)
          simp only [List.getElem?_cons_succ] at h1
          omega
      unfold symGo
      rw [if_neg (by omega)]
      have ih := symGo_at f l (k + 1) x v h (by omega) (by
        cases v with
        | zero => simpa using hx
        | succ u => simpa using h1) h2
      rw [ih]
      cases v with
      | zero => simp
      | succ u => simp [Nat.add_assoc, Nat.add_comm 1]

end Go.Proofs.Ytdbgcbbfnjoebaa

/- What is written is read, as plain numbers: symbols, numbers below another, numbers that are mostly small. Nothing here is of any program. -/
namespace Go.Proofs.Ytdbgcbbfnjoebaa

theorem falls_at : ∀ (m : List Int) (q : Int) (j : Nat), falls q m = true → j < m.length → m[j]?.getD 0 < (if j = 0 then q else m[j - 1]?.getD 0)
  | [], _, _, _, hj => by simp at hj
  | y :: m, q, 0, h, _ => by
    unfold falls at h
    split at h
    · cases h
    · simp; omega
  | y :: m, q, j + 1, h, hj => by
    unfold falls at h
    split at h
    · cases h
    · have ih := falls_at m y j h (by simpa using hj)
      cases j with
      | zero => simpa using ih
      | succ i => simpa using ih

theorem good_nonneg {t : List Int} (h : goodB t = true) : ∀ x ∈ t, 0 ≤ x := by
  obtain ⟨_, _, h3, hl⟩ := good_out h
  exact falls_last_nonneg t 256 h3 hl

theorem at_nonneg {t : List Int} (h : goodB t = true) (i : Nat) : 0 ≤ t[i]?.getD 0 := by
  rcases Nat.lt_or_ge i t.length with hi | hi
  · rw [List.getElem?_eq_getElem hi]
    exact good_nonneg h _ (List.getElem_mem hi)
  · rw [List.getElem?_eq_none hi]
    exact Int.le_refl _

theorem falls_top : ∀ (m : List Int) (q : Int) (j : Nat), falls q m = true → j < m.length → m[j]?.getD 0 < q
  | [], _, _, _, hj => by simp at hj
  | y :: m, q, 0, h, _ => by
    unfold falls at h
    split at h
    · cases h
    · simp; omega
  | y :: m, q, j + 1, h, hj => by
    unfold falls at h
    split at h
    · cases h
    · have ih := falls_top m y j h (by simpa using hj)
      simp only [List.getElem?_cons_succ]
      omega

theorem sym_part {t : List Int} (h : goodB t = true) {v : Nat} (hv : v < t.length) : symFl t v < symFh t v ∧ symFh t v ≤ 256 := by
  obtain ⟨_, _, h3, _⟩ := good_out h
  have h1 := falls_at t 256 v h3 hv
  have h2 := at_nonneg h v
  have h4 := at_nonneg h (v - 1)
  have h5 := falls_top t 256 v h3 hv
  unfold symFl symFh
  by_cases h0 : v = 0
  · rw [if_pos h0]
    omega
  · rw [if_neg h0] at h1 ⊢
    have h6 := falls_top t 256 (v - 1) h3 (by omega)
    omega

theorem rel_sym {b : List Nat} (hb : Bytes b) {s : St} {e : Sp} (h : Rel b s e) (hi : Inv s) {t : List Int} (hg : goodB t = true) {v : Nat} (hv : v < t.length) (hin : In b (putE e (symFl t v) (symFh t v) 256)) :
    (symS b t s).1 = v ∧ Rel b (symS b t s).2 (putE e (symFl t v) (symFh t v) 256) := by
  obtain ⟨p1, p2⟩ := sym_part hg hv
  obtain ⟨⟨c1, c2⟩, hr⟩ := rel_put hb h hi p1 p2 (by decide) hin
  obtain ⟨_, _, h3, _⟩ := good_out hg
  have n1 := at_nonneg hg v
  have n2 := at_nonneg hg (v - 1)
  have hs := symGo_at (chooseS s 256 : Nat) t 0 256 v h3 hv (by
    unfold symFl at c1
    split
    · rename_i h0
      omega
    · rename_i h0
      rw [if_neg h0] at c1
      omega) (by
    unfold symFh at c2
    omega)
  have e1 : symS b t s = (v, takeS b s (symFl t v) (symFh t v) 256) := by
    unfold symS
    rw [if_pos hg, hs]
    simp only [Nat.zero_add]
    unfold symFl symFh
    by_cases h0 : v = 0
    · rw [if_pos h0, if_pos h0]
      rfl
    · rw [if_neg h0, if_neg h0]
  rw [e1]
  exact ⟨rfl, hr⟩

/-! ### Bits, numbers below another -/
/-- Do the bits from the end say so? -/
def Raw (b : List Nat) (at_ n v : Nat) : Prop := bitsN b at_ n = v

theorem rel_bits {b : List Nat} {s : St} {e : Sp} (h : Rel b s e) {n v : Nat} (hn : n ≤ 24) (hr : Raw b s.raw n v) : (bitsS b n s).1 = v ∧ Rel b (bitsS b n s).2 e := by
  have e1 : bitsS b n s = (bitsN b s.raw n, { s with raw := s.raw + n, cnt := s.cnt + n }) := by
    unfold bitsS
    rw [if_pos (by omega)]
    rfl
  rw [e1]
  exact ⟨hr, h.rng, h.val, h.last, h.front⟩

theorem rel_small {b : List Nat} (hb : Bytes b) {s : St} {e : Sp} (h : Rel b s e) (hi : Inv s) {ft v : Nat} (hf : ft ≤ 256) (hv : v < ft) (hin : In b (putE e v (v + 1) ft)) :
    chooseS s ft = v ∧ Rel b (takeS b s (chooseS s ft) (chooseS s ft + 1) ft) (putE e v (v + 1) ft) := by
  obtain ⟨⟨c1, c2⟩, hr⟩ := rel_put hb h hi (Nat.lt_succ_self v) hv (by omega) hin
  have e1 : chooseS s ft = v := by omega
  rw [e1]
  exact ⟨rfl, hr⟩

theorem takeS_raw (b : List Nat) (s : St) (fl fh ft : Nat) : (takeS b s fl fh ft).raw = s.raw ∧ (takeS b s fl fh ft).bad = s.bad := onS_same b 3 _

theorem part_of {ft v : Nat} (h1 : 257 ≤ ft) (hv : v < ft) : v / 2 ^ shiftN ft < partN ft := by
  unfold partN
  have := Nat.div_le_div_right (c := 2 ^ shiftN ft) (show v ≤ ft - 1 by omega)
  omega

theorem rel_big {b : List Nat} (hb : Bytes b) {s : St} {e : Sp} (h : Rel b s e) (hi : Inv s) {ft v : Nat} (h1 : 257 ≤ ft) (h2 : ft ≤ 4294967295) (hv : v < ft)
    (hin : In b (putE e (v / 2 ^ shiftN ft) (v / 2 ^ shiftN ft + 1) (partN ft))) (hraw : Raw b s.raw (shiftN ft) (v % 2 ^ shiftN ft)) :
    (uintBig b ft s).1 = v ∧ Rel b (uintBig b ft s).2 (putE e (v / 2 ^ shiftN ft) (v / 2 ^ shiftN ft + 1) (partN ft)) ∧ (uintBig b ft s).2.raw = s.raw + shiftN ft ∧ (uintBig b ft s).2.bad = s.bad := by
  obtain ⟨s1, s2, s3, s4⟩ := shift_in h1 h2
  obtain ⟨c1, r1⟩ := rel_small hb h hi s4 (part_of h1 hv) hin
  have t1 := takeS_raw b s (chooseS s (partN ft)) (chooseS s (partN ft) + 1) (partN ft)
  have e1 : bitsS b (shiftN ft : Nat) (takeS b s (chooseS s (partN ft)) (chooseS s (partN ft) + 1) (partN ft)) =
      (v % 2 ^ shiftN ft, { (takeS b s (chooseS s (partN ft)) (chooseS s (partN ft) + 1) (partN ft)) with raw := (takeS b s (chooseS s (partN ft)) (chooseS s (partN ft) + 1) (partN ft)).raw + shiftN ft, cnt := (takeS b s (chooseS s (partN ft)) (chooseS s (partN ft) + 1) (partN ft)).cnt + shiftN ft }) := by
    unfold bitsS
    rw [if_pos (by omega)]
    simp only [Int.toNat_natCast, t1.1]
    rw [hraw]
  have e2 : v / 2 ^ shiftN ft * 2 ^ shiftN ft + v % 2 ^ shiftN ft = v := by rw [Nat.mul_comm]; exact Nat.div_add_mod v (2 ^ shiftN ft)
  unfold uintBig
  simp only
  rw [e1]
  simp only
  rw [show chooseS s (partN ft) * 2 ^ shiftN ft + v % 2 ^ shiftN ft = v by rw [c1]; exact e2, if_neg (by omega)]
  refine ⟨rfl, ⟨r1.rng, r1.val, r1.last, r1.front⟩, ?_, t1.2⟩
  show (takeS b s _ _ _).raw + shiftN ft = s.raw + shiftN ft
  rw [t1.1]

/-! ### Numbers that are mostly small -/
theorem lapF_le (f decay : Nat) : ∀ n l s v : Nat, l ≤ (lapF f decay n l s v).1
  | 0, l, _, _ => Nat.le_refl l
  | n + 1, l, s, v => by
    by_cases h : 1 < s ∧ l + 2 * s ≤ f
    · rw [lapF_step h]
      exact Nat.le_trans (by omega) (lapF_le f decay n _ _ _)
    · rw [lapF_stop (n + 1) h]
      exact Nat.le_refl l

/-- Another number that lies where the steps ended takes the same steps. -/
theorem lapF_same (f g decay : Nat) : ∀ n l s v : Nat, (lapF f decay n l s v).1 ≤ g → (1 < (lapF f decay n l s v).2.1 → g < (lapF f decay n l s v).1 + 2 * (lapF f decay n l s v).2.1) →
    lapF g decay n l s v = lapF f decay n l s v
  | 0, _, _, _, _, _ => rfl
  | n + 1, l, s, v, h1, h2 => by
    by_cases h : 1 < s ∧ l + 2 * s ≤ f
    · have hl := lapF_le f decay n (l + 2 * s) ((2 * s - 2) * decay / 32768 + 1) (v + 1)
      rw [lapF_step h] at h1 h2 ⊢
      rw [lapF_step (f := g) ⟨h.1, by omega⟩]
      exact lapF_same f g decay n _ _ _ h1 h2
    · rw [lapF_stop (n + 1) h] at h1 h2 ⊢
      simp only at h1 h2
      rw [lapF_stop]
      rintro ⟨a, c⟩
      have := h2 a
      omega

/-- All numbers of a part tell the same. -/
theorem lapAll_same {fs decay f g : Nat} (hfs : 256 ≤ fs) (hf2 : f ≤ 32768) (h1 : (lapAll fs decay f).2.1 ≤ g) (h2 : g < (lapAll fs decay f).2.2) : lapAll fs decay g = lapAll fs decay f := by
  unfold lapAll at h1 h2 ⊢
  by_cases hf : f < fs
  · rw [if_pos hf] at h1 h2 ⊢
    rw [if_pos (by simpa using h2)]
  · rw [if_neg hf] at h1 h2 ⊢
    have hin := lapF_in f decay 32768 fs ((32736 - fs) * (16384 - decay) / 32768 + 1) 1 (by omega) (by omega) (by omega) (by omega)
    have hle := lapF_le f decay 32768 fs ((32736 - fs) * (16384 - decay) / 32768 + 1) 1
    have hsame := lapF_same f g decay 32768 fs ((32736 - fs) * (16384 - decay) / 32768 + 1) 1
    generalize lapF f decay 32768 fs ((32736 - fs) * (16384 - decay) / 32768 + 1) 1 = r at *
    obtain ⟨l, s, v⟩ := r
    simp only at hin hle hsame h1 h2
    unfold lapEnd at h1 h2
    simp only at h1 h2
    by_cases hs : s ≤ 1
    · have hs1 : s = 1 := by omega
      subst hs1
      simp only [Nat.le_refl, if_true] at h1 h2
      have hg : g = f := by
        split at h1
        · rename_i hc
          rw [if_pos hc] at h2
          simp only at h1 h2
          omega
        · rename_i hc
          rw [if_neg hc] at h2
          simp only at h1 h2
          omega
      subst hg
      rw [if_neg hf, hsame hin.1 (fun h => absurd h (by decide))]
    · rw [if_neg hs] at h1 h2
      have hb : l ≤ g ∧ g < l + 2 * s ∧ (g < l + s ↔ f < l + s) := by
        split at h1
        · rename_i hc
          rw [if_pos hc] at h2
          simp only at h1 h2
          omega
        · rename_i hc
          rw [if_neg hc] at h2
          simp only at h1 h2
          omega
      rw [if_neg (by omega), hsame hb.1 (fun _ => hb.2.1)]
      unfold lapEnd
      simp only [if_neg hs]
      by_cases hc : f < l + s
      · rw [if_pos hc, if_pos (hb.2.2.2 hc)]
      · rw [if_neg hc, if_neg (fun h => hc (hb.2.2.1 h))]

theorem rel_lap {b : List Nat} (hb : Bytes b) {s : St} {e : Sp} (h : Rel b s e) (hi : Inv s) {fs decay : Int} (hok : lapOk fs decay) {f : Nat} (hf : f < 32768)
    (hin : In b (putE e (lapAll fs.toNat decay.toNat f).2.1 (min (lapAll fs.toNat decay.toNat f).2.2 32768) 32768)) :
    (lapS b fs decay s).1 = (lapAll fs.toNat decay.toNat f).1 ∧ Rel b (lapS b fs decay s).2 (putE e (lapAll fs.toNat decay.toNat f).2.1 (min (lapAll fs.toNat decay.toNat f).2.2 32768) 32768) := by
  obtain ⟨o1, o2, o3, o4⟩ := id hok
  obtain ⟨a1, a2, _, _⟩ := lapAll_in (fs := fs.toNat) (decay := decay.toNat) (f := f) (by omega) (by omega)
  obtain ⟨⟨c1, c2⟩, hr⟩ := rel_put hb h hi (by omega) (by omega) (by decide) hin
  have hsame := lapAll_same (fs := fs.toNat) (decay := decay.toNat) (f := f) (g := chooseS s 32768) (by omega) (by omega) c1 (by omega)
  unfold lapS
  rw [if_pos hok, hsame]
  exact ⟨rfl, hr⟩

end Go.Proofs.Ytdbgcbbfnjoebaa

/- All bytes as one number: bits from the end are its lowest, what a reader goes by its highest; and where in a writer's span a number with free lowest bits lies. Nothing here is of any program. -/
namespace Go.Proofs.Ytdbgcbbfnjoebaa

def numN (b : List Nat) : Nat := preN b b.length

theorem preN_div {b : List Nat} (hb : Bytes b) (m : Nat) : ∀ j, preN b (m + j) / 256 ^ j = preN b m
  | 0 => by simp
  | j + 1 => by
    have h := preN_div hb m j
    have h1 := hb (m + j)
    have e : preN b (m + (j + 1)) = 256 * preN b (m + j) + byteAt b (m + j) := rfl
    rw [e, Nat.pow_succ, Nat.mul_comm (256 ^ j), ← Nat.div_div_eq_div_mul, ← h]
    congr 1
    omega

theorem preN_past (b : List Nat) : ∀ j, preN b (b.length + j) = numN b * 256 ^ j
  | 0 => by simp [numN]
  | j + 1 => by
    have e : preN b (b.length + (j + 1)) = 256 * preN b (b.length + j) + byteAt b (b.length + j) := rfl
    have h0 : byteAt b (b.length + j) = 0 := by
      unfold byteAt
      rw [List.getElem?_eq_none (by omega)]
      rfl
    rw [e, preN_past b j, h0, Nat.pow_succ, Nat.add_zero, Nat.mul_comm 256, Nat.mul_assoc]

theorem backAt_is {b : List Nat} (hb : Bytes b) (j : Nat) : backAt b j = numN b / 256 ^ j % 256 := by
  unfold backAt
  split
  · rename_i hj
    have h1 := hb (b.length - 1 - j)
    have e1 : b.length = (b.length - 1 - j + 1) + j := by omega
    have e2 : numN b / 256 ^ j = preN b (b.length - 1 - j + 1) := by
      unfold numN
      rw [e1]
      rw [preN_div hb]
      congr 1
      omega
    have e3 : preN b (b.length - 1 - j + 1) = 256 * preN b (b.length - 1 - j) + byteAt b (b.length - 1 - j) := rfl
    rw [e2, e3]
    omega
  · rename_i hj
    have e2 : numN b / 256 ^ j = 0 := by
      have h := preN_div hb 0 b.length
      rw [Nat.zero_add] at h
      have h0 : preN b 0 = 0 := rfl
      rw [h0] at h
      have hlt : numN b < 256 ^ b.length := by
        unfold numN
        exact Nat.lt_of_div_eq_zero (Nat.pow_pos (by decide)) h
      exact Nat.div_eq_of_lt (Nat.lt_of_lt_of_le hlt (Nat.pow_le_pow_right (by decide) (by omega)))
    rw [e2]

theorem pow_256 (j : Nat) : 256 ^ j = 2 ^ (8 * j) := by
  rw [Nat.pow_mul]

theorem bitAt_is {b : List Nat} (hb : Bytes b) (p : Nat) : bitAt b p = numN b / 2 ^ p % 2 := by
  unfold bitAt
  rw [backAt_is hb, pow_256]
  have e1 : p = 8 * (p / 8) + p % 8 := by omega
  have hr : p % 8 < 8 := Nat.mod_lt _ (by decide)
  have e2 : numN b / 2 ^ p = numN b / 2 ^ (8 * (p / 8)) / 2 ^ (p % 8) := by
    rw [Nat.div_div_eq_div_mul, ← Nat.pow_add, ← e1]
  rw [e2]
  generalize numN b / 2 ^ (8 * (p / 8)) = x
  generalize p % 8 = r at hr
  have h8 : r = 0 ∨ r = 1 ∨ r = 2 ∨ r = 3 ∨ r = 4 ∨ r = 5 ∨ r = 6 ∨ r = 7 := by omega
  rcases h8 with rfl | rfl | rfl | rfl | rfl | rfl | rfl | rfl <;> omega

/-- Bits from the end are the lowest bits of all bytes. -/
theorem bitsN_is {b : List Nat} (hb : Bytes b) (at_ : Nat) : ∀ n, bitsN b at_ n = numN b / 2 ^ at_ % 2 ^ n
  | 0 => by rw [Nat.pow_zero, Nat.mod_one]; rfl
  | n + 1 => by
    have h := bitsN_is hb at_ n
    show bitsN b at_ n + bitAt b (at_ + n) * 2 ^ n = _
    rw [h, bitAt_is hb, Nat.pow_add, ← Nat.div_div_eq_div_mul, Nat.pow_succ, Nat.mod_mul, Nat.mul_comm (2 ^ n)]

/-- What a reader goes by are the highest bits of all bytes. -/
theorem codeN_in {b : List Nat} (hb : Bytes b) {k : Nat} (h : 1 + k ≤ b.length) : codeN b k = numN b / 2 ^ (8 * (b.length - (1 + k)) + 1) := by
  unfold codeN numN
  have e1 : b.length = 1 + k + (b.length - (1 + k)) := by omega
  have h1 := preN_div hb (1 + k) (b.length - (1 + k))
  rw [← e1] at h1
  rw [← h1, pow_256, Nat.div_div_eq_div_mul, Nat.pow_succ]

theorem codeN_out {b : List Nat} {k : Nat} (h : b.length ≤ k) : codeN b k = numN b * 2 ^ (8 * (k - b.length) + 7) := by
  unfold codeN
  have e1 : 1 + k = b.length + (k - b.length + 1) := by omega
  rw [e1, preN_past, pow_256, show 8 * (k - b.length + 1) = 8 * (k - b.length) + 7 + 1 by omega, Nat.pow_succ, ← Nat.mul_assoc]
  exact Nat.mul_div_cancel _ (by decide)

/-! ### A block of numbers with free lowest bits in a span -/
/-- The first number of the span from which on 2^m numbers, all alike but for their lowest m bits, lie. -/
def firstE (low m : Nat) : Nat := (low + 2 ^ m - 1) / 2 ^ m * 2 ^ m

theorem firstE_in {low rng m : Nat} (h : 2 * 2 ^ m ≤ rng) : low ≤ firstE low m ∧ firstE low m + 2 ^ m ≤ low + rng := by
  have p := Nat.two_pow_pos m
  have h1 := Nat.div_add_mod (low + 2 ^ m - 1) (2 ^ m)
  have h2 := Nat.mod_lt (low + 2 ^ m - 1) p
  unfold firstE
  rw [Nat.mul_comm]
  generalize 2 ^ m * ((low + 2 ^ m - 1) / 2 ^ m) = q at *
  omega

/-- A span that a reader may stand in leaves as many lowest bits free as Tell leaves out. -/
theorem free_bits {r : Nat} (h : 2 ≤ lenN r) : 2 * 2 ^ (lenN r - 2) ≤ r := by
  have hr : r ≠ 0 := by
    intro h0
    rw [h0] at h
    simp [lenN] at h
  have e : lenN r = r.log2 + 1 := if_neg hr
  have h1 : 2 ^ r.log2 ≤ r := Nat.log2_self_le hr
  rw [e] at h ⊢
  have e2 : r.log2 = (r.log2 + 1 - 2) + 1 := by omega
  rw [e2, Nat.pow_succ] at h1
  omega

theorem block_in {b : List Nat} {e : Sp} {m : Nat} (h : 2 * 2 ^ m ≤ e.rng) (hc : codeN b e.k / 2 ^ m = firstE e.low m / 2 ^ m) : In b e := by
  obtain ⟨h1, h2⟩ := firstE_in (low := e.low) h
  have p := Nat.two_pow_pos m
  have d1 := Nat.div_add_mod (codeN b e.k) (2 ^ m)
  have d2 := Nat.mod_lt (codeN b e.k) p
  have e1 : firstE e.low m / 2 ^ m * 2 ^ m = firstE e.low m := by
    unfold firstE
    rw [Nat.mul_div_cancel _ p]
  rw [hc, Nat.mul_comm, e1] at d1
  unfold In
  omega

end Go.Proofs.Ytdbgcbbfnjoebaa

/- A whole writing, as plain numbers: what each thing written does to the writer's span and to the bits from the end; bytes that lie in the last span, and whose bits from the end are those written, are read back as they were written, and never are bad. Nothing here is of any program. -/
namespace Go.Proofs.Ytdbgcbbfnjoebaa

/-- One thing written: a symbol of a table (0), a flag (1), bits (2), a number below another (3), a number that is mostly small (4: f is a number of its part), a symbol of the document's table n (else). -/
structure Wr where
  op : Int
  v : Int
  n : Int
  m : Int
  t : List Int
  f : Nat

/-- What reads it. -/
def readW (b : List Nat) (x : Wr) (s : St) : Int × St :=
  if x.op = 0 then (((symS b x.t s).1 : Nat), (symS b x.t s).2)
  else if x.op = 1 then (if (flagS b x.n s).1 then 1 else 0, (flagS b x.n s).2)
  else if x.op = 2 then (((bitsS b x.n s).1 : Nat), (bitsS b x.n s).2)
  else if x.op = 3 then (((uintS b x.n s).1 : Nat), (uintS b x.n s).2)
  else if x.op = 4 then lapS b x.n x.m s
  else (((symS b (icdfL x.n) s).1 : Nat), (symS b (icdfL x.n) s).2)

def symOk (t : List Int) (v : Int) : Prop := goodB t = true ∧ 0 ≤ v ∧ v < t.length

/-- May it be written? -/
def okW (x : Wr) : Prop :=
  if x.op = 0 then symOk x.t x.v
  else if x.op = 1 then 1 ≤ x.n ∧ x.n ≤ 15 ∧ (x.v = 0 ∨ x.v = 1)
  else if x.op = 2 then 0 ≤ x.n ∧ x.n ≤ 24 ∧ 0 ≤ x.v ∧ x.v.toNat < 2 ^ x.n.toNat
  else if x.op = 3 then 1 ≤ x.n ∧ x.n ≤ 4294967295 ∧ 0 ≤ x.v ∧ x.v < x.n
  else if x.op = 4 then lapOk x.n x.m ∧ x.f < 32768 ∧ x.v = (lapAll x.n.toNat x.m.toNat x.f).1
  else symOk (icdfL x.n) x.v

def symE (t : List Int) (v : Int) (e : Sp) : Sp := putE e (symFl t v.toNat) (symFh t v.toNat) 256

def uintE (v n : Nat) (e : Sp) : Sp :=
  if n ≤ 1 then e else if n ≤ 256 then putE e v (v + 1) n else putE e (v / 2 ^ shiftN n) (v / 2 ^ shiftN n + 1) (partN n)

def lapE (fs decay f : Nat) (e : Sp) : Sp := putE e (lapAll fs decay f).2.1 (min (lapAll fs decay f).2.2 32768) 32768

/-- The span behind it. -/
def spanW (x : Wr) (e : Sp) : Sp :=
  if x.op = 0 then symE x.t x.v e
  else if x.op = 1 then putFlagE (decide (x.v = 1)) x.n.toNat e
  else if x.op = 2 then e
  else if x.op = 3 then uintE x.v.toNat x.n.toNat e
  else if x.op = 4 then lapE x.n.toNat x.m.toNat x.f e
  else symE (icdfL x.n) x.v e

/-- How many bits from the end it lays, and which. -/
def rawN (x : Wr) : Nat := if x.op = 2 then x.n.toNat else if x.op = 3 then (if x.n.toNat ≤ 256 then 0 else shiftN x.n.toNat) else 0
def rawV (x : Wr) : Nat := if x.op = 2 then x.v.toNat else if x.op = 3 then (if x.n.toNat ≤ 256 then 0 else x.v.toNat % 2 ^ shiftN x.n.toNat) else 0

theorem symE_in {b : List Nat} (hb : Bytes b) {t : List Int} {v : Int} (h : symOk t v) {e : Sp} (hin : In b (symE t v e)) : In b e := by
  obtain ⟨h1, h2, h3⟩ := h
  obtain ⟨p1, p2⟩ := sym_part h1 (v := v.toNat) (by omega)
  exact in_put hb p1 p2 hin

theorem uintE_in {b : List Nat} (hb : Bytes b) {v n : Nat} (h : v < n) (h2 : n ≤ 4294967295) {e : Sp} (hin : In b (uintE v n e)) : In b e := by
  unfold uintE at hin
  split at hin
  · exact hin
  · split at hin
    · exact in_put hb (Nat.lt_succ_self v) h hin
    · exact in_put hb (Nat.lt_succ_self _) (part_of (by omega) h) hin

theorem spanW_in {b : List Nat} (hb : Bytes b) {x : Wr} (h : okW x) {e : Sp} (hin : In b (spanW x e)) : In b e := by
  unfold okW at h
  unfold spanW at hin
  by_cases h0 : x.op = 0
  · rw [if_pos h0] at h hin
    exact symE_in hb h hin
  rw [if_neg h0] at h hin
  by_cases h1 : x.op = 1
  · rw [if_pos h1] at h hin
    exact flagE_in (in_norm hb 3 _ hin)
  rw [if_neg h1] at h hin
  by_cases h2 : x.op = 2
  · rw [if_pos h2] at h hin
    exact hin
  rw [if_neg h2] at h hin
  by_cases h3 : x.op = 3
  · rw [if_pos h3] at h hin
    exact uintE_in hb (by omega) (by omega) hin
  rw [if_neg h3] at h hin
  by_cases h4 : x.op = 4
  · rw [if_pos h4] at h hin
    obtain ⟨⟨o1, o2, o3, o4⟩, hf, _⟩ := h
    obtain ⟨a1, a2, _, _⟩ := lapAll_in (fs := x.n.toNat) (decay := x.m.toNat) (f := x.f) (by omega) (by omega)
    exact in_put hb (by omega) (by omega) hin
  · rw [if_neg h4] at h hin
    exact symE_in hb h hin

/-- What one reading finds, and where it stands then. -/
structure Found (b : List Nat) (x : Wr) (s : St) (e : Sp) : Prop where
  val : (readW b x s).1 = x.v
  rel : Rel b (readW b x s).2 (spanW x e)
  inv : Inv (readW b x s).2
  raw : (readW b x s).2.raw = s.raw + rawN x
  bad : (readW b x s).2.bad = s.bad
  tell : tellZ s ≤ tellZ (readW b x s).2

theorem symS_same (b : List Nat) (t : List Int) (s : St) : (symS b t s).2.raw = s.raw ∧ (symS b t s).2.bad = s.bad := by
  unfold symS
  split
  · exact takeS_raw b s _ _ _
  · exact ⟨rfl, rfl⟩

theorem lapS_same (b : List Nat) (fs decay : Int) (s : St) : (lapS b fs decay s).2.raw = s.raw ∧ (lapS b fs decay s).2.bad = s.bad := by
  unfold lapS
  split
  · exact takeS_raw b s _ _ _
  · exact ⟨rfl, rfl⟩

theorem flagS_same (b : List Nat) (n : Int) {s : St} (hi : Inv s) : (flagS b n s).2.raw = s.raw ∧ (flagS b n s).2.bad = s.bad := by
  unfold flagS
  split
  · rename_i h
    obtain ⟨_, _, _, h4, h5⟩ := flag_pre hi (n := n.toNat) (by omega) (by omega)
    obtain ⟨g1, g2⟩ := onS_same b 3 (flagPre n.toNat s).2
    exact ⟨g1.trans h5, g2.trans h4⟩
  · exact ⟨rfl, rfl⟩

theorem sym_found {b : List Nat} (hb : Bytes b) {t : List Int} {v : Int} (h : symOk t v) {s : St} {e : Sp} (hr : Rel b s e) (hi : Inv s) (hin : In b (symE t v e)) :
    (((symS b t s).1 : Nat) : Int) = v ∧ Rel b (symS b t s).2 (symE t v e) := by
  obtain ⟨h1, h2, h3⟩ := h
  obtain ⟨r1, r2⟩ := rel_sym hb hr hi h1 (v := v.toNat) (by omega) hin
  exact ⟨by rw [r1]; omega, r2⟩

theorem uint_found {b : List Nat} (hb : Bytes b) {v n : Int} (h1 : 1 ≤ n) (h2 : n ≤ 4294967295) (h3 : 0 ≤ v) (h4 : v < n) {s : St} {e : Sp} (hr : Rel b s e) (hi : Inv s) (hin : In b (uintE v.toNat n.toNat e))
    (hraw : bitsN b s.raw (if n.toNat ≤ 256 then 0 else shiftN n.toNat) = if n.toNat ≤ 256 then 0 else v.toNat % 2 ^ shiftN n.toNat) :
    (((uintS b n s).1 : Nat) : Int) = v ∧ Rel b (uintS b n s).2 (uintE v.toNat n.toNat e) ∧ (uintS b n s).2.raw = s.raw + (if n.toNat ≤ 256 then 0 else shiftN n.toNat) ∧ (uintS b n s).2.bad = s.bad := by
  unfold uintE at hin ⊢
  by_cases c1 : n ≤ 1
  · rw [uintS, if_pos (.inl c1), if_pos (show n.toNat ≤ 1 by omega), if_pos (show n.toNat ≤ 256 by omega)]
    exact ⟨by show ((0 : Nat) : Int) = v; omega, hr, rfl, rfl⟩
  · rw [if_neg (show ¬ n.toNat ≤ 1 by omega)] at hin ⊢
    by_cases c2 : n ≤ 256
    · rw [if_pos (show n.toNat ≤ 256 by omega)] at hin ⊢
      rw [uintS, if_neg (by omega), if_pos c2, if_pos (show n.toNat ≤ 256 by omega)]
      obtain ⟨k1, k2⟩ := rel_small hb hr hi (ft := n.toNat) (v := v.toNat) (by omega) (by omega) hin
      obtain ⟨g1, g2⟩ := takeS_raw b s (chooseS s n.toNat) (chooseS s n.toNat + 1) n.toNat
      exact ⟨by show ((chooseS s n.toNat : Nat) : Int) = v; rw [k1]; omega, k2, g1, g2⟩
    · rw [if_neg (show ¬ n.toNat ≤ 256 by omega)] at hin hraw ⊢
      rw [if_neg (show ¬ n.toNat ≤ 256 by omega)] at hraw
      rw [uintS, if_neg (by omega), if_neg c2, if_neg (show ¬ n.toNat ≤ 256 by omega)]
      obtain ⟨k1, k2, k3, k4⟩ := rel_big hb hr hi (ft := n.toNat) (v := v.toNat) (by omega) (by omega) (by omega) hin hraw
      exact ⟨by rw [k1]; omega, k2, k3, k4⟩

theorem found {b : List Nat} (hb : Bytes b) {x : Wr} (h : okW x) {s : St} {e : Sp} (hr : Rel b s e) (hi : Inv s) (hin : In b (spanW x e)) (hraw : bitsN b s.raw (rawN x) = rawV x) : Found b x s e := by
  unfold okW at h
  have key : (readW b x s).1 = x.v ∧ Rel b (readW b x s).2 (spanW x e) ∧ Inv (readW b x s).2 ∧ (readW b x s).2.raw = s.raw + rawN x ∧ (readW b x s).2.bad = s.bad ∧ tellZ s ≤ tellZ (readW b x s).2 := by
    unfold readW
    unfold spanW at hin ⊢
    unfold rawN rawV at hraw
    unfold rawN
    by_cases h0 : x.op = 0
    · have h2 : ¬ x.op = 2 := by omega
      have h3 : ¬ x.op = 3 := by omega
      rw [if_pos h0] at h hin ⊢
      rw [if_pos h0, if_neg h2, if_neg h3]
      obtain ⟨f1, f2⟩ := sym_found hb h hr hi hin
      obtain ⟨g1, g2, _, _⟩ := symS_inv hb hi x.t
      obtain ⟨k1, k2⟩ := symS_same b x.t s
      exact ⟨f1, f2, g1, k1, k2, g2⟩
    rw [if_neg h0] at h hin ⊢
    rw [if_neg h0]
    by_cases h1 : x.op = 1
    · have h2 : ¬ x.op = 2 := by omega
      have h3 : ¬ x.op = 3 := by omega
      rw [if_pos h1] at h hin ⊢
      rw [if_pos h1, if_neg h2, if_neg h3]
      obtain ⟨o1, o2, o3⟩ := h
      obtain ⟨f1, f2⟩ := rel_flag hb hr hi (v := decide (x.v = 1)) (n := x.n.toNat) (by omega) (by omega) hin
      obtain ⟨g1, g2⟩ := flagS_inv hb hi x.n
      obtain ⟨k1, k2⟩ := flagS_same b x.n hi
      have e1 : ((x.n.toNat : Nat) : Int) = x.n := by omega
      rw [e1] at f1 f2
      refine ⟨?_, f2, g1, k1, k2, g2⟩
      show (if (flagS b x.n s).1 = true then (1 : Int) else 0) = x.v
      rw [f1]
      rcases o3 with o3 | o3
      · rw [o3]; rfl
      · rw [o3]; rfl
    rw [if_neg h1] at h hin ⊢
    rw [if_neg h1]
    by_cases h2 : x.op = 2
    · rw [if_pos h2] at h hin hraw ⊢
      rw [if_pos h2] at hraw
      rw [if_pos h2, if_pos h2]
      obtain ⟨o1, o2, o3, o4⟩ := h
      have e1 : ((x.n.toNat : Nat) : Int) = x.n := by omega
      obtain ⟨f1, f2⟩ := rel_bits hr (n := x.n.toNat) (v := x.v.toNat) (by omega) hraw
      obtain ⟨g1, g2, _, _⟩ := bitsS_inv b hi x.n
      rw [e1] at f1 f2
      refine ⟨by show (((bitsS b x.n s).1 : Nat) : Int) = x.v; rw [f1]; omega, f2, g1, ?_, ?_, g2⟩
      · show (bitsS b x.n s).2.raw = _
        rw [bitsS, if_pos ⟨o1, o2⟩]
      · show (bitsS b x.n s).2.bad = _
        rw [bitsS, if_pos ⟨o1, o2⟩]
    rw [if_neg h2] at h hin hraw ⊢
    rw [if_neg h2] at hraw
    rw [if_neg h2, if_neg h2]
    by_cases h3 : x.op = 3
    · rw [if_pos h3] at h hin hraw ⊢
      rw [if_pos h3] at hraw
      rw [if_pos h3, if_pos h3]
      obtain ⟨o1, o2, o3, o4⟩ := h
      obtain ⟨f1, f2, f3, f4⟩ := uint_found hb o1 o2 o3 o4 hr hi hin hraw
      obtain ⟨g1, g2, _, _⟩ := uintS_inv hb hi x.n
      exact ⟨f1, f2, g1, f3, f4, g2⟩
    rw [if_neg h3] at h hin ⊢
    rw [if_neg h3, if_neg h3]
    by_cases h4 : x.op = 4
    · rw [if_pos h4] at h hin ⊢
      rw [if_pos h4]
      obtain ⟨o1, o2, o3⟩ := h
      obtain ⟨f1, f2⟩ := rel_lap hb hr hi o1 o2 hin
      obtain ⟨g1, g2⟩ := lapS_inv hb hi x.n x.m
      obtain ⟨k1, k2⟩ := lapS_same b x.n x.m s
      exact ⟨f1.trans o3.symm, f2, g1, k1, k2, g2⟩
    · rw [if_neg h4] at h hin ⊢
      rw [if_neg h4]
      obtain ⟨f1, f2⟩ := sym_found hb h hr hi hin
      obtain ⟨g1, g2, _, _⟩ := symS_inv hb hi (icdfL x.n)
      obtain ⟨k1, k2⟩ := symS_same b (icdfL x.n) s
      exact ⟨f1, f2, g1, k1, k2, g2⟩
  obtain ⟨a1, a2, a3, a4, a5, a6⟩ := key
  exact ⟨a1, a2, a3, a4, a5, a6⟩

end Go.Proofs.Ytdbgcbbfnjoebaa

/- A whole writing, as plain numbers, continued: all that was written is read, in order; how much it is; bytes that lie in the span, as one number. Nothing here is of any program. -/
namespace Go.Proofs.Ytdbgcbbfnjoebaa

def spansL : List Wr → Sp → Sp
  | [], e => e
  | x :: l, e => spansL l (spanW x e)

def rawsN : List Wr → Nat
  | [] => 0
  | x :: l => rawN x + rawsN l

def rawsV : List Wr → Nat
  | [] => 0
  | x :: l => rawV x + rawsV l * 2 ^ rawN x

def afterL (b : List Nat) : List Wr → St → St
  | [], s => s
  | x :: l, s => afterL b l (readW b x s).2

theorem spansL_snoc : ∀ (l : List Wr) (x : Wr) (e : Sp), spansL (l ++ [x]) e = spanW x (spansL l e)
  | [], _, _ => rfl
  | y :: l, x, e => spansL_snoc l x (spanW y e)

theorem rawsN_snoc : ∀ (l : List Wr) (x : Wr), rawsN (l ++ [x]) = rawsN l + rawN x
  | [], x => by show rawN x + 0 = 0 + rawN x; omega
  | y :: l, x => by
    show rawN y + rawsN (l ++ [x]) = rawN y + rawsN l + rawN x
    rw [rawsN_snoc l x]; omega

theorem rawsV_snoc : ∀ (l : List Wr) (x : Wr), rawsV (l ++ [x]) = rawsV l + rawV x * 2 ^ rawsN l
  | [], x => by show rawV x + 0 * _ = 0 + rawV x * 2 ^ 0; simp
  | y :: l, x => by
    show rawV y + rawsV (l ++ [x]) * 2 ^ rawN y = rawV y + rawsV l * 2 ^ rawN y + rawV x * 2 ^ (rawN y + rawsN l)
    rw [rawsV_snoc l x, Nat.add_mul, Nat.mul_assoc, ← Nat.pow_add, Nat.add_comm (rawsN l), Nat.add_assoc]

theorem rawV_lt {x : Wr} (h : okW x) : rawV x < 2 ^ rawN x := by
  unfold okW at h
  unfold rawV rawN
  by_cases h2 : x.op = 2
  · rw [if_neg (by omega), if_neg (by omega), if_pos h2] at h
    rw [if_pos h2, if_pos h2]
    exact h.2.2.2
  · rw [if_neg h2, if_neg h2]
    by_cases h3 : x.op = 3
    · rw [if_pos h3, if_pos h3]
      split
      · decide
      · exact Nat.mod_lt _ (Nat.two_pow_pos _)
    · rw [if_neg h3, if_neg h3]
      decide

theorem rawsV_lt : ∀ {l : List Wr}, (∀ x ∈ l, okW x) → rawsV l < 2 ^ rawsN l
  | [], _ => by show 0 < 2 ^ 0; decide
  | x :: l, h => by
    have h1 := rawV_lt (h x (by simp))
    have h2 := rawsV_lt (l := l) (fun y hy => h y (by simp [hy]))
    show rawV x + rawsV l * 2 ^ rawN x < 2 ^ (rawN x + rawsN l)
    rw [Nat.pow_add]
    have h3 : (rawsV l + 1) * 2 ^ rawN x ≤ 2 ^ rawsN l * 2 ^ rawN x := Nat.mul_le_mul_right _ h2
    rw [Nat.add_mul, Nat.one_mul] at h3
    rw [Nat.mul_comm (2 ^ rawN x)]
    omega

theorem spansL_in {b : List Nat} (hb : Bytes b) : ∀ (l : List Wr) (e : Sp), (∀ x ∈ l, okW x) → In b (spansL l e) → In b e
  | [], _, _, h => h
  | x :: l, e, ho, h => spanW_in hb (ho x (by simp)) (spansL_in hb l (spanW x e) (fun y hy => ho y (by simp [hy])) h)

/-- Everything is read as it was written; Tell is at most T, and nothing is bad. -/
def AllRead (b : List Nat) (T : Int) : List Wr → St → Prop
  | [], _ => True
  | x :: l, s => (readW b x s).1 = x.v ∧ Inv (readW b x s).2 ∧ (readW b x s).2.bad = false ∧ tellZ (readW b x s).2 ≤ T ∧ AllRead b T l (readW b x s).2

theorem AllRead.mono {b : List Nat} {T T' : Int} (h : T ≤ T') : ∀ (l : List Wr) (s : St), AllRead b T l s → AllRead b T' l s
  | [], _, _ => trivial
  | _ :: l, _, ⟨h1, h2, h3, h4, h5⟩ => ⟨h1, h2, h3, Int.le_trans h4 h, AllRead.mono h l _ h5⟩

/-- What holds behind all of it. -/
structure Behind (b : List Nat) (l : List Wr) (s : St) (e : Sp) : Prop where
  rel : Rel b (afterL b l s) (spansL l e)
  inv : Inv (afterL b l s)
  raw : (afterL b l s).raw = s.raw + rawsN l
  bad : (afterL b l s).bad = false
  tell : tellZ s ≤ tellZ (afterL b l s)
  all : AllRead b (tellZ (afterL b l s)) l s

theorem behind {b : List Nat} (hb : Bytes b) : ∀ (l : List Wr) (s : St) (e : Sp), (∀ x ∈ l, okW x) → Rel b s e → Inv s → s.bad = false → In b (spansL l e) → bitsN b s.raw (rawsN l) = rawsV l → Behind b l s e
  | [], s, e, _, hr, hi, hbad, _, _ => ⟨hr, hi, rfl, hbad, Int.le_refl _, trivial⟩
  | x :: l, s, e, ho, hr, hi, hbad, hin, hraw => by
    have hx := ho x (by simp)
    have hlt := rawV_lt hx
    have e1 : bitsN b s.raw (rawN x) = rawV x := by
      have := bitsN_mod b s.raw (rawN x) (rawsN l)
      have e2 : bitsN b s.raw (rawN x + rawsN l) = rawV x + rawsV l * 2 ^ rawN x := hraw
      rw [e2, Nat.add_mul_mod_self_right, Nat.mod_eq_of_lt hlt] at this
      exact this.symm
    have e3 : bitsN b (s.raw + rawN x) (rawsN l) = rawsV l := by
      have := bitsN_div b s.raw (rawN x) (rawsN l)
      have e2 : bitsN b s.raw (rawN x + rawsN l) = rawV x + rawsV l * 2 ^ rawN x := hraw
      rw [e2, Nat.add_mul_div_right _ _ (Nat.two_pow_pos _), Nat.div_eq_of_lt hlt, Nat.zero_add] at this
      exact this.symm
    have hf := found hb hx hr hi (spansL_in hb l _ (fun y hy => ho y (by simp [hy])) hin) e1
    have ih := behind hb l (readW b x s).2 (spanW x e) (fun y hy => ho y (by simp [hy])) hf.rel hf.inv (hf.bad.trans hbad) hin (by rw [hf.raw]; exact e3)
    refine ⟨ih.rel, ih.inv, ?_, ih.bad, Int.le_trans hf.tell ih.tell, ⟨hf.val, hf.inv, hf.bad.trans hbad, ih.tell, ih.all⟩⟩
    show (afterL b l (readW b x s).2).raw = s.raw + (rawN x + rawsN l)
    rw [ih.raw, hf.raw]; omega

/-! ### How much was written -/
def tellE (e : Sp) (R : Nat) : Int := 8 * ((e.k : Int) + 1) + 1 + R - (lenN e.rng : Int)

theorem tell_same {b : List Nat} {s : St} {e : Sp} (h : Rel b s e) (hi : Inv s) : tellZ s = tellE e s.raw := by
  have h1 := hi.cnt
  have h2 := h.front
  unfold tellZ tellE
  rw [h.rng]
  omega

/-- All that was written is read out of bytes that lie in the span and end in the bits from the end, with the same Tell, and nothing is bad. -/
theorem written_read {b : List Nat} (hb : Bytes b) {l : List Wr} (ho : ∀ x ∈ l, okW x) (hin : In b (spansL l startE)) (hraw : bitsN b 0 (rawsN l) = rawsV l) :
    AllRead b (tellE (spansL l startE) (rawsN l)) l (initS b) ∧ tellZ (afterL b l (initS b)) = tellE (spansL l startE) (rawsN l) ∧ Inv (afterL b l (initS b)) := by
  obtain ⟨_, _, _, h4, h5⟩ := initS_is b
  have h := behind hb l (initS b) startE ho (rel_start hb) (initS_inv hb) h5 hin (by rw [h4]; exact hraw)
  have e1 := tell_same h.rel h.inv
  rw [h.raw, h4, Nat.zero_add] at e1
  exact ⟨by rw [← e1]; exact h.all, e1, h.inv⟩

/-! ### Spans as they come up -/
/-- What holds of a span between two writings. -/
structure SpOk (e : Sp) : Prop where
  low : 8388608 < e.rng
  high : e.rng ≤ 2147483648
  kk : 3 ≤ e.k

theorem normE_ok : ∀ (n : Nat) (e : Sp), e.rng ≤ 2147483648 → 8388608 < e.rng * 256 ^ n → 8388608 < (normE n e).rng ∧ (normE n e).rng ≤ 2147483648 ∧ e.k ≤ (normE n e).k
  | 0, e, h1, h2 => ⟨by simpa [normE] using h2, h1, Nat.le_refl _⟩
  | n + 1, e, h1, h2 => by
    unfold normE
    split
    · rename_i hc
      obtain ⟨a1, a2, a3⟩ := normE_ok n { low := e.low * 256, rng := e.rng * 256, k := e.k + 1 } (by show e.rng * 256 ≤ _; omega) (by
        show 8388608 < e.rng * 256 * 256 ^ n
        rw [Nat.mul_assoc, Nat.mul_comm 256, ← Nat.pow_succ]; exact h2)
      exact ⟨a1, a2, Nat.le_trans (Nat.le_succ _) a3⟩
    · exact ⟨by omega, h1, Nat.le_refl _⟩

theorem normE3_ok {e : Sp} (h1 : 1 ≤ e.rng) (h2 : e.rng ≤ 2147483648) (h3 : 3 ≤ e.k) : SpOk (normE 3 e) := by
  obtain ⟨a1, a2, a3⟩ := normE_ok 3 e h2 (by omega)
  exact ⟨a1, a2, Nat.le_trans h3 a3⟩

theorem startE_ok : SpOk startE := by
  rw [startE_is]
  exact ⟨by show 8388608 < 2147483648; decide, by show 2147483648 ≤ 2147483648; decide, by show 3 ≤ 3; decide⟩

theorem narrowE_rng {e : Sp} (h : SpOk e) {fl fh ft : Nat} (h1 : fl < fh) (h3 : fh ≤ ft) (hft : ft ≤ 32768) : 1 ≤ (narrowE e fl fh ft).rng ∧ (narrowE e fl fh ft).rng ≤ e.rng := by
  have hl := h.low
  have he : 1 ≤ e.rng / ft := (Nat.le_div_iff_mul_le (by omega)).2 (by omega)
  have hm : e.rng / ft * ft ≤ e.rng := Nat.div_mul_le_self _ _
  have m1 : e.rng / ft * 1 ≤ e.rng / ft * (fh - fl) := Nat.mul_le_mul_left _ (by omega)
  have m2 : e.rng / ft * (fh - fl) ≤ e.rng / ft * ft := Nat.mul_le_mul_left _ (by omega)
  have m3 : e.rng / ft * (ft - fh) + e.rng / ft * (fh - fl) ≤ e.rng / ft * ft := by rw [← Nat.mul_add]; exact Nat.mul_le_mul_left _ (by omega)
  show 1 ≤ (if 0 < fl then e.rng / ft * (fh - fl) else e.rng - e.rng / ft * (ft - fh)) ∧ (if 0 < fl then e.rng / ft * (fh - fl) else e.rng - e.rng / ft * (ft - fh)) ≤ e.rng
  split <;> omega

theorem putE_ok {e : Sp} (h : SpOk e) {fl fh ft : Nat} (h1 : fl < fh) (h3 : fh ≤ ft) (hft : ft ≤ 32768) : SpOk (putE e fl fh ft) := by
  obtain ⟨a1, a2⟩ := narrowE_rng h h1 h3 hft
  exact normE3_ok a1 (Nat.le_trans a2 h.high) h.kk

theorem putFlagE_ok {e : Sp} (h : SpOk e) (v : Bool) {n : Nat} (h1 : 1 ≤ n) (h2 : n ≤ 15) : SpOk (putFlagE v n e) := by
  have hl := h.low
  have hh := h.high
  have hp1 : 2 ^ 1 ≤ 2 ^ n := Nat.pow_le_pow_right (by decide) h1
  have hp2 : 2 ^ n ≤ 2 ^ 15 := Nat.pow_le_pow_right (by decide) h2
  have hd1 : 1 ≤ e.rng / 2 ^ n := (Nat.le_div_iff_mul_le (by omega)).2 (by omega)
  have hd2 : e.rng / 2 ^ n < e.rng := Nat.div_lt_self (by omega) (by omega)
  refine normE3_ok ?_ ?_ ?_
  · unfold flagE
    split
    · exact hd1
    · show 1 ≤ e.rng - e.rng / 2 ^ n; omega
  · unfold flagE
    split
    · show e.rng / 2 ^ n ≤ _; omega
    · show e.rng - e.rng / 2 ^ n ≤ _; omega
  · unfold flagE
    split
    · exact h.kk
    · exact h.kk

theorem symE_ok {t : List Int} {v : Int} (h : symOk t v) {e : Sp} (he : SpOk e) : SpOk (symE t v e) := by
  obtain ⟨h1, h2, h3⟩ := h
  obtain ⟨p1, p2⟩ := sym_part h1 (v := v.toNat) (by omega)
  exact putE_ok he p1 p2 (by decide)

theorem uintE_ok {v n : Nat} (h : v < n) (h2 : n ≤ 4294967295) {e : Sp} (he : SpOk e) : SpOk (uintE v n e) := by
  unfold uintE
  split
  · exact he
  · split
    · exact putE_ok he (Nat.lt_succ_self v) h (by omega)
    · obtain ⟨_, _, s3, s4⟩ := shift_in (ft := n) (by omega) h2
      exact putE_ok he (Nat.lt_succ_self _) (part_of (by omega) h) (by omega)

theorem lapE_ok {fs decay : Int} (h : lapOk fs decay) {f : Nat} (hf : f < 32768) {e : Sp} (he : SpOk e) : SpOk (lapE fs.toNat decay.toNat f e) := by
  obtain ⟨o1, o2, o3, o4⟩ := h
  obtain ⟨a1, a2, _, _⟩ := lapAll_in (fs := fs.toNat) (decay := decay.toNat) (f := f) (by omega) (by omega)
  exact putE_ok he (by omega) (by omega) (by decide)

theorem spanW_ok {x : Wr} (h : okW x) {e : Sp} (he : SpOk e) : SpOk (spanW x e) := by
  unfold okW at h
  unfold spanW
  by_cases h0 : x.op = 0
  · rw [if_pos h0] at h ⊢
    exact symE_ok h he
  rw [if_neg h0] at h ⊢
  by_cases h1 : x.op = 1
  · rw [if_pos h1] at h ⊢
    exact putFlagE_ok he _ (by omega) (by omega)
  rw [if_neg h1] at h ⊢
  by_cases h2 : x.op = 2
  · rw [if_pos h2] at h ⊢
    exact he
  rw [if_neg h2] at h ⊢
  by_cases h3 : x.op = 3
  · rw [if_pos h3] at h ⊢
    exact uintE_ok (by omega) (by omega) he
  rw [if_neg h3] at h ⊢
  by_cases h4 : x.op = 4
  · rw [if_pos h4] at h ⊢
    exact lapE_ok h.1 h.2.1 he
  · rw [if_neg h4] at h ⊢
    exact symE_ok h he

theorem spansL_ok : ∀ {l : List Wr} {e : Sp}, (∀ x ∈ l, okW x) → SpOk e → SpOk (spansL l e)
  | [], _, _, h => h
  | x :: l, _, ho, h => spansL_ok (l := l) (fun y hy => ho y (by simp [hy])) (spanW_ok (ho x (by simp)) h)

/-! ### Tell never falls as things are written -/
theorem tellE_norm : ∀ (n : Nat) (e : Sp) (R : Nat), 1 ≤ e.rng → tellE (normE n e) R = tellE e R
  | 0, _, _, _ => rfl
  | n + 1, e, R, h => by
    unfold normE
    split
    · rw [tellE_norm n _ R (by show 1 ≤ e.rng * 256; omega)]
      unfold tellE
      simp only
      rw [lenN_256 h]
      omega
    · rfl

theorem tellE_less {e e' : Sp} {R R' : Nat} (hk : e'.k = e.k) (hr : e'.rng ≤ e.rng) (hR : R ≤ R') : tellE e R ≤ tellE e' R' := by
  have := lenN_mono hr
  unfold tellE
  rw [hk]
  omega

theorem tellE_put {e : Sp} (h : SpOk e) {fl fh ft : Nat} (h1 : fl < fh) (h3 : fh ≤ ft) (hft : ft ≤ 32768) {R R' : Nat} (hR : R ≤ R') : tellE e R ≤ tellE (putE e fl fh ft) R' := by
  obtain ⟨a1, a2⟩ := narrowE_rng h h1 h3 hft
  unfold putE
  rw [tellE_norm 3 _ R' a1]
  exact tellE_less rfl a2 hR

theorem spanW_tell {x : Wr} (h : okW x) {e : Sp} (he : SpOk e) (R : Nat) : tellE e R ≤ tellE (spanW x e) (R + rawN x) := by
  have hR : R ≤ R + rawN x := Nat.le_add_right _ _
  unfold okW at h
  unfold spanW
  by_cases h0 : x.op = 0
  · rw [if_pos h0] at h ⊢
    obtain ⟨g1, g2, g3⟩ := h
    obtain ⟨p1, p2⟩ := sym_part g1 (v := x.v.toNat) (by omega)
    exact tellE_put he p1 p2 (by decide) hR
  rw [if_neg h0] at h ⊢
  by_cases h1 : x.op = 1
  · rw [if_pos h1] at h ⊢
    have hp1 : 2 ^ 1 ≤ 2 ^ x.n.toNat := Nat.pow_le_pow_right (by decide) (by omega)
    have hp2 : 2 ^ x.n.toNat ≤ 2 ^ 15 := Nat.pow_le_pow_right (by decide) (by omega)
    have hl := he.low
    have hd1 : 1 ≤ e.rng / 2 ^ x.n.toNat := (Nat.le_div_iff_mul_le (by omega)).2 (by omega)
    have hd2 : e.rng / 2 ^ x.n.toNat < e.rng := Nat.div_lt_self (by omega) (by omega)
    unfold putFlagE
    rw [tellE_norm 3 _ _ (by unfold flagE; split; exact hd1; show 1 ≤ e.rng - e.rng / 2 ^ x.n.toNat; omega)]
    refine tellE_less ?_ ?_ hR
    · unfold flagE; split <;> rfl
    · unfold flagE
      split
      · show e.rng / 2 ^ x.n.toNat ≤ e.rng; omega
      · show e.rng - e.rng / 2 ^ x.n.toNat ≤ e.rng; omega
  rw [if_neg h1] at h ⊢
  by_cases h2 : x.op = 2
  · rw [if_pos h2] at h ⊢
    exact tellE_less rfl (Nat.le_refl _) hR
  rw [if_neg h2] at h ⊢
  by_cases h3 : x.op = 3
  · rw [if_pos h3] at h ⊢
    obtain ⟨o1, o2, o3, o4⟩ := h
    unfold uintE
    split
    · exact tellE_less rfl (Nat.le_refl _) hR
    · split
      · exact tellE_put he (Nat.lt_succ_self _) (show x.v.toNat < x.n.toNat by omega) (by omega) hR
      · obtain ⟨_, _, s3, s4⟩ := shift_in (ft := x.n.toNat) (by omega) (by omega)
        exact tellE_put he (Nat.lt_succ_self _) (part_of (by omega) (show x.v.toNat < x.n.toNat by omega)) (by omega) hR
  rw [if_neg h3] at h ⊢
  by_cases h4 : x.op = 4
  · rw [if_pos h4] at h ⊢
    obtain ⟨⟨o1, o2, o3, o4⟩, hf, _⟩ := h
    obtain ⟨a1, a2, _, _⟩ := lapAll_in (fs := x.n.toNat) (decay := x.m.toNat) (f := x.f) (by omega) (by omega)
    exact tellE_put he (by omega) (by omega) (by decide) hR
  · rw [if_neg h4] at h ⊢
    obtain ⟨g1, g2, g3⟩ := h
    obtain ⟨p1, p2⟩ := sym_part g1 (v := x.v.toNat) (by omega)
    exact tellE_put he p1 p2 (by decide) hR

theorem tellE_in {e : Sp} (h : SpOk e) (R : Nat) : 8 * ((e.k : Int) + 1) + R - 31 ≤ tellE e R ∧ tellE e R ≤ 8 * ((e.k : Int) + 1) + R - 23 := by
  have := lenN_in h.low h.high
  unfold tellE
  omega

/-! ### Bytes of a given number in the span -/
/-- What a reader goes by, but for its lowest m bits, are the highest bits of all bytes. -/
theorem code_block {b : List Nat} (hb : Bytes b) {k m : Nat} (h : 8 * (1 + k) ≤ 8 * b.length + 1 + m) : codeN b k / 2 ^ m = numN b / 2 ^ (8 * b.length + 1 + m - 8 * (1 + k)) := by
  rcases Nat.lt_or_ge k b.length with h1 | h1
  · rw [codeN_in hb (by omega), Nat.div_div_eq_div_mul, ← Nat.pow_add]
    congr 2
    omega
  · rw [codeN_out h1]
    obtain ⟨q, hq⟩ : ∃ q, 8 * b.length + 1 + m - 8 * (1 + k) = q := ⟨_, rfl⟩
    have e1 : m = (8 * (k - b.length) + 7) + q := by omega
    rw [hq, e1]
    generalize 8 * (k - b.length) + 7 = c
    rw [Nat.pow_add, ← Nat.div_div_eq_div_mul, Nat.mul_div_cancel _ (Nat.two_pow_pos _)]

/-- Bytes whose highest bits are the span's first block lie in the span; below them there is room for the bits from the end, where Tell allows it. -/
theorem done_in {b : List Nat} (hb : Bytes b) {e : Sp} (h : SpOk e) {R : Nat} (ht : tellE e R ≤ 8 * (b.length : Int)) :
    R + 8 * (1 + e.k) ≤ 8 * b.length + 1 + (lenN e.rng - 2) ∧
    (numN b / 2 ^ (8 * b.length + 1 + (lenN e.rng - 2) - 8 * (1 + e.k)) = firstE e.low (lenN e.rng - 2) / 2 ^ (lenN e.rng - 2) → In b e) := by
  have hl := lenN_in h.low h.high
  have hr : R + 8 * (1 + e.k) ≤ 8 * b.length + 1 + (lenN e.rng - 2) := by
    unfold tellE at ht
    omega
  exact ⟨hr, fun hc => block_in (free_bits (by omega)) ((code_block hb (by omega)).trans hc)⟩

theorem raws_of_num {b : List Nat} (hb : Bytes b) (R : Nat) : bitsN b 0 R = numN b % 2 ^ R := by
  rw [bitsN_is hb, Nat.pow_zero, Nat.div_one]

end Go.Proofs.Ytdbgcbbfnjoebaa

/- Numbers that are mostly small, as plain numbers: where the part of each number lies, one behind the other, without a search; which numbers can be read, and the nearest that can. Nothing here is of any program. -/
namespace Go.Proofs.Ytdbgcbbfnjoebaa

/-- Where the parts of the i-th number from 0 on either side begin (below 0 first), and how great each of the two is. -/
def lapSeq (fs decay : Nat) : Nat → Nat × Nat
  | 0 => (fs, (32736 - fs) * (16384 - decay) / 32768 + 1)
  | i + 1 => ((lapSeq fs decay i).1 + 2 * (lapSeq fs decay i).2, (2 * (lapSeq fs decay i).2 - 2) * decay / 32768 + 1)

def lapLo (fs decay i : Nat) : Nat := (lapSeq fs decay i).1
def lapSz (fs decay i : Nat) : Nat := (lapSeq fs decay i).2

theorem lapLo_zero (fs decay : Nat) : lapLo fs decay 0 = fs := rfl
theorem lapSz_zero (fs decay : Nat) : lapSz fs decay 0 = (32736 - fs) * (16384 - decay) / 32768 + 1 := rfl
theorem lapLo_succ (fs decay i : Nat) : lapLo fs decay (i + 1) = lapLo fs decay i + 2 * lapSz fs decay i := rfl
theorem lapSz_succ (fs decay i : Nat) : lapSz fs decay (i + 1) = (2 * lapSz fs decay i - 2) * decay / 32768 + 1 := rfl

theorem lapSz_pos (fs decay : Nat) : ∀ i, 1 ≤ lapSz fs decay i
  | 0 => by rw [lapSz_zero]; omega
  | i + 1 => by rw [lapSz_succ]; omega

theorem lapLo_add (fs decay i : Nat) : ∀ d, lapLo fs decay i + 2 * d ≤ lapLo fs decay (i + d)
  | 0 => Nat.le_refl _
  | d + 1 => by
    have h := lapLo_add fs decay i d
    have h2 := lapSz_pos fs decay (i + d)
    rw [← Nat.add_assoc, lapLo_succ]
    omega

theorem lapLo_lt (fs decay : Nat) {i j : Nat} (h : i < j) : lapLo fs decay i + 2 * lapSz fs decay i ≤ lapLo fs decay j := by
  obtain ⟨d, rfl⟩ : ∃ d, j = i + 1 + d := ⟨j - (i + 1), by omega⟩
  have := lapLo_add fs decay (i + 1) d
  rw [lapLo_succ] at this
  omega

/-- Where the parts are of one each, they stay so. -/
theorem lapSeq_one (fs decay i : Nat) (h : lapSz fs decay i = 1) : ∀ d, lapSz fs decay (i + d) = 1 ∧ lapLo fs decay (i + d) = lapLo fs decay i + 2 * d
  | 0 => ⟨h, rfl⟩
  | d + 1 => by
    obtain ⟨h1, h2⟩ := lapSeq_one fs decay i h d
    refine ⟨?_, ?_⟩
    · rw [← Nat.add_assoc, lapSz_succ, h1]; simp
    · rw [← Nat.add_assoc, lapLo_succ, h1, h2]; omega

/-- The number that lies at f, and its part, where f is one of the i-th pair's. -/
def lapPair (fs decay f i : Nat) : Int × Nat × Nat :=
  if f < lapLo fs decay i + lapSz fs decay i then (-((i + 1 : Nat) : Int), lapLo fs decay i, lapLo fs decay i + lapSz fs decay i)
  else (((i + 1 : Nat) : Int), lapLo fs decay i + lapSz fs decay i, lapLo fs decay i + lapSz fs decay i + lapSz fs decay i)

theorem lapF_seq {fs decay f j : Nat} (h1 : lapLo fs decay j ≤ f) (h2 : f < lapLo fs decay j + 2 * lapSz fs decay j) :
    ∀ d i n, i + d = j → f - lapLo fs decay i ≤ n → lapEnd f (lapF f decay n (lapLo fs decay i) (lapSz fs decay i) (i + 1)) = lapPair fs decay f j
  | 0, i, n, hij, _ => by
    obtain rfl : i = j := hij
    rw [lapF_stop n (by omega)]
    have hp := lapSz_pos fs decay i
    unfold lapPair lapEnd
    simp only
    by_cases hs : lapSz fs decay i ≤ 1
    · have e0 : (f - lapLo fs decay i) / 2 = 0 := by omega
      simp only [if_pos hs, e0, Nat.mul_zero, Nat.add_zero]
    · simp only [if_neg hs]
  | d + 1, i, n, hij, hn => by
    have hp := lapSz_pos fs decay i
    have hlt := lapLo_lt fs decay (i := i) (j := j) (by omega)
    by_cases hs : 1 < lapSz fs decay i
    · obtain ⟨m, rfl⟩ : ∃ m, n = m + 1 := ⟨n - 1, by omega⟩
      rw [lapF_step ⟨hs, by omega⟩]
      exact lapF_seq h1 h2 d (i + 1) m (by omega) (by rw [lapLo_succ]; omega)
    · have hs1 : lapSz fs decay i = 1 := by omega
      obtain ⟨g1, g2⟩ := lapSeq_one fs decay i hs1 (d + 1)
      rw [hij] at g1 g2
      rw [g1] at h2
      rw [lapF_stop n (by omega)]
      have e0 : (f - lapLo fs decay i) / 2 = d + 1 := by omega
      unfold lapPair lapEnd
      have e1 : i + 1 + (d + 1) = j + 1 := by omega
      simp only [e0, g1, g2, hs1, e1, if_pos (Nat.le_refl 1)]

/-- What is found at f, without a search. -/
theorem lap_at {fs decay f i : Nat} (hf : f ≤ 32768) (h1 : lapLo fs decay i ≤ f) (h2 : f < lapLo fs decay i + 2 * lapSz fs decay i) : lapAll fs decay f = lapPair fs decay f i := by
  have h0 : fs ≤ lapLo fs decay i := by
    have := lapLo_add fs decay 0 i
    rw [Nat.zero_add, lapLo_zero] at this
    omega
  unfold lapAll
  rw [if_neg (by omega)]
  exact lapF_seq h1 h2 i 0 32768 (Nat.zero_add i) (by rw [lapLo_zero]; omega)

theorem lap_zero {fs decay f : Nat} (h : f < fs) : lapAll fs decay f = (0, 0, fs) := if_pos h

/-! ### The part of a number; the numbers that can be read -/
/-- Where the part of a number begins. -/
def lapFl (fs decay : Nat) (v : Int) : Nat :=
  if v = 0 then 0 else if v < 0 then lapLo fs decay (v.natAbs - 1) else lapLo fs decay (v.natAbs - 1) + lapSz fs decay (v.natAbs - 1)
def lapFh (fs decay : Nat) (v : Int) : Nat :=
  if v = 0 then fs else lapFl fs decay v + lapSz fs decay (v.natAbs - 1)

/-- Its beginning tells the number, and its part. -/
theorem lap_fl {fs decay : Nat} (hfs : 1 ≤ fs) {v : Int} (h : lapFl fs decay v < 32768) : lapAll fs decay (lapFl fs decay v) = (v, lapFl fs decay v, lapFh fs decay v) := by
  have hp := lapSz_pos fs decay (v.natAbs - 1)
  by_cases h0 : v = 0
  · subst h0
    unfold lapFh lapFl
    rw [if_pos rfl, if_pos rfl]
    exact lap_zero (by omega)
  · by_cases h1 : v < 0
    · have e : lapFl fs decay v = lapLo fs decay (v.natAbs - 1) := by unfold lapFl; rw [if_neg h0, if_pos h1]
      have e2 : lapFh fs decay v = lapLo fs decay (v.natAbs - 1) + lapSz fs decay (v.natAbs - 1) := by unfold lapFh; rw [if_neg h0, e]
      rw [e] at h
      rw [e2, e, lap_at (i := v.natAbs - 1) (by omega) (Nat.le_refl _) (by omega), lapPair, if_pos (by omega)]
      have : -((v.natAbs - 1 + 1 : Nat) : Int) = v := by omega
      rw [this]
    · have e : lapFl fs decay v = lapLo fs decay (v.natAbs - 1) + lapSz fs decay (v.natAbs - 1) := by unfold lapFl; rw [if_neg h0, if_neg h1]
      have e2 : lapFh fs decay v = lapLo fs decay (v.natAbs - 1) + lapSz fs decay (v.natAbs - 1) + lapSz fs decay (v.natAbs - 1) := by unfold lapFh; rw [if_neg h0, e]
      rw [e] at h
      rw [e2, e, lap_at (i := v.natAbs - 1) (by omega) (by omega) (by omega), lapPair, if_neg (by omega)]
      have : ((v.natAbs - 1 + 1 : Nat) : Int) = v := by omega
      rw [this]

/-- A number that is found somewhere is found at its own beginning, which lies there or ahead. -/
theorem lap_found {fs decay f : Nat} (hfs : 256 ≤ fs) (hf : f < 32768) : ∃ i, (f < fs ∨ (lapLo fs decay i ≤ f ∧ f < lapLo fs decay i + 2 * lapSz fs decay i)) := by
  by_cases h : f < fs
  · exact ⟨0, .inl h⟩
  · have : ∀ n, f < lapLo fs decay n → ∃ i, lapLo fs decay i ≤ f ∧ f < lapLo fs decay i + 2 * lapSz fs decay i := fun n => by
      induction n with
      | zero => intro hn; rw [lapLo_zero] at hn; omega
      | succ n ih =>
        intro hn
        by_cases hc : f < lapLo fs decay n
        · exact ih hc
        · rw [lapLo_succ] at hn
          exact ⟨n, by omega, hn⟩
    have hb := lapLo_add fs decay 0 32768
    rw [Nat.zero_add, lapLo_zero] at hb
    obtain ⟨i, h1⟩ := this 32768 (by omega)
    exact ⟨i, .inr h1⟩

/-- On either side of 0 parts lie farther out the farther their numbers are from 0. -/
theorem lapFl_mono {fs decay : Nat} (hfs : 1 ≤ fs) {v w : Int} (hs : (0 ≤ v ∧ v < w) ∨ (v ≤ 0 ∧ w < v)) : lapFl fs decay v < lapFl fs decay w := by
  have hp := lapSz_pos fs decay (v.natAbs - 1)
  have hq := lapSz_pos fs decay (w.natAbs - 1)
  have h0 : fs ≤ lapLo fs decay (w.natAbs - 1) := by
    have := lapLo_add fs decay 0 (w.natAbs - 1)
    rw [Nat.zero_add, lapLo_zero] at this
    omega
  have hw : w ≠ 0 := by omega
  by_cases hv : v = 0
  · unfold lapFl
    rw [if_pos hv, if_neg hw]
    split <;> omega
  · have hl := lapLo_lt fs decay (i := v.natAbs - 1) (j := w.natAbs - 1) (by omega)
    unfold lapFl
    rw [if_neg hv, if_neg hw]
    rcases hs with hs | hs
    · rw [if_neg (by omega), if_neg (by omega)]; omega
    · rw [if_pos (by omega), if_pos (by omega)]; omega

/-! ### The nearest that can be read -/
/-- A number of a size and a side. -/
def sg (neg : Bool) (n : Nat) : Int := if neg then -(n : Int) else n

theorem sg_zero (neg : Bool) : sg neg 0 = 0 := by cases neg <;> rfl

/-- The greatest size up to n that can be read on that side. -/
def nearN (fs decay : Nat) (neg : Bool) : Nat → Nat
  | 0 => 0
  | n + 1 => if lapFl fs decay (sg neg (n + 1)) < 32768 then n + 1 else nearN fs decay neg n

theorem nearN_le (fs decay : Nat) (neg : Bool) : ∀ n, nearN fs decay neg n ≤ n
  | 0 => Nat.le_refl _
  | n + 1 => by
    unfold nearN
    split
    · exact Nat.le_refl _
    · exact Nat.le_succ_of_le (nearN_le fs decay neg n)

theorem nearN_ok (fs decay : Nat) (neg : Bool) : ∀ n, lapFl fs decay (sg neg (nearN fs decay neg n)) < 32768
  | 0 => by
    show lapFl fs decay (sg neg 0) < 32768
    rw [sg_zero]
    unfold lapFl
    rw [if_pos rfl]; decide
  | n + 1 => by
    unfold nearN
    split
    · assumption
    · exact nearN_ok fs decay neg n

theorem sg_mono {fs decay : Nat} (hfs : 1 ≤ fs) (neg : Bool) {m n : Nat} (h : m < n) : lapFl fs decay (sg neg m) < lapFl fs decay (sg neg n) := by
  refine lapFl_mono hfs ?_
  cases neg
  · left; show 0 ≤ (m : Int) ∧ (m : Int) < n; omega
  · right; show -(m : Int) ≤ 0 ∧ -(n : Int) < -(m : Int); omega

/-- What is nearest: it can be read, and the next one, if it is not yet what was asked for, can't. -/
theorem nearN_is {fs decay : Nat} (hfs : 1 ≤ fs) (neg : Bool) {w : Nat} (hw : lapFl fs decay (sg neg w) < 32768) : ∀ {n : Nat}, w ≤ n → (w = n ∨ ¬ lapFl fs decay (sg neg (w + 1)) < 32768) → nearN fs decay neg n = w
  | 0, hle, _ => by
    have : w = 0 := by omega
    subst this; rfl
  | n + 1, hle, hn => by
    unfold nearN
    rcases Nat.lt_or_ge n w with hc | hc
    · obtain rfl : w = n + 1 := by omega
      rw [if_pos hw]
    · have hne : ¬ lapFl fs decay (sg neg (w + 1)) < 32768 := by
        rcases hn with hn | hn
        · omega
        · exact hn
      have hbig : ¬ lapFl fs decay (sg neg (n + 1)) < 32768 := by
        rcases Nat.lt_or_ge w n with h1 | h1
        · have := sg_mono (decay := decay) hfs neg (show w + 1 < n + 1 by omega)
          omega
        · obtain rfl : w = n := by omega
          exact hne
      rw [if_neg hbig]
      exact nearN_is hfs neg hw hc (.inr hne)

theorem nearN_next {fs decay : Nat} (neg : Bool) {n : Nat} (h : nearN fs decay neg n ≠ n) : ¬ lapFl fs decay (sg neg (nearN fs decay neg n + 1)) < 32768 := by
  induction n with
  | zero => exact absurd rfl h
  | succ n ih =>
    unfold nearN at h ⊢
    split at h
    · exact absurd rfl h
    · rename_i hc
      rw [if_neg hc]
      by_cases he : nearN fs decay neg n = n
      · rw [he]; exact hc
      · exact ih he

/-- What was written is written as itself, and the next one as it, where it was not what was asked for. -/
theorem nearN_again {fs decay : Nat} (hfs : 1 ≤ fs) (neg : Bool) (n : Nat) : nearN fs decay neg (nearN fs decay neg n) = nearN fs decay neg n ∧ (nearN fs decay neg n ≠ n → nearN fs decay neg (nearN fs decay neg n + 1) = nearN fs decay neg n) :=
  ⟨nearN_is hfs neg (nearN_ok fs decay neg n) (Nat.le_refl _) (.inl rfl), fun h => nearN_is hfs neg (nearN_ok fs decay neg n) (Nat.le_succ _) (.inr (nearN_next neg h))⟩

end Go.Proofs.Ytdbgcbbfnjoebaa

/- By how much Tell grows, as plain numbers. Nothing here is of any program. -/
namespace Go.Proofs.Ytdbgcbbfnjoebaa

theorem lenN_double_one (m : Nat) : lenN m ≤ lenN (m / 2) + 1 := by
  by_cases h : m = 0
  · subst h; decide
  · by_cases h1 : m = 1
    · subst h1; decide
    · unfold lenN
      rw [if_neg h, if_neg (by omega)]
      have h3 : m / 2 < 2 ^ ((m / 2).log2 + 1) := Nat.lt_log2_self
      have h4 : m.log2 < (m / 2).log2 + 2 := (Nat.log2_lt h).2 (by rw [Nat.pow_succ]; omega)
      omega

/-- Halved k times, a number is at most k bits shorter. -/
theorem lenN_shift (n : Nat) : ∀ k, lenN n ≤ lenN (n / 2 ^ k) + k
  | 0 => by rw [Nat.pow_zero, Nat.div_one]; exact Nat.le_refl _
  | k + 1 => by
    have h := lenN_shift n k
    have h2 := lenN_double_one (n / 2 ^ k)
    rw [Nat.pow_succ, ← Nat.div_div_eq_div_mul]
    omega

theorem tellE_put_le {e : Sp} (h : SpOk e) {fl fh ft : Nat} (h1 : fl < fh) (h3 : fh ≤ ft) (hft : ft ≤ 32768) (R R' : Nat) : tellE (putE e fl fh ft) R' ≤ tellE e R + 15 + R' - R := by
  obtain ⟨a1, a2⟩ := narrowE_rng h h1 h3 hft
  have hq : e.rng / 2 ^ 15 ≤ e.rng / ft := Nat.div_le_div_left (by omega) (by omega)
  have hm : e.rng / ft * ft ≤ e.rng := Nat.div_mul_le_self _ _
  have m1 : e.rng / ft * 1 ≤ e.rng / ft * (fh - fl) := Nat.mul_le_mul_left _ (by omega)
  have m3 : e.rng / ft * (ft - fh) + e.rng / ft * (fh - fl) ≤ e.rng / ft * ft := by rw [← Nat.mul_add]; exact Nat.mul_le_mul_left _ (by omega)
  have hr : e.rng / 2 ^ 15 ≤ (narrowE e fl fh ft).rng := by
    show e.rng / 2 ^ 15 ≤ (if 0 < fl then e.rng / ft * (fh - fl) else e.rng - e.rng / ft * (ft - fh))
    generalize e.rng / 2 ^ 15 = q at *
    split <;> omega
  have hl := lenN_shift e.rng 15
  have hl2 := lenN_mono hr
  unfold putE
  rw [tellE_norm 3 _ R' a1]
  have hk : (narrowE e fl fh ft).k = e.k := rfl
  unfold tellE
  rw [hk]
  omega

theorem spanW_grows {x : Wr} (h : okW x) {e : Sp} (he : SpOk e) (R : Nat) : tellE (spanW x e) (R + rawN x) ≤ tellE e R + 48 := by
  unfold okW at h
  unfold spanW rawN
  by_cases h0 : x.op = 0
  · rw [if_pos h0] at h ⊢
    rw [if_neg (by omega), if_neg (by omega)]
    obtain ⟨g1, g2, g3⟩ := h
    obtain ⟨p1, p2⟩ := sym_part g1 (v := x.v.toNat) (by omega)
    have := tellE_put_le he p1 p2 (by decide) R (R + 0)
    unfold symE
    omega
  rw [if_neg h0] at h ⊢
  by_cases h1 : x.op = 1
  · rw [if_pos h1] at h ⊢
    rw [if_neg (by omega), if_neg (by omega)]
    have hp1 : 2 ^ 1 ≤ 2 ^ x.n.toNat := Nat.pow_le_pow_right (by decide) (by omega)
    have hp2 : 2 ^ x.n.toNat ≤ 2 ^ 15 := Nat.pow_le_pow_right (by decide) (by omega)
    have hl := he.low
    have hd1 : 1 ≤ e.rng / 2 ^ x.n.toNat := (Nat.le_div_iff_mul_le (by omega)).2 (by omega)
    have hd2 : e.rng / 2 ^ x.n.toNat ≤ e.rng / 2 ^ 1 := Nat.div_le_div_left hp1 (by decide)
    have hs := lenN_shift e.rng x.n.toNat
    have hs1 := lenN_shift e.rng 1
    have e1 : e.rng / 2 ^ 1 = e.rng / 2 := rfl
    rw [e1] at hd2 hs1
    unfold putFlagE
    rw [tellE_norm 3 _ _ (by unfold flagE; split; exact hd1; show 1 ≤ e.rng - e.rng / 2 ^ x.n.toNat; omega)]
    unfold flagE
    split
    · unfold tellE
      simp only
      omega
    · have hm := lenN_mono (show e.rng / 2 ≤ e.rng - e.rng / 2 ^ x.n.toNat by omega)
      unfold tellE
      simp only
      omega
  rw [if_neg h1] at h ⊢
  by_cases h2 : x.op = 2
  · rw [if_pos h2] at h ⊢
    rw [if_pos h2]
    unfold tellE
    omega
  rw [if_neg h2] at h ⊢
  rw [if_neg h2]
  by_cases h3 : x.op = 3
  · rw [if_pos h3] at h ⊢
    rw [if_pos h3]
    obtain ⟨o1, o2, o3, o4⟩ := h
    unfold uintE
    by_cases c1 : x.n.toNat ≤ 1
    · rw [if_pos c1, if_pos (by omega)]
      unfold tellE
      omega
    · rw [if_neg c1]
      by_cases c2 : x.n.toNat ≤ 256
      · rw [if_pos c2, if_pos c2]
        have := tellE_put_le he (Nat.lt_succ_self _) (show x.v.toNat < x.n.toNat by omega) (show x.n.toNat ≤ 32768 by omega) R (R + 0)
        simp only [Nat.succ_eq_add_one] at this
        omega
      · rw [if_neg c2, if_neg c2]
        obtain ⟨_, s2, s3, s4⟩ := shift_in (ft := x.n.toNat) (by omega) (by omega)
        have := tellE_put_le he (Nat.lt_succ_self _) (part_of (by omega) (show x.v.toNat < x.n.toNat by omega)) (show partN x.n.toNat ≤ 32768 by omega) R (R + shiftN x.n.toNat)
        simp only [Nat.succ_eq_add_one] at this
        omega
  rw [if_neg h3] at h ⊢
  rw [if_neg h3]
  by_cases h4 : x.op = 4
  · rw [if_pos h4] at h ⊢
    obtain ⟨⟨o1, o2, o3, o4⟩, hf, _⟩ := h
    obtain ⟨a1, a2, _, _⟩ := lapAll_in (fs := x.n.toNat) (decay := x.m.toNat) (f := x.f) (by omega) (by omega)
    have := tellE_put_le he (show (lapAll x.n.toNat x.m.toNat x.f).2.1 < min (lapAll x.n.toNat x.m.toNat x.f).2.2 32768 by omega) (show min (lapAll x.n.toNat x.m.toNat x.f).2.2 32768 ≤ 32768 by omega) (by decide) R (R + 0)
    unfold lapE
    omega
  · rw [if_neg h4] at h ⊢
    obtain ⟨g1, g2, g3⟩ := h
    obtain ⟨p1, p2⟩ := sym_part g1 (v := x.v.toNat) (by omega)
    have := tellE_put_le he p1 p2 (by decide) R (R + 0)
    unfold symE
    omega

end Go.Proofs.Ytdbgcbbfnjoebaa

/- A writer as the program keeps it, as plain numbers: bytes from the beginning (a carry may change them), what is behind them, bytes from the end; each step of it is a step of the span. Nothing here is of any program. -/
namespace Go.Proofs.Ytdbgcbbfnjoebaa

structure Es where
  front : List Nat
  low : Nat
  rng : Nat
  back : List Nat
  wait : Nat
  waiting : Nat
  cnt : Nat

/-! ### A carry -/
/-- One is added to the number that the first n bytes are. -/
def carryN : Nat → List Nat → List Nat
  | 0, l => l
  | n + 1, l => if byteAt l n = 255 then carryN n (l.set n 0) else l.set n (byteAt l n + 1)

theorem byteAt_set (l : List Nat) (n v i : Nat) : byteAt (l.set n v) i = if i = n ∧ n < l.length then v else byteAt l i := by
  unfold byteAt
  rw [List.getElem?_set]
  by_cases h : n = i
  · subst h
    by_cases h2 : n < l.length
    · rw [if_pos rfl, if_pos h2, if_pos ⟨rfl, h2⟩]; rfl
    · rw [if_pos rfl, if_neg h2, if_neg (by omega), List.getElem?_eq_none (by omega)]
  · rw [if_neg h, if_neg (by omega)]

theorem bytes_set {l : List Nat} (h : Bytes l) (n : Nat) {v : Nat} (hv : v < 256) : Bytes (l.set n v) := fun i => by
  rw [byteAt_set]
  split
  · exact hv
  · exact h i

theorem preN_set {l : List Nat} {n v : Nat} : ∀ {m : Nat}, m ≤ n → preN (l.set n v) m = preN l m
  | 0, _ => rfl
  | m + 1, h => by
    show 256 * preN (l.set n v) m + byteAt (l.set n v) m = 256 * preN l m + byteAt l m
    rw [preN_set (by omega), byteAt_set, if_neg (by omega)]

theorem carryN_len : ∀ (n : Nat) (l : List Nat), (carryN n l).length = l.length
  | 0, _ => rfl
  | n + 1, l => by
    unfold carryN
    split
    · rw [carryN_len n, List.length_set]
    · rw [List.length_set]

theorem carryN_bytes : ∀ (n : Nat) {l : List Nat}, Bytes l → Bytes (carryN n l)
  | 0, _, h => h
  | n + 1, l, h => by
    unfold carryN
    split
    · exact carryN_bytes n (bytes_set h n (by decide))
    · rename_i hc
      have := h n
      exact bytes_set h n (by omega)

theorem carryN_far : ∀ (n : Nat) (l : List Nat) {i : Nat}, n ≤ i → byteAt (carryN n l) i = byteAt l i
  | 0, _, _, _ => rfl
  | n + 1, l, i, h => by
    unfold carryN
    split
    · rw [carryN_far n _ (by omega), byteAt_set, if_neg (by omega)]
    · rw [byteAt_set, if_neg (by omega)]

theorem carryN_pre : ∀ (n : Nat) {l : List Nat}, n ≤ l.length → preN l n + 1 < 256 ^ n → preN (carryN n l) n = preN l n + 1
  | 0, _, _, h => by rw [Nat.pow_zero] at h; omega
  | n + 1, l, hl, h => by
    have e0 : preN l (n + 1) = 256 * preN l n + byteAt l n := rfl
    rw [e0] at h ⊢
    unfold carryN
    split
    · rename_i hc
      rw [hc, Nat.pow_succ] at h
      have ih := carryN_pre n (l := l.set n 0) (by rw [List.length_set]; omega) (by rw [preN_set (Nat.le_refl n)]; generalize 256 ^ n = q at *; omega)
      rw [preN_set (Nat.le_refl n)] at ih
      show 256 * preN (carryN n (l.set n 0)) n + byteAt (carryN n (l.set n 0)) n = _
      rw [ih, carryN_far n _ (Nat.le_refl n), byteAt_set, if_pos ⟨rfl, by omega⟩, hc]
      omega
    · show 256 * preN (l.set n (byteAt l n + 1)) n + byteAt (l.set n (byteAt l n + 1)) n = _
      rw [preN_set (Nat.le_refl n), byteAt_set, if_pos ⟨rfl, by omega⟩]
      omega

theorem bytes_snoc {l : List Nat} (h : Bytes l) {v : Nat} (hv : v < 256) : Bytes (l ++ [v]) := fun i => by
  unfold byteAt
  rcases Nat.lt_trichotomy i l.length with h1 | h1 | h1
  · rw [List.getElem?_append_left h1]; exact h i
  · subst h1; simp; exact hv
  · rw [List.getElem?_eq_none (by simp; omega)]; decide

theorem byteAt_snoc (l : List Nat) (v : Nat) : byteAt (l ++ [v]) l.length = v := by
  unfold byteAt; simp

theorem preN_append (l k : List Nat) : ∀ {m : Nat}, m ≤ l.length → preN (l ++ k) m = preN l m
  | 0, _ => rfl
  | m + 1, h => by
    show 256 * preN (l ++ k) m + byteAt (l ++ k) m = 256 * preN l m + byteAt l m
    rw [preN_append l k (by omega), byteAt_append l k m (by omega)]

/-! ### The steps -/
def frontE (s : Es) : List Nat :=
  if 1275 ≤ s.front.length + s.back.length then s.front else (if 2147483648 ≤ s.low then carryN s.front.length s.front else s.front) ++ [s.low / 8388608 % 256]

def stepE (s : Es) : Es := { s with front := frontE s, low := s.low % 8388608 * 256, rng := s.rng * 256, cnt := s.cnt + 8 }

def onE : Nat → Es → Es
  | 0, s => s
  | n + 1, s => if s.rng ≤ 8388608 then onE n (stepE s) else s

def narrowEs (s : Es) (fl fh ft : Nat) : Es := { s with low := (narrowE ⟨s.low, s.rng, 0⟩ fl fh ft).low, rng := (narrowE ⟨s.low, s.rng, 0⟩ fl fh ft).rng }
def takeE (s : Es) (fl fh ft : Nat) : Es := onE 3 (narrowEs s fl fh ft)

def flagEs (v : Bool) (n : Nat) (s : Es) : Es := { s with low := (flagE v n ⟨s.low, s.rng, 0⟩).low, rng := (flagE v n ⟨s.low, s.rng, 0⟩).rng }
def takeFlagE (v : Bool) (n : Nat) (s : Es) : Es := onE 3 (flagEs v n s)

def backE (s : Es) : List Nat := if 1275 ≤ s.front.length + s.back.length then s.back else s.back ++ [s.wait % 256]
def flushS (s : Es) : Es := { s with back := backE s, wait := s.wait / 256, waiting := s.waiting - 8 }
def flushE : Nat → Es → Es
  | 0, s => s
  | n + 1, s => if 8 ≤ s.waiting then flushE n (flushS s) else s
def addE (v n : Nat) (s : Es) : Es := { s with wait := s.wait + v * 2 ^ s.waiting, waiting := s.waiting + n, cnt := s.cnt + n }
def bitsE (v n : Nat) (s : Es) : Es := flushE 3 (addE v n s)

def initE : Es := { front := [], low := 0, rng := 2147483648, back := [], wait := 0, waiting := 0, cnt := 33 }

/-- What holds of a writer within a step. -/
structure PreE (s : Es) : Prop where
  front : Bytes s.front
  back : Bytes s.back
  rlow : 1 ≤ s.rng
  rhigh : s.rng ≤ 2147483648
  low : s.low + s.rng ≤ 4294967296
  carry : 1275 ≤ s.front.length + s.back.length ∨ preN s.front s.front.length * 2147483648 + s.low + s.rng ≤ 2147483648 * 256 ^ s.front.length
  len : s.front.length + s.back.length ≤ 1275
  wait : s.wait < 2 ^ s.waiting

/-- And between two steps. -/
structure InvE (s : Es) : Prop where
  pre : PreE s
  wide : 8388608 < s.rng
  few : s.waiting < 8

theorem initE_inv : InvE initE :=
  ⟨⟨fun i => by show byteAt [] i < 256; simp [byteAt], fun i => by show byteAt [] i < 256; simp [byteAt], by decide, by decide, by decide, .inr (by decide), by decide, by decide⟩, by decide, by decide⟩

theorem PreE.room {s : Es} (h : PreE s) (hl : 2147483648 ≤ s.low) (hf : ¬ 1275 ≤ s.front.length + s.back.length) : preN s.front s.front.length + 1 < 256 ^ s.front.length := by
  have h1 := h.rlow
  rcases h.carry with h2 | h2
  · exact absurd h2 hf
  · generalize 256 ^ s.front.length = q at *
    generalize preN s.front s.front.length = x at *
    omega

/-- The bytes from the beginning behind a carry, where there is one. -/
def carried (s : Es) : List Nat := if 2147483648 ≤ s.low then carryN s.front.length s.front else s.front

theorem frontE_open {s : Es} (hf : ¬ 1275 ≤ s.front.length + s.back.length) : frontE s = carried s ++ [s.low / 8388608 % 256] := if_neg hf
theorem frontE_full {s : Es} (hf : 1275 ≤ s.front.length + s.back.length) : frontE s = s.front := if_pos hf

theorem carried_len (s : Es) : (carried s).length = s.front.length := by
  unfold carried
  split
  · exact carryN_len _ _
  · rfl

theorem carried_bytes {s : Es} (h : Bytes s.front) : Bytes (carried s) := by
  unfold carried
  split
  · exact carryN_bytes _ h
  · exact h

theorem carried_pre {s : Es} (h : PreE s) (hf : ¬ 1275 ≤ s.front.length + s.back.length) : preN (carried s) s.front.length = preN s.front s.front.length + s.low / 2147483648 := by
  have h1 := h.low
  have h2 := h.rlow
  unfold carried
  split
  · rename_i hc
    rw [carryN_pre _ (Nat.le_refl _) (h.room hc hf)]
    omega
  · omega

theorem frontE_pre {s : Es} (h : PreE s) (hf : ¬ 1275 ≤ s.front.length + s.back.length) :
    (frontE s).length = s.front.length + 1 ∧ preN (frontE s) (s.front.length + 1) * 2147483648 + s.low % 8388608 * 256 = 256 * (preN s.front s.front.length * 2147483648 + s.low) := by
  rw [frontE_open hf]
  have hl := carried_len s
  refine ⟨by simp [hl], ?_⟩
  show (256 * preN (carried s ++ [s.low / 8388608 % 256]) s.front.length + byteAt (carried s ++ [s.low / 8388608 % 256]) s.front.length) * 2147483648 + _ = _
  rw [preN_append _ _ (by omega), carried_pre h hf]
  have e1 : byteAt (carried s ++ [s.low / 8388608 % 256]) s.front.length = s.low / 8388608 % 256 := by rw [← hl]; exact byteAt_snoc _ _
  rw [e1]
  generalize preN s.front s.front.length = x
  omega

theorem stepE_pre {s : Es} (h : PreE s) (hr : s.rng ≤ 8388608) : PreE (stepE s) := by
  have h1 := h.rlow
  by_cases hf : 1275 ≤ s.front.length + s.back.length
  · have e : frontE s = s.front := frontE_full hf
    refine ⟨?_, h.back, by show 1 ≤ s.rng * 256; omega, by show s.rng * 256 ≤ _; omega, by show s.low % 8388608 * 256 + s.rng * 256 ≤ _; omega, .inl ?_, ?_, h.wait⟩
    · show Bytes (frontE s); rw [e]; exact h.front
    · show 1275 ≤ (frontE s).length + s.back.length; rw [e]; exact hf
    · show (frontE s).length + s.back.length ≤ 1275; rw [e]; exact h.len
  · obtain ⟨e1, e2⟩ := frontE_pre h hf
    refine ⟨?_, h.back, by show 1 ≤ s.rng * 256; omega, by show s.rng * 256 ≤ _; omega, by show s.low % 8388608 * 256 + s.rng * 256 ≤ _; omega, .inr ?_, ?_, h.wait⟩
    · show Bytes (frontE s)
      rw [frontE_open hf]
      exact bytes_snoc (carried_bytes h.front) (by omega)
    · show preN (frontE s) (frontE s).length * 2147483648 + s.low % 8388608 * 256 + s.rng * 256 ≤ 2147483648 * 256 ^ (frontE s).length
      rw [e1, e2, Nat.pow_succ]
      rcases h.carry with h2 | h2
      · exact absurd h2 hf
      · generalize 256 ^ s.front.length = q at *
        generalize preN s.front s.front.length = x at *
        omega
    · show (frontE s).length + s.back.length ≤ 1275
      omega

theorem onE_pre : ∀ (n : Nat) {s : Es}, PreE s → 8388608 < s.rng * 256 ^ n → PreE (onE n s) ∧ 8388608 < (onE n s).rng
  | 0, s, h, h2 => ⟨h, by simpa [onE] using h2⟩
  | n + 1, s, h, h2 => by
    unfold onE
    split
    · rename_i hc
      refine onE_pre n (stepE_pre h hc) ?_
      show 8388608 < s.rng * 256 * 256 ^ n
      rw [Nat.mul_assoc, Nat.mul_comm 256, ← Nat.pow_succ]; exact h2
    · rename_i hc
      exact ⟨h, by omega⟩

theorem onE_same : ∀ (n : Nat) (s : Es), (onE n s).back = s.back ∧ (onE n s).wait = s.wait ∧ (onE n s).waiting = s.waiting
  | 0, _ => ⟨rfl, rfl, rfl⟩
  | n + 1, s => by
    unfold onE
    split
    · exact onE_same n (stepE s)
    · exact ⟨rfl, rfl, rfl⟩

theorem onE_inv {s : Es} (h : PreE s) (hw : s.waiting < 8) : InvE (onE 3 s) := by
  obtain ⟨h1, h2⟩ := onE_pre 3 h (by have := h.rlow; omega)
  exact ⟨h1, h2, by rw [(onE_same 3 s).2.2]; exact hw⟩

/-! ### Step by step beside the span -/
/-- The writer stands where the span is, R bits from the end beside it, which are V; or it is over full. -/
structure Wrote (e : Sp) (R V : Nat) (s : Es) : Prop where
  rng : s.rng = e.rng
  cnt : s.cnt = 8 * (e.k + 1) + 1 + R
  at_ : (1275 ≤ s.front.length + s.back.length ∧ 10232 < 8 * (e.k + 1) + 1 + R) ∨
    (e.k = 3 + s.front.length ∧ e.low = preN s.front s.front.length * 2147483648 + s.low ∧ R = 8 * s.back.length + s.waiting ∧ V = preN s.back.reverse s.back.length + s.wait * 256 ^ s.back.length)

theorem initE_wrote : Wrote startE 0 0 initE := by
  rw [startE_is]
  exact ⟨rfl, rfl, .inr ⟨rfl, rfl, rfl, rfl⟩⟩

theorem stepE_wrote {e : Sp} {R V : Nat} {s : Es} (h : PreE s) (hw : Wrote e R V s) : Wrote { low := e.low * 256, rng := e.rng * 256, k := e.k + 1 } R V (stepE s) := by
  refine ⟨by show s.rng * 256 = e.rng * 256; rw [hw.rng], by show s.cnt + 8 = 8 * (e.k + 1 + 1) + 1 + R; rw [hw.cnt]; omega, ?_⟩
  by_cases hf : 1275 ≤ s.front.length + s.back.length
  · have e1 : frontE s = s.front := frontE_full hf
    refine .inl ⟨by show 1275 ≤ (frontE s).length + s.back.length; rw [e1]; exact hf, ?_⟩
    show 10232 < 8 * (e.k + 1 + 1) + 1 + R
    rcases hw.at_ with ⟨_, h2⟩ | ⟨h1, _, h3, _⟩
    · omega
    · omega
  · obtain ⟨e1, e2⟩ := frontE_pre h hf
    rcases hw.at_ with ⟨h1, _⟩ | ⟨h1, h2, h3, h4⟩
    · exact absurd h1 hf
    · refine .inr ⟨by show e.k + 1 = 3 + (frontE s).length; omega, ?_, h3, h4⟩
      show e.low * 256 = preN (frontE s) (frontE s).length * 2147483648 + s.low % 8388608 * 256
      rw [e1, e2, h2, Nat.mul_comm]

theorem onE_wrote : ∀ (n : Nat) {e : Sp} {R V : Nat} {s : Es}, PreE s → Wrote e R V s → Wrote (normE n e) R V (onE n s)
  | 0, _, _, _, _, _, h => h
  | n + 1, e, R, V, s, hp, h => by
    unfold onE normE
    rw [← h.rng]
    split
    · rename_i hc
      have := onE_wrote n (stepE_pre hp hc) (stepE_wrote hp h)
      rw [← h.rng] at this
      exact this
    · exact h

theorem narrow_pre_es {s : Es} (h : InvE s) {fl fh ft : Nat} (h1 : fl < fh) (h3 : fh ≤ ft) (hft : ft ≤ 32768) : PreE (narrowEs s fl fh ft) := by
  obtain ⟨hp, hw, _⟩ := h
  obtain ⟨a1, a2⟩ := narrowE_rng (e := ⟨s.low, s.rng, 3⟩) ⟨hw, hp.rhigh, Nat.le_refl 3⟩ h1 h3 hft
  obtain ⟨b1, b2⟩ := narrow_le (e := ⟨s.low, s.rng, 0⟩) h1 h3
  have a1' : 1 ≤ (narrowE ⟨s.low, s.rng, 0⟩ fl fh ft).rng := a1
  have a2' : (narrowE ⟨s.low, s.rng, 0⟩ fl fh ft).rng ≤ s.rng := a2
  simp only at b1 b2
  have h4 := hp.low
  have h5 := hp.rhigh
  refine ⟨hp.front, hp.back, a1', by show (narrowE ⟨s.low, s.rng, 0⟩ fl fh ft).rng ≤ _; omega, by show (narrowE ⟨s.low, s.rng, 0⟩ fl fh ft).low + (narrowE ⟨s.low, s.rng, 0⟩ fl fh ft).rng ≤ _; omega, ?_, hp.len, hp.wait⟩
  rcases hp.carry with h2 | h2
  · exact .inl h2
  · right
    show preN s.front s.front.length * 2147483648 + (narrowE ⟨s.low, s.rng, 0⟩ fl fh ft).low + (narrowE ⟨s.low, s.rng, 0⟩ fl fh ft).rng ≤ 2147483648 * 256 ^ s.front.length
    generalize s.rng / ft * (ft - fh) = q at *
    omega

theorem takeE_inv {s : Es} (h : InvE s) {fl fh ft : Nat} (h1 : fl < fh) (h3 : fh ≤ ft) (hft : ft ≤ 32768) : InvE (takeE s fl fh ft) := onE_inv (narrow_pre_es h h1 h3 hft) h.few

theorem takeE_wrote {e : Sp} {R V : Nat} {s : Es} (hi : InvE s) (h : Wrote e R V s) {fl fh ft : Nat} (h1 : fl < fh) (h3 : fh ≤ ft) (hft : ft ≤ 32768) : Wrote (putE e fl fh ft) R V (takeE s fl fh ft) := by
  refine onE_wrote 3 (narrow_pre_es hi h1 h3 hft) ⟨?_, h.cnt, ?_⟩
  · show (narrowE ⟨s.low, s.rng, 0⟩ fl fh ft).rng = (narrowE e fl fh ft).rng
    unfold narrowE
    simp only [h.rng]
  · rcases h.at_ with h2 | ⟨h2, h4, h5, h6⟩
    · exact .inl h2
    · refine .inr ⟨h2, ?_, h5, h6⟩
      show (narrowE e fl fh ft).low = preN s.front s.front.length * 2147483648 + (narrowE ⟨s.low, s.rng, 0⟩ fl fh ft).low
      unfold narrowE
      simp only [h.rng, h4]
      split
      · omega
      · rfl

theorem flag_pre_es {s : Es} (h : InvE s) (v : Bool) {n : Nat} (h1 : 1 ≤ n) (h2 : n ≤ 15) : PreE (flagEs v n s) := by
  obtain ⟨hp, hw, _⟩ := h
  have hp1 : 2 ^ 1 ≤ 2 ^ n := Nat.pow_le_pow_right (by decide) h1
  have hp2 : 2 ^ n ≤ 2 ^ 15 := Nat.pow_le_pow_right (by decide) h2
  have hd1 : 1 ≤ s.rng / 2 ^ n := (Nat.le_div_iff_mul_le (by omega)).2 (by omega)
  have hd2 : s.rng / 2 ^ n < s.rng := Nat.div_lt_self (by omega) (by omega)
  have h4 := hp.low
  have h5 := hp.rhigh
  have key : 1 ≤ (flagE v n ⟨s.low, s.rng, 0⟩).rng ∧ (flagE v n ⟨s.low, s.rng, 0⟩).rng ≤ s.rng ∧ (flagE v n ⟨s.low, s.rng, 0⟩).low + (flagE v n ⟨s.low, s.rng, 0⟩).rng ≤ s.low + s.rng := by
    unfold flagE
    generalize s.rng / 2 ^ n = q at *
    cases v
    · simp only [Bool.false_eq_true, if_false]; omega
    · simp only [if_true]; omega
  obtain ⟨k1, k2, k3⟩ := key
  refine ⟨hp.front, hp.back, k1, Nat.le_trans k2 h5, Nat.le_trans k3 h4, ?_, hp.len, hp.wait⟩
  rcases hp.carry with h2 | h2
  · exact .inl h2
  · right
    show preN s.front s.front.length * 2147483648 + (flagE v n ⟨s.low, s.rng, 0⟩).low + (flagE v n ⟨s.low, s.rng, 0⟩).rng ≤ 2147483648 * 256 ^ s.front.length
    generalize (flagE v n ⟨s.low, s.rng, 0⟩).low = x at *
    generalize (flagE v n ⟨s.low, s.rng, 0⟩).rng = y at *
    omega

theorem takeFlagE_inv {s : Es} (h : InvE s) (v : Bool) {n : Nat} (h1 : 1 ≤ n) (h2 : n ≤ 15) : InvE (takeFlagE v n s) := onE_inv (flag_pre_es h v h1 h2) h.few

theorem takeFlagE_wrote {e : Sp} {R V : Nat} {s : Es} (hi : InvE s) (h : Wrote e R V s) (v : Bool) {n : Nat} (h1 : 1 ≤ n) (h2 : n ≤ 15) : Wrote (putFlagE v n e) R V (takeFlagE v n s) := by
  refine onE_wrote 3 (flag_pre_es hi v h1 h2) ⟨?_, ?_, ?_⟩
  · show (flagE v n ⟨s.low, s.rng, 0⟩).rng = (flagE v n e).rng
    unfold flagE
    rw [h.rng]
    cases v <;> rfl
  · have : (flagE v n e).k = e.k := by unfold flagE; cases v <;> rfl
    rw [this]; exact h.cnt
  · have hk : (flagE v n e).k = e.k := by unfold flagE; cases v <;> rfl
    rw [hk]
    rcases h.at_ with h2 | ⟨h2, h4, h5, h6⟩
    · exact .inl h2
    · refine .inr ⟨h2, ?_, h5, h6⟩
      show (flagE v n e).low = preN s.front s.front.length * 2147483648 + (flagE v n ⟨s.low, s.rng, 0⟩).low
      unfold flagE
      rw [← h.rng]
      cases v
      · simp only [Bool.false_eq_true, if_false]; exact h4
      · simp only [if_true]; omega

/-! ### Bits from the end -/
theorem preN_cons (x : Nat) (l : List Nat) : ∀ (m : Nat), preN (x :: l) (m + 1) = x * 256 ^ m + preN l m
  | 0 => by show 256 * 0 + x = x * 256 ^ 0 + 0; simp
  | m + 1 => by
    show 256 * preN (x :: l) (m + 1) + byteAt (x :: l) (m + 1) = x * 256 ^ (m + 1) + (256 * preN l m + byteAt l m)
    rw [preN_cons x l m]
    have e1 : byteAt (x :: l) (m + 1) = byteAt l m := by simp [byteAt]
    rw [e1, Nat.mul_add, Nat.pow_succ, ← Nat.mul_assoc, ← Nat.mul_assoc, Nat.mul_comm 256 x, Nat.mul_assoc x, Nat.mul_comm 256, Nat.mul_assoc]
    omega

theorem backE_open {s : Es} (hf : ¬ 1275 ≤ s.front.length + s.back.length) : backE s = s.back ++ [s.wait % 256] := if_neg hf
theorem backE_full {s : Es} (hf : 1275 ≤ s.front.length + s.back.length) : backE s = s.back := if_pos hf

theorem flushS_pre {s : Es} (h : PreE s) (hw : 8 ≤ s.waiting) : PreE (flushS s) := by
  have hwait : s.wait / 256 < 2 ^ (s.waiting - 8) := by
    have := h.wait
    have e : 2 ^ s.waiting = 2 ^ (s.waiting - 8) * 256 := by
      rw [show (256 : Nat) = 2 ^ 8 by decide, ← Nat.pow_add]; congr 1; omega
    rw [e] at this
    generalize 2 ^ (s.waiting - 8) = q at *
    omega
  by_cases hf : 1275 ≤ s.front.length + s.back.length
  · have e : backE s = s.back := backE_full hf
    refine ⟨h.front, by show Bytes (backE s); rw [e]; exact h.back, h.rlow, h.rhigh, h.low, .inl (by show 1275 ≤ s.front.length + (backE s).length; rw [e]; exact hf), by show s.front.length + (backE s).length ≤ 1275; rw [e]; exact h.len, hwait⟩
  · have e : backE s = s.back ++ [s.wait % 256] := backE_open hf
    refine ⟨h.front, by show Bytes (backE s); rw [e]; exact bytes_snoc h.back (by omega), h.rlow, h.rhigh, h.low, .inr ?_, by show s.front.length + (backE s).length ≤ 1275; rw [e]; simp; omega, hwait⟩
    rcases h.carry with h2 | h2
    · exact absurd h2 hf
    · exact h2

theorem flushE_pre : ∀ (n : Nat) {s : Es}, PreE s → s.waiting < 8 * (n + 1) → PreE (flushE n s) ∧ (flushE n s).waiting < 8
  | 0, s, h, h2 => ⟨h, by simpa [flushE] using h2⟩
  | n + 1, s, h, h2 => by
    unfold flushE
    split
    · rename_i hc
      exact flushE_pre n (flushS_pre h hc) (by show s.waiting - 8 < _; omega)
    · exact ⟨h, by omega⟩

theorem flushE_same : ∀ (n : Nat) (s : Es), (flushE n s).rng = s.rng ∧ (flushE n s).cnt = s.cnt ∧ (flushE n s).front = s.front ∧ (flushE n s).low = s.low
  | 0, _ => ⟨rfl, rfl, rfl, rfl⟩
  | n + 1, s => by
    unfold flushE
    split
    · exact flushE_same n (flushS s)
    · exact ⟨rfl, rfl, rfl, rfl⟩

theorem addE_pre {s : Es} (h : PreE s) {v n : Nat} (hv : v < 2 ^ n) : PreE (addE v n s) := by
  refine ⟨h.front, h.back, h.rlow, h.rhigh, h.low, h.carry, h.len, ?_⟩
  have h1 := h.wait
  show s.wait + v * 2 ^ s.waiting < 2 ^ (s.waiting + n)
  have h2 : (v + 1) * 2 ^ s.waiting ≤ 2 ^ n * 2 ^ s.waiting := Nat.mul_le_mul_right _ hv
  rw [Nat.pow_add, Nat.mul_comm (2 ^ s.waiting)]
  rw [Nat.add_mul, Nat.one_mul] at h2
  omega

theorem bitsE_inv {s : Es} (h : InvE s) {v n : Nat} (hn : n ≤ 24) (hv : v < 2 ^ n) : InvE (bitsE v n s) := by
  have hw := h.few
  obtain ⟨h1, h2⟩ := flushE_pre 3 (addE_pre h.pre hv) (by show s.waiting + n < _; omega)
  exact ⟨h1, by rw [bitsE, (flushE_same 3 _).1]; exact h.wide, h2⟩

theorem flushS_wrote {e : Sp} {R V : Nat} {s : Es} (h : Wrote e R V s) (hw : 8 ≤ s.waiting) : Wrote e R V (flushS s) := by
  refine ⟨h.rng, h.cnt, ?_⟩
  by_cases hf : 1275 ≤ s.front.length + s.back.length
  · have e1 : backE s = s.back := backE_full hf
    refine .inl ⟨by show 1275 ≤ s.front.length + (backE s).length; rw [e1]; exact hf, ?_⟩
    rcases h.at_ with ⟨_, h2⟩ | ⟨h1, _, h3, _⟩
    · exact h2
    · omega
  · have e1 : backE s = s.back ++ [s.wait % 256] := backE_open hf
    rcases h.at_ with ⟨h1, _⟩ | ⟨h1, h2, h3, h4⟩
    · exact absurd h1 hf
    · refine .inr ⟨h1, h2, ?_, ?_⟩
      · show R = 8 * (backE s).length + (s.waiting - 8)
        rw [e1]; simp; omega
      · show V = preN (backE s).reverse (backE s).length + s.wait / 256 * 256 ^ (backE s).length
        rw [e1, List.reverse_append, List.length_append]
        show V = preN (s.wait % 256 :: s.back.reverse) (s.back.length + 1) + s.wait / 256 * 256 ^ (s.back.length + 1)
        rw [preN_cons, h4, Nat.pow_succ, Nat.mul_comm (256 ^ s.back.length) 256, ← Nat.mul_assoc]
        have hd := Nat.div_add_mod s.wait 256
        have : s.wait * 256 ^ s.back.length = (s.wait % 256) * 256 ^ s.back.length + s.wait / 256 * 256 * 256 ^ s.back.length := by
          rw [← Nat.add_mul]; congr 1; omega
        omega

theorem flushE_wrote : ∀ (n : Nat) {e : Sp} {R V : Nat} {s : Es}, Wrote e R V s → Wrote e R V (flushE n s)
  | 0, _, _, _, _, h => h
  | n + 1, e, R, V, s, h => by
    unfold flushE
    split
    · rename_i hc
      exact flushE_wrote n (flushS_wrote h hc)
    · exact h

theorem bitsE_wrote {e : Sp} {R V : Nat} {s : Es} (h : Wrote e R V s) (v n : Nat) : Wrote e (R + n) (V + v * 2 ^ R) (bitsE v n s) := by
  refine flushE_wrote 3 ⟨h.rng, by show s.cnt + n = _; rw [h.cnt]; omega, ?_⟩
  rcases h.at_ with ⟨h1, h2⟩ | ⟨h1, h2, h3, h4⟩
  · exact .inl ⟨h1, by omega⟩
  · refine .inr ⟨h1, h2, by show R + n = 8 * s.back.length + (s.waiting + n); omega, ?_⟩
    show V + v * 2 ^ R = preN s.back.reverse s.back.length + (s.wait + v * 2 ^ s.waiting) * 256 ^ s.back.length
    rw [h4, h3, Nat.pow_add, Nat.add_mul, pow_256, Nat.mul_comm (2 ^ (8 * s.back.length)), ← Nat.mul_assoc]
    omega

end Go.Proofs.Ytdbgcbbfnjoebaa

/- The bytes that a writer tells at the end, as plain numbers: they lie in the span, and end in the bits from the end. Nothing here is of any program. -/
namespace Go.Proofs.Ytdbgcbbfnjoebaa

def openE (s : Es) : Nat := lenN s.rng - 2
def endE (s : Es) : Nat := firstE s.low (openE s)
def carriedEnd (s : Es) : List Nat := if 2147483648 ≤ endE s then carryN s.front.length s.front else s.front

/-- The bytes from the beginning. -/
def baseF (s : Es) (j : Nat) : Nat :=
  if j < s.front.length then byteAt (carriedEnd s) j else if j = s.front.length then endE s / 8388608 % 256 else if j = s.front.length + 1 then endE s / 32768 % 256 else 0
/-- And those from the end, whole ones. -/
def doneF (s : Es) (n j : Nat) : Nat := if j + s.back.length < n then baseF s j else byteAt s.back (n - 1 - j)
def finalF (s : Es) (n j : Nat) : Nat := if j + s.back.length + 1 = n then doneF s n j + s.wait else doneF s n j
def doneL (s : Es) (n : Nat) : List Nat := (List.range n).map (finalF s n)

def numF (f : Nat → Nat) : Nat → Nat
  | 0 => 0
  | n + 1 => 256 * numF f n + f n

theorem byteAt_map (f : Nat → Nat) {n i : Nat} (h : i < n) : byteAt ((List.range n).map f) i = f i := by
  unfold byteAt
  rw [List.getElem?_map, List.getElem?_range h]; rfl

theorem preN_map (f : Nat → Nat) {n : Nat} : ∀ {m : Nat}, m ≤ n → preN ((List.range n).map f) m = numF f m
  | 0, _ => rfl
  | m + 1, h => by
    show 256 * preN ((List.range n).map f) m + byteAt ((List.range n).map f) m = 256 * numF f m + f m
    rw [preN_map f (by omega), byteAt_map f (by omega)]

theorem numF_congr {f g : Nat → Nat} : ∀ {m : Nat}, (∀ i, i < m → f i = g i) → numF f m = numF g m
  | 0, _ => rfl
  | m + 1, h => by
    show 256 * numF f m + f m = 256 * numF g m + g m
    rw [numF_congr (fun i hi => h i (by omega)), h m (by omega)]

theorem numF_byteAt (l : List Nat) : ∀ m, numF (byteAt l) m = preN l m
  | 0 => rfl
  | m + 1 => by
    show 256 * numF (byteAt l) m + byteAt l m = 256 * preN l m + byteAt l m
    rw [numF_byteAt l m]

theorem preN_lt {b : List Nat} (hb : Bytes b) : ∀ m, preN b m < 256 ^ m
  | 0 => by show 0 < 1; decide
  | m + 1 => by
    have h1 := preN_lt hb m
    have h2 := hb m
    show 256 * preN b m + byteAt b m < 256 ^ (m + 1)
    rw [Nat.pow_succ]
    omega

theorem openE_in {s : Es} (h1 : 8388608 < s.rng) (h2 : s.rng ≤ 2147483648) : 22 ≤ openE s ∧ openE s ≤ 30 := by
  have := lenN_in h1 h2
  unfold openE
  omega

theorem endE_in {s : Es} (h1 : 8388608 < s.rng) (h2 : s.rng ≤ 2147483648) : s.low ≤ endE s ∧ endE s + 2 ^ openE s ≤ s.low + s.rng :=
  firstE_in (free_bits (by have := lenN_in h1 h2; omega))

theorem endE_dvd (s : Es) {k : Nat} (h : k ≤ openE s) : endE s % 2 ^ k = 0 :=
  Nat.mod_eq_zero_of_dvd (Nat.dvd_trans (Nat.pow_dvd_pow 2 h) (Nat.dvd_mul_left _ _))

/-- What is asked of the writer where bytes are told. -/
structure Ends (s : Es) (n : Nat) : Prop where
  inv : InvE s
  few : n ≤ 1275
  room : 8 * s.back.length + s.waiting + 31 + 8 * s.front.length ≤ 8 * n + openE s

section
variable {s : Es} {n : Nat}

theorem Ends.open_ (h : Ends s n) : 22 ≤ openE s ∧ openE s ≤ 30 := openE_in h.inv.wide h.inv.pre.rhigh
theorem Ends.deep (h : Ends s n) : s.front.length + s.back.length + 1 ≤ n ∧ (openE s = 22 → s.front.length + s.back.length + 2 ≤ n) := by
  have := h.open_
  have := h.room
  omega

theorem Ends.not_full (h : Ends s n) : ¬ 1275 ≤ s.front.length + s.back.length := by
  have := h.deep
  have := h.few
  omega

theorem Ends.top (h : Ends s n) : endE s < 4294967296 := by
  have h1 := endE_in h.inv.wide h.inv.pre.rhigh
  have h2 := h.inv.pre.low
  have h3 := Nat.two_pow_pos (openE s)
  omega

theorem Ends.carry (h : Ends s n) (hc : 2147483648 ≤ endE s) : preN s.front s.front.length + 1 < 256 ^ s.front.length := by
  have h1 := endE_in h.inv.wide h.inv.pre.rhigh
  have h3 := Nat.two_pow_pos (openE s)
  rcases h.inv.pre.carry with h4 | h4
  · exact absurd h4 h.not_full
  · generalize 256 ^ s.front.length = q at *
    generalize preN s.front s.front.length = x at *
    omega

theorem carriedEnd_len (s : Es) : (carriedEnd s).length = s.front.length := by
  unfold carriedEnd
  split
  · exact carryN_len _ _
  · rfl

theorem carriedEnd_bytes {s : Es} (h : Bytes s.front) : Bytes (carriedEnd s) := by
  unfold carriedEnd
  split
  · exact carryN_bytes _ h
  · exact h

theorem Ends.base0 (h : Ends s n) : numF (baseF s) s.front.length = preN s.front s.front.length + endE s / 2147483648 := by
  have h1 := h.top
  rw [numF_congr (g := byteAt (carriedEnd s)) (fun i hi => by unfold baseF; rw [if_pos hi]), numF_byteAt]
  unfold carriedEnd
  split
  · rename_i hc
    rw [carryN_pre _ (Nat.le_refl _) (h.carry hc)]
    omega
  · omega

theorem Ends.base1 (h : Ends s n) (hm : 23 ≤ openE s) : numF (baseF s) (s.front.length + 1) * 2147483648 = (preN s.front s.front.length * 2147483648 + endE s) * 256 := by
  have h0 := h.base0
  have h1 : baseF s s.front.length = endE s / 8388608 % 256 := by unfold baseF; rw [if_neg (by omega), if_pos rfl]
  have h2 : endE s % 8388608 = 0 := endE_dvd s (k := 23) hm
  show (256 * numF (baseF s) s.front.length + baseF s s.front.length) * 2147483648 = _
  rw [h0, h1]
  generalize preN s.front s.front.length = x
  omega

theorem Ends.base2 (h : Ends s n) : numF (baseF s) (s.front.length + 2) * 2147483648 = (preN s.front s.front.length * 2147483648 + endE s) * 65536 := by
  have h0 := h.base0
  have h1 : baseF s s.front.length = endE s / 8388608 % 256 := by unfold baseF; rw [if_neg (by omega), if_pos rfl]
  have h3 : baseF s (s.front.length + 1) = endE s / 32768 % 256 := by unfold baseF; rw [if_neg (by omega), if_neg (by omega), if_pos rfl]
  have h2 : endE s % 32768 = 0 := endE_dvd s (k := 15) (by have := h.open_; omega)
  show (256 * (256 * numF (baseF s) s.front.length + baseF s s.front.length) + baseF s (s.front.length + 1)) * 2147483648 = _
  rw [h0, h1, h3]
  generalize preN s.front s.front.length = x
  omega

theorem Ends.base3 (h : Ends s n) : ∀ j, numF (baseF s) (s.front.length + 2 + j) * 2147483648 = (preN s.front s.front.length * 2147483648 + endE s) * 256 ^ (2 + j)
  | 0 => h.base2
  | j + 1 => by
    have ih := h.base3 j
    have h1 : baseF s (s.front.length + 2 + j) = 0 := by unfold baseF; rw [if_neg (by omega), if_neg (by omega), if_neg (by omega)]
    show (256 * numF (baseF s) (s.front.length + 2 + j) + baseF s (s.front.length + 2 + j)) * 2147483648 = _
    rw [h1, Nat.add_zero, Nat.mul_assoc, ih, show 2 + (j + 1) = (2 + j) + 1 by omega, Nat.pow_succ, Nat.mul_comm 256, Nat.mul_assoc]

theorem Ends.base (h : Ends s n) {d : Nat} (h1 : 1 ≤ d) (h2 : openE s = 22 → 2 ≤ d) : numF (baseF s) (s.front.length + d) * 2147483648 = (preN s.front s.front.length * 2147483648 + endE s) * 256 ^ d := by
  have := h.open_
  by_cases hd : d = 1
  · subst hd
    exact h.base1 (by omega)
  · obtain ⟨j, rfl⟩ : ∃ j, d = 2 + j := ⟨d - 2, by omega⟩
    have := h.base3 j
    rw [Nat.add_assoc] at this
    exact this

theorem byteAt_rev (l : List Nat) {j : Nat} (h : j < l.length) : byteAt l.reverse j = byteAt l (l.length - 1 - j) := by
  unfold byteAt
  rw [List.getElem?_reverse h]

theorem Ends.final0 (h : Ends s n) : numF (finalF s n) (n - s.back.length) = numF (baseF s) (n - s.back.length) + s.wait := by
  have hd := h.deep
  obtain ⟨t, ht⟩ : ∃ t, n - s.back.length = t + 1 := ⟨n - s.back.length - 1, by omega⟩
  rw [ht]
  have e1 : finalF s n t = baseF s t + s.wait := by unfold finalF doneF; rw [if_pos (by omega), if_pos (by omega)]
  have e2 : numF (finalF s n) t = numF (baseF s) t := numF_congr fun i hi => by unfold finalF doneF; rw [if_neg (by omega), if_pos (by omega)]
  show 256 * numF (finalF s n) t + finalF s n t = 256 * numF (baseF s) t + baseF s t + s.wait
  rw [e1, e2]
  omega

theorem Ends.final1 (h : Ends s n) : ∀ j, j ≤ s.back.length → numF (finalF s n) (n - s.back.length + j) = numF (finalF s n) (n - s.back.length) * 256 ^ j + preN s.back.reverse j
  | 0, _ => by show numF (finalF s n) (n - s.back.length) = numF (finalF s n) (n - s.back.length) * 256 ^ 0 + 0; simp
  | j + 1, hj => by
    have hd := h.deep
    have ih := h.final1 j (by omega)
    have e1 : finalF s n (n - s.back.length + j) = byteAt s.back.reverse j := by
      rw [byteAt_rev s.back (by omega)]
      unfold finalF doneF
      rw [if_neg (by omega), if_neg (by omega)]
      congr 1
      omega
    show 256 * numF (finalF s n) (n - s.back.length + j) + finalF s n (n - s.back.length + j) = _ + (256 * preN s.back.reverse j + byteAt s.back.reverse j)
    rw [e1, ih, Nat.pow_succ, ← Nat.mul_assoc]
    generalize numF (finalF s n) (n - s.back.length) * 256 ^ j = x
    omega

theorem Ends.num (h : Ends s n) : numN (doneL s n) = numF (baseF s) (n - s.back.length) * 256 ^ s.back.length + (preN s.back.reverse s.back.length + s.wait * 256 ^ s.back.length) := by
  have hd := h.deep
  have h1 := h.final1 s.back.length (Nat.le_refl _)
  rw [show n - s.back.length + s.back.length = n by omega, h.final0, Nat.add_mul] at h1
  unfold numN
  have hl : (doneL s n).length = n := by simp [doneL]
  rw [hl, doneL, preN_map _ (Nat.le_refl n), h1]
  omega

/-! ### What waits fits into its byte -/
theorem Ends.mod_last (h : Ends s n) : baseF s (n - s.back.length - 1) % 2 ^ s.waiting = 0 := by
  have hd := h.deep
  have ho := h.open_
  have hr := h.room
  have hf := h.inv.few
  have h256 : ∀ x, x % 2 ^ s.waiting = 0 → x % 256 % 2 ^ s.waiting = 0 := fun x hx => by
    rw [show (256 : Nat) = 2 ^ 8 by decide, Nat.mod_mod_of_dvd _ (Nat.pow_dvd_pow 2 (by omega))]
    exact hx
  have hdiv : ∀ k, k + s.waiting ≤ openE s → endE s / 2 ^ k % 2 ^ s.waiting = 0 := fun k hk => by
    have h1 := endE_dvd s (k := k + s.waiting) hk
    have h2 : endE s / 2 ^ k % 2 ^ s.waiting = endE s % 2 ^ (k + s.waiting) / 2 ^ k := by
      rw [Nat.pow_add, Nat.mod_mul_right_div_self]
    rw [h2, h1, Nat.zero_div]
  unfold baseF
  rw [if_neg (by omega)]
  split
  · exact h256 _ (hdiv 23 (by omega))
  · split
    · exact h256 _ (hdiv 15 (by omega))
    · exact Nat.zero_mod _

theorem fits_byte {x y w : Nat} (h1 : x < 256) (h2 : x % 2 ^ w = 0) (h3 : y < 2 ^ w) (h4 : w < 8) : x + y < 256 := by
  have h8 : w = 0 ∨ w = 1 ∨ w = 2 ∨ w = 3 ∨ w = 4 ∨ w = 5 ∨ w = 6 ∨ w = 7 := by omega
  rcases h8 with rfl | rfl | rfl | rfl | rfl | rfl | rfl | rfl <;> omega

theorem baseF_lt (h : Ends s n) (j : Nat) : baseF s j < 256 := by
  unfold baseF
  split
  · exact carriedEnd_bytes h.inv.pre.front j
  · split
    · omega
    · split
      · omega
      · decide

theorem doneF_lt (h : Ends s n) (j : Nat) : doneF s n j < 256 := by
  unfold doneF
  split
  · exact baseF_lt h j
  · exact h.inv.pre.back _

theorem finalF_lt (h : Ends s n) (j : Nat) : finalF s n j < 256 := by
  unfold finalF
  split
  · rename_i hj
    have e : doneF s n j = baseF s j := if_pos (by omega)
    rw [e]
    have h1 := h.mod_last
    rw [show n - s.back.length - 1 = j by omega] at h1
    exact fits_byte (baseF_lt h j) h1 h.inv.pre.wait h.inv.few
  · exact doneF_lt h j

theorem doneL_bytes (h : Ends s n) : Bytes (doneL s n) := fun i => by
  rcases Nat.lt_or_ge i n with hi | hi
  · rw [doneL, byteAt_map _ hi]; exact finalF_lt h i
  · unfold byteAt
    rw [List.getElem?_eq_none (by simp [doneL]; omega)]; decide

theorem doneL_len (s : Es) (n : Nat) : (doneL s n).length = n := by simp [doneL]
end

/-! ### They lie in the span -/
theorem ends_of {e : Sp} {R V : Nat} {s : Es} {n : Nat} (hi : InvE s) (hw : Wrote e R V s) (hs : SpOk e) (hn : n ≤ 1275) (ht : tellE e R ≤ 8 * (n : Int)) :
    Ends s n ∧ e.k = 3 + s.front.length ∧ e.low = preN s.front s.front.length * 2147483648 + s.low ∧ R = 8 * s.back.length + s.waiting ∧ V = preN s.back.reverse s.back.length + s.wait * 256 ^ s.back.length := by
  have hl := lenN_in hs.low hs.high
  unfold tellE at ht
  rcases hw.at_ with ⟨_, h2⟩ | ⟨h1, h2, h3, h4⟩
  · omega
  · refine ⟨⟨hi, hn, ?_⟩, h1, h2, h3, h4⟩
    unfold openE
    rw [hw.rng]
    omega

theorem pow_le_of {a b : Nat} (h : a ≤ b) : 2 ^ a ≤ 2 ^ b := Nat.pow_le_pow_right (by decide) h

theorem done_back {e : Sp} {R V : Nat} {s : Es} {n : Nat} (hi : InvE s) (hw : Wrote e R V s) (hs : SpOk e) (hn : n ≤ 1275) (ht : tellE e R ≤ 8 * (n : Int)) :
    Bytes (doneL s n) ∧ In (doneL s n) e ∧ bitsN (doneL s n) 0 R = V := by
  obtain ⟨he, h1, h2, h3, h4⟩ := ends_of hi hw hs hn ht
  have hb := doneL_bytes he
  have hl := doneL_len s n
  have ho := he.open_
  have hd := he.deep
  have hm : lenN e.rng - 2 = openE s := by unfold openE; rw [hw.rng]
  obtain ⟨d1, d2⟩ := done_in hb hs (R := R) (by rw [hl]; exact ht)
  rw [hm, hl] at d1 d2
  obtain ⟨Q, hQ⟩ : ∃ Q, 8 * n + 1 + openE s - 8 * (1 + e.k) = Q := ⟨_, rfl⟩
  rw [hQ] at d2
  have hRQ : R ≤ Q := by omega
  -- the highest bits
  have hE : firstE e.low (openE s) = preN s.front s.front.length * 2147483648 + endE s := by
    unfold endE firstE
    have hp := Nat.two_pow_pos (openE s)
    have e31 : (2147483648 : Nat) = 2 ^ (31 - openE s) * 2 ^ openE s := by
      rw [← Nat.pow_add, show 31 - openE s + openE s = 31 by omega]
    rw [h2]
    have e2 : preN s.front s.front.length * 2147483648 + s.low + 2 ^ openE s - 1 = (s.low + 2 ^ openE s - 1) + preN s.front s.front.length * 2 ^ (31 - openE s) * 2 ^ openE s := by
      rw [Nat.mul_assoc, ← e31]; omega
    rw [e2, Nat.add_mul_div_right _ _ hp, Nat.add_mul, Nat.mul_assoc (preN s.front s.front.length), ← e31]
    omega
  have hY : firstE e.low (openE s) = firstE e.low (openE s) / 2 ^ openE s * 2 ^ openE s := by
    unfold firstE
    rw [Nat.mul_div_cancel _ (Nat.two_pow_pos _)]
  obtain ⟨Y, hYe⟩ : ∃ Y, firstE e.low (openE s) / 2 ^ openE s = Y := ⟨_, rfl⟩
  rw [hYe] at hY d2
  have hbase := he.base (d := n - s.back.length - s.front.length) (by omega) (fun h => by have := hd.2 h; omega)
  rw [show s.front.length + (n - s.back.length - s.front.length) = n - s.back.length by omega, ← hE, hY] at hbase
  have hA : numF (baseF s) (n - s.back.length) * 256 ^ s.back.length = Y * 2 ^ Q := by
    have e1 : numF (baseF s) (n - s.back.length) * 256 ^ s.back.length * 2147483648 = Y * 2 ^ Q * 2147483648 := by
      rw [Nat.mul_assoc, Nat.mul_comm (256 ^ _), ← Nat.mul_assoc, hbase, Nat.mul_assoc, Nat.mul_assoc, Nat.mul_assoc]
      congr 1
      rw [pow_256, pow_256, show (2147483648 : Nat) = 2 ^ 31 by decide, ← Nat.pow_add, ← Nat.pow_add, ← Nat.pow_add]
      congr 1
      omega
    exact Nat.eq_of_mul_eq_mul_right (by decide) e1
  have hV : V < 2 ^ R := by
    have hrev : Bytes s.back.reverse := fun i => by
      rcases Nat.lt_or_ge i s.back.length with hi2 | hi2
      · rw [byteAt_rev _ hi2]; exact hi.pre.back _
      · unfold byteAt; rw [List.getElem?_eq_none (by simpa using hi2)]; decide
    have p1 := preN_lt hrev s.back.length
    have p2 := hi.pre.wait
    rw [h4, h3, Nat.pow_add, ← pow_256]
    have p3 : (s.wait + 1) * 256 ^ s.back.length ≤ 2 ^ s.waiting * 256 ^ s.back.length := Nat.mul_le_mul_right _ p2
    rw [Nat.add_mul, Nat.one_mul] at p3
    rw [Nat.mul_comm (256 ^ s.back.length) (2 ^ s.waiting)]
    omega
  have hnum := he.num
  rw [hA, ← h4] at hnum
  have hVQ : V < 2 ^ Q := Nat.lt_of_lt_of_le hV (pow_le_of hRQ)
  refine ⟨hb, d2 ?_, ?_⟩
  · rw [hnum, Nat.add_comm, Nat.add_mul_div_right _ _ (Nat.two_pow_pos Q), Nat.div_eq_of_lt hVQ, Nat.zero_add]
  · rw [raws_of_num hb, hnum]
    obtain ⟨c, rfl⟩ : ∃ c, Q = c + R := ⟨Q - R, by omega⟩
    rw [Nat.pow_add, ← Nat.mul_assoc, Nat.add_comm, Nat.add_mul_mod_self_right, Nat.mod_eq_of_lt hV]

end Go.Proofs.Ytdbgcbbfnjoebaa

/- Numbers that are mostly small, as plain numbers, continued: where the parts have come down to one each there is still room for it: whatever the first part and the decay are. Nothing here is of any program. -/
namespace Go.Proofs.Ytdbgcbbfnjoebaa

/-- What is left of a part, less one, at the next number. -/
def nxtA (d a : Nat) : Nat := a * d / 16384

/-- All that the parts take from there on, two a number, till they have come down to one. -/
def sumA (d : Nat) : Nat → Nat → Nat
  | 0, _ => 0
  | f + 1, a => if a = 0 then 0 else 2 * (a + 1) + sumA d f (nxtA d a)

theorem nxtA_lt {d a : Nat} (hd : d < 16384) (ha : 0 < a) : nxtA d a < a := by
  unfold nxtA
  rw [Nat.div_lt_iff_lt_mul (by decide)]
  exact Nat.mul_lt_mul_of_pos_left hd ha

theorem nxtA_mono {d e a b : Nat} (hd : d ≤ e) (ha : a ≤ b) : nxtA d a ≤ nxtA e b := Nat.div_le_div_right (Nat.mul_le_mul ha hd)

theorem sumA_mono {d e : Nat} (hd : d ≤ e) : ∀ (f : Nat) {a b : Nat}, a ≤ b → sumA d f a ≤ sumA e f b
  | 0, _, _, _ => Nat.le_refl _
  | f + 1, a, b, h => by
    unfold sumA
    by_cases h0 : a = 0
    · rw [if_pos h0]; exact Nat.zero_le _
    · rw [if_neg h0, if_neg (by omega)]
      have := sumA_mono hd f (nxtA_mono hd h)
      omega

theorem sumA_full {d : Nat} (hd : d < 16384) : ∀ (f a : Nat), a ≤ f → ∀ g, sumA d g a ≤ sumA d f a
  | _, _, _, 0 => Nat.zero_le _
  | 0, a, h, g + 1 => by
    obtain rfl : a = 0 := by omega
    unfold sumA
    rw [if_pos rfl]
    exact Nat.zero_le _
  | f + 1, a, h, g + 1 => by
    unfold sumA
    by_cases h0 : a = 0
    · rw [if_pos h0, if_pos h0]; exact Nat.le_refl _
    · rw [if_neg h0, if_neg h0]
      have := sumA_full hd f (nxtA d a) (by have := nxtA_lt (d := d) (a := a) hd (by omega); omega) g
      omega

/-! ### A few ranges of decays, each tried at its ends -/
structure Rg where
  d1 : Nat
  d2 : Nat
  A : Nat
  n : Nat

def ranges : List Rg := [⟨0, 8738, 0, 15⟩, ⟨8739, 9615, 1, 15⟩, ⟨9616, 10239, 13, 13⟩, ⟨10240, 10797, 10, 15⟩, ⟨10798, 10922, 7, 16⟩, ⟨10923, 11059, 47, 12⟩, ⟨11060, 11342, 29, 14⟩, ⟨11343, 11613, 12, 17⟩, ⟨11614, 11702, 9, 18⟩, ⟨11703, 11762, 40, 15⟩, ⟨11763, 11955, 38, 15⟩, ⟨11956, 12163, 48, 15⟩, ⟨12164, 12287, 14, 20⟩, ⟨12288, 12336, 86, 14⟩, ⟨12337, 12483, 50, 16⟩, ⟨12484, 12705, 21, 20⟩, ⟨12706, 12873, 16, 22⟩, ⟨12874, 13107, 18, 23⟩, ⟨13108, 13311, 24, 23⟩, ⟨13312, 13492, 18, 26⟩, ⟨13493, 13653, 14, 28⟩, ⟨13654, 13926, 25, 28⟩, ⟨13927, 14199, 18, 33⟩, ⟨14200, 14563, 23, 37⟩, ⟨14564, 14894, 14, 48⟩, ⟨14895, 15291, 20, 58⟩, ⟨15292, 15820, 14, 106⟩, ⟨15821, 16000, 5, 129⟩]

/-- Within n steps x comes down to A. -/
def reachB (d A : Nat) : Nat → Nat → Bool
  | 0, x => Nat.ble x A
  | n + 1, x => Nat.ble x A || reachB d A n (nxtA d x)

def tryB (r : Rg) (a : Nat) : Bool :=
  Nat.ble ((16384 - r.d1) * sumA r.d2 100 a) (32768 * a + 30 * (16384 - r.d1)) &&
  (Nat.blt a (nxtA r.d1 (r.A + 1)) || Nat.ble ((16384 - r.d1) * sumA r.d2 100 a + 2 * r.n * (16384 - r.d1)) (32768 * a + 30 * (16384 - r.d1)))

def rangeB (r : Rg) : Bool := reachB r.d2 r.A r.n (32480 * (16384 - r.d1) / 32768) && Nat.ble r.A 100 && (List.range (r.A + 1)).all (tryB r)

def coverB : Nat → List Rg → Bool
  | s, [] => Nat.ble 16001 s
  | s, r :: l => Nat.ble r.d1 s && coverB (r.d2 + 1) l

theorem ranges_ok : ranges.all rangeB = true := by decide +kernel
theorem ranges_cover : coverB 0 ranges = true := by decide +kernel

theorem cover_out : ∀ (l : List Rg) (s d : Nat), coverB s l = true → s ≤ d → d ≤ 16000 → ∃ r ∈ l, r.d1 ≤ d ∧ d ≤ r.d2
  | [], s, d, h, h1, h2 => by
    have := Nat.le_of_ble_eq_true h
    omega
  | r :: l, s, d, h, h1, h2 => by
    unfold coverB at h
    rw [Bool.and_eq_true] at h
    have h3 := Nat.le_of_ble_eq_true h.1
    rcases Nat.lt_or_ge r.d2 d with h4 | h4
    · obtain ⟨q, hq, h5⟩ := cover_out l _ d h.2 h4 h2
      exact ⟨q, List.mem_cons_of_mem _ hq, h5⟩
    · exact ⟨r, List.mem_cons_self, by omega, h4⟩

/-- A bound at the greatest of the factors holds at a smaller one. -/
theorem less_factor {D D1 S S' m c k : Nat} (hD : D ≤ D1) (hS : S ≤ S') (h : D1 * S' + m * D1 ≤ k + c * D1) : D * S + m * D ≤ k + c * D := by
  have e1 : D1 * S' + m * D1 = (S' + m) * D1 := by rw [Nat.add_mul, Nat.mul_comm D1]
  have e2 : D * S + m * D = (S + m) * D := by rw [Nat.add_mul, Nat.mul_comm D]
  rw [e1] at h
  rw [e2]
  rcases Nat.lt_or_ge (S' + m) c with hc | hc
  · have : (S + m) * D ≤ c * D := Nat.mul_le_mul_right _ (by omega)
    omega
  · obtain ⟨E, hE⟩ : ∃ E, S' + m = E + c := ⟨S' + m - c, by omega⟩
    rw [hE, Nat.add_mul] at h
    have h1 : (S + m) * D ≤ (E + c) * D := Nat.mul_le_mul_right _ (by omega)
    have h2 : E * D ≤ E * D1 := Nat.mul_le_mul_left _ hD
    rw [Nat.add_mul E c] at h1
    omega

theorem step_factor {d a : Nat} (hd : d ≤ 16384) : 2 * ((16384 - d) * a) + 32768 * nxtA d a ≤ 32768 * a := by
  have h1 : nxtA d a * 16384 ≤ a * d := Nat.div_mul_le_self _ _
  have h2 : (16384 - d) * a + a * d = 16384 * a := by rw [Nat.mul_comm a d, ← Nat.add_mul]; congr 1; omega
  generalize (16384 - d) * a = p at *
  generalize a * d = q at *
  omega

theorem range_in {r : Rg} (hr : rangeB r = true) {d : Nat} (h1 : r.d1 ≤ d) (h2 : d ≤ r.d2) (hd : d ≤ 16000) : ∀ (n a x f : Nat), a ≤ x → reachB r.d2 r.A n x = true → (r.A < a ∨ nxtA r.d1 (r.A + 1) ≤ a) → a ≤ f →
    (16384 - d) * sumA d f a + 2 * r.n * (16384 - d) ≤ 32768 * a + (30 + 2 * n) * (16384 - d) := by
  unfold rangeB at hr
  rw [Bool.and_eq_true, Bool.and_eq_true, List.all_eq_true] at hr
  obtain ⟨⟨_, hA⟩, hall⟩ := hr
  have hA := Nat.le_of_ble_eq_true hA
  have small : ∀ a f, a ≤ r.A → nxtA r.d1 (r.A + 1) ≤ a → (16384 - d) * sumA d f a + 2 * r.n * (16384 - d) ≤ 32768 * a + 30 * (16384 - d) := fun a f ha hlo => by
    have h3 := hall a (List.mem_range.2 (by omega))
    unfold tryB at h3
    rw [Bool.and_eq_true, Bool.or_eq_true] at h3
    rcases h3.2 with h4 | h4
    · have h5 : a < nxtA r.d1 (r.A + 1) := Nat.le_of_ble_eq_true h4
      omega
    · have h4 := Nat.le_of_ble_eq_true h4
      have hs : sumA d f a ≤ sumA r.d2 100 a := Nat.le_trans (sumA_full (by omega) 100 a (by omega) f) (sumA_mono h2 100 (Nat.le_refl a))
      exact less_factor (by omega) hs h4
  intro n
  induction n with
  | zero =>
    intro a x f hax hre hlo hf
    have h3 : x ≤ r.A := Nat.le_of_ble_eq_true hre
    exact small a f (by omega) (by omega)
  | succ n ih =>
    intro a x f hax hre hlo hf
    rcases Nat.lt_or_ge r.A a with h3 | h3
    · unfold reachB at hre
      rw [Bool.or_eq_true] at hre
      rcases hre with hre | hre
      · have := Nat.le_of_ble_eq_true hre
        omega
      · obtain ⟨g, rfl⟩ : ∃ g, f = g + 1 := ⟨f - 1, by omega⟩
        have hlt := nxtA_lt (d := d) (a := a) (by omega) (by omega)
        have h4 := ih (nxtA d a) (nxtA r.d2 x) g (nxtA_mono h2 hax) hre (.inr (nxtA_mono h1 h3)) (by omega)
        have h5 := step_factor (d := d) (a := a) (by omega)
        have e : sumA d (g + 1) a = 2 * (a + 1) + sumA d g (nxtA d a) := by
          show (if a = 0 then 0 else _) = _
          rw [if_neg (by omega)]
        rw [e, Nat.mul_add, Nat.mul_left_comm, Nat.mul_add, Nat.mul_one]
        have e2 : (30 + 2 * (n + 1)) * (16384 - d) = (30 + 2 * n) * (16384 - d) + 2 * (16384 - d) := by rw [← Nat.add_mul]; congr 1
        rw [e2]
        generalize (16384 - d) * sumA d g (nxtA d a) = p at *
        generalize (16384 - d) * a = q at *
        omega
    · have h4 := small a f h3 (by omega)
      have e2 : (30 + 2 * (n + 1)) * (16384 - d) = 30 * (16384 - d) + 2 * (n + 1) * (16384 - d) := by rw [← Nat.add_mul]
      rw [e2]
      omega

/-- What the parts take in all. -/
theorem sumA_le {d a f : Nat} (hd : d ≤ 16000) (ha : a ≤ 32480 * (16384 - d) / 32768) (hf : a ≤ f) : (16384 - d) * sumA d f a ≤ 32768 * a + 30 * (16384 - d) := by
  obtain ⟨r, hm, h1, h2⟩ := cover_out ranges 0 d ranges_cover (Nat.zero_le d) hd
  have hr := List.all_eq_true.1 ranges_ok r hm
  have hx : a ≤ 32480 * (16384 - r.d1) / 32768 := Nat.le_trans ha (Nat.div_le_div_right (Nat.mul_le_mul_left _ (by omega)))
  have hre := hr
  unfold rangeB at hre
  rw [Bool.and_eq_true, Bool.and_eq_true, List.all_eq_true] at hre
  obtain ⟨⟨hre, hA⟩, hall⟩ := hre
  have hA := Nat.le_of_ble_eq_true hA
  rcases Nat.lt_or_ge r.A a with h3 | h3
  · have := range_in hr h1 h2 hd r.n a _ f hx hre (.inl h3) hf
    have e : (30 + 2 * r.n) * (16384 - d) = 30 * (16384 - d) + 2 * r.n * (16384 - d) := by rw [← Nat.add_mul]
    rw [e] at this
    omega
  · have h4 := hall a (List.mem_range.2 (by omega))
    unfold tryB at h4
    rw [Bool.and_eq_true] at h4
    have h5 := Nat.le_of_ble_eq_true h4.1
    have hs : sumA d f a ≤ sumA r.d2 100 a := Nat.le_trans (sumA_full (by omega) 100 a (by omega) f) (sumA_mono h2 100 (Nat.le_refl a))
    have := less_factor (D := 16384 - d) (D1 := 16384 - r.d1) (m := 0) (c := 30) (k := 32768 * a) (by omega) hs (by rw [Nat.zero_mul]; exact h5)
    rw [Nat.zero_mul] at this
    exact this

/-! ### Where the parts of numbers lie -/
theorem lapSz_next (fs decay i : Nat) : lapSz fs decay (i + 1) - 1 = nxtA decay (lapSz fs decay i - 1) := by
  rw [lapSz_succ]
  unfold nxtA
  have e : (2 * lapSz fs decay i - 2) * decay / 32768 = (lapSz fs decay i - 1) * decay / 16384 := by
    rw [show 2 * lapSz fs decay i - 2 = 2 * (lapSz fs decay i - 1) by omega, Nat.mul_assoc, show (32768 : Nat) = 2 * 16384 by decide, Nat.mul_div_mul_left _ _ (by decide)]
  rw [e]
  omega

/-- As long as parts are of more than one, what was taken and what will be is what there was at first. -/
theorem lapLo_sum (fs decay : Nat) : ∀ (i f : Nat), (∀ j, j < i → 1 < lapSz fs decay j) → lapLo fs decay i + sumA decay f (lapSz fs decay i - 1) = fs + sumA decay (f + i) (lapSz fs decay 0 - 1)
  | 0, f, _ => rfl
  | i + 1, f, h => by
    have ih := lapLo_sum fs decay i (f + 1) (fun j hj => h j (by omega))
    have h1 := h i (by omega)
    have e : sumA decay (f + 1) (lapSz fs decay i - 1) = 2 * (lapSz fs decay i - 1 + 1) + sumA decay f (nxtA decay (lapSz fs decay i - 1)) := by
      show (if lapSz fs decay i - 1 = 0 then 0 else _) = _
      rw [if_neg (by omega)]
    rw [e, ← lapSz_next] at ih
    rw [lapLo_succ, show f + (i + 1) = f + 1 + i by omega, ← ih]
    omega

theorem lap_total {fs decay : Nat} (h1 : 256 ≤ fs) (h2 : fs ≤ 28000) (h3 : decay ≤ 16000) (f : Nat) : fs + sumA decay f (lapSz fs decay 0 - 1) ≤ 32766 := by
  have h0 : lapSz fs decay 0 - 1 = (32736 - fs) * (16384 - decay) / 32768 := by rw [lapSz_zero]; omega
  rw [h0]
  have hd : (32736 - fs) * (16384 - decay) ≤ 32480 * (16384 - decay) := Nat.mul_le_mul_right _ (by omega)
  have h4 := sumA_le (d := decay) (a := (32736 - fs) * (16384 - decay) / 32768) (f := (32736 - fs) * (16384 - decay) / 32768) h3 (Nat.div_le_div_right hd) (Nat.le_refl _)
  have h5 := sumA_full (d := decay) (by omega) _ _ (Nat.le_refl ((32736 - fs) * (16384 - decay) / 32768)) f
  have h6 := Nat.div_mul_le_self ((32736 - fs) * (16384 - decay)) 32768
  generalize (32736 - fs) * (16384 - decay) / 32768 = a at *
  have h7 : (16384 - decay) * sumA decay a a ≤ (16384 - decay) * (32736 - fs + 30) := by
    rw [Nat.mul_add, Nat.mul_comm (16384 - decay) (32736 - fs), Nat.mul_comm (16384 - decay) 30]
    omega
  have h8 := Nat.le_of_mul_le_mul_left h7 (by omega)
  omega

/-- There is room for the parts of either number, and for one more where they have come down to one. -/
theorem lap_room {fs decay i : Nat} (h1 : 256 ≤ fs) (h2 : fs ≤ 28000) (h3 : decay ≤ 16000) (h : ∀ j, j < i → 1 < lapSz fs decay j) :
    lapLo fs decay i ≤ 32766 ∧ (1 < lapSz fs decay i → lapLo fs decay i + 2 * lapSz fs decay i ≤ 32766) := by
  have e := lapLo_sum fs decay i 1 h
  have t := lap_total h1 h2 h3 (1 + i)
  refine ⟨by omega, fun hs => ?_⟩
  have e2 : sumA decay 1 (lapSz fs decay i - 1) = 2 * (lapSz fs decay i - 1 + 1) + 0 := by
    show (if lapSz fs decay i - 1 = 0 then 0 else _) = _
    rw [if_neg (by omega)]
    rfl
  omega

/-! ### The number that is written in place of another -/
def sgN (v : Int) : Bool := decide (v < 0)
def lapW (fs decay : Nat) (v : Int) : Int := sg (sgN v) (nearN fs decay (sgN v) v.natAbs)

theorem sg_natAbs (neg : Bool) (n : Nat) : (sg neg n).natAbs = n := by
  unfold sg
  cases neg
  · simp
  · simp

/-- The part of a number but 0, by its size and side. -/
theorem lapFl_sg {fs decay n : Nat} (neg : Bool) (hn : 1 ≤ n) : lapFl fs decay (sg neg n) = lapLo fs decay (n - 1) + (if neg then 0 else lapSz fs decay (n - 1)) ∧ lapFh fs decay (sg neg n) = lapFl fs decay (sg neg n) + lapSz fs decay (n - 1) := by
  have h0 : sg neg n ≠ 0 := fun e => by have := sg_natAbs neg n; rw [e] at this; simp at this; omega
  have ha := sg_natAbs neg n
  refine ⟨?_, by unfold lapFh; rw [if_neg h0, ha]⟩
  unfold lapFl
  rw [if_neg h0, ha]
  cases neg
  · rw [if_neg (by show ¬ (n : Int) < 0; omega)]; rfl
  · rw [if_pos (by show -(n : Int) < 0; omega)]; rfl

/-- Where the steps have ended at k (of size z), and x more numbers of one part each were gone by. -/
theorem lap_ended {fs decay : Nat} (h1 : 256 ≤ fs) (h2 : fs ≤ 28000) (h3 : decay ≤ 16000) (neg : Bool) {k z a : Nat} (hk : 1 ≤ k) (hkz : k ≤ z) (hza : z ≤ a) (hz : z = a ∨ 32768 ≤ z) (hall : ∀ j, j < k - 1 → 1 < lapSz fs decay j) (hend : lapSz fs decay (k - 1) = 1 ∨ k = z)
    {l x : Nat} (hl : l = lapLo fs decay (k - 1) + (if neg then 0 else lapSz fs decay (k - 1))) (hx : x = min (z - k) ((32767 - l) / 2)) :
    nearN fs decay neg a = k + x ∧ lapFl fs decay (sg neg (k + x)) = l + 2 * x ∧ lapFh fs decay (sg neg (k + x)) = l + 2 * x + lapSz fs decay (k - 1) ∧ l + 2 * x + lapSz fs decay (k - 1) ≤ 32768 := by
  obtain ⟨r1, r2⟩ := lap_room h1 h2 h3 hall
  have hp := lapSz_pos fs decay (k - 1)
  have hl2 : l ≤ 32767 ∧ l + lapSz fs decay (k - 1) ≤ 32768 := by
    rw [hl]
    cases neg
    · simp only [Bool.false_eq_true, if_false]; by_cases hs : 1 < lapSz fs decay (k - 1)
      · have := r2 hs; omega
      · omega
    · simp only [if_true]; by_cases hs : 1 < lapSz fs decay (k - 1)
      · have := r2 hs; omega
      · omega
  by_cases h1s : lapSz fs decay (k - 1) = 1
  · have hseq := lapSeq_one fs decay (k - 1) h1s
    have hfl : ∀ y, lapFl fs decay (sg neg (k + y)) = l + 2 * y ∧ lapFh fs decay (sg neg (k + y)) = l + 2 * y + 1 := fun y => by
      obtain ⟨g1, g2⟩ := hseq y
      obtain ⟨f1, f2⟩ := lapFl_sg (fs := fs) (decay := decay) (n := k + y) neg (by omega)
      rw [show k + y - 1 = k - 1 + y by omega, g1, g2] at f1
      rw [show k + y - 1 = k - 1 + y by omega, g1, f1] at f2
      rw [h1s] at hl
      refine ⟨by rw [f1, hl]; omega, by rw [f2, hl]; omega⟩
    have hw : lapFl fs decay (sg neg (k + x)) < 32768 := by rw [(hfl x).1]; omega
    refine ⟨?_, (hfl x).1, by rw [(hfl x).2, h1s], by rw [h1s]; omega⟩
    refine nearN_is (by omega) neg hw (by omega) ?_
    have hsmall : 2 * (k + x) ≤ 32768 := by
      have hb := lapLo_add fs decay 0 (k + x - 1)
      rw [Nat.zero_add, lapLo_zero] at hb
      obtain ⟨f1, _⟩ := lapFl_sg (fs := fs) (decay := decay) (n := k + x) neg (by omega)
      omega
    by_cases hxz : x = z - k
    · rcases hz with hz | hz
      · left; omega
      · omega
    · right
      rw [Nat.add_assoc, (hfl (x + 1)).1]
      omega
  · have hkz2 : k = z := by
      rcases hend with h | h
      · exact absurd h h1s
      · exact h
    have hx0 : x = 0 := by omega
    subst hx0
    obtain ⟨f1, f2⟩ := lapFl_sg (fs := fs) (decay := decay) (n := k) neg hk
    have hf : lapFl fs decay (sg neg k) = l := by rw [f1, hl]
    refine ⟨?_, by rw [Nat.add_zero, hf]; omega, by rw [Nat.add_zero, f2, hf]; omega, by omega⟩
    refine nearN_is (by omega) neg (by rw [Nat.add_zero, hf]; omega) (by omega) (.inl ?_)
    have hk2 : 2 * k ≤ 32768 := by
      have hb := lapLo_add fs decay 0 (k - 1)
      rw [Nat.zero_add, lapLo_zero] at hb
      omega
    rcases hz with hz | hz
    · omega
    · omega

/-- What is written in v's place can be written, and its part ends in time. -/
theorem lapW_ok {fs decay : Nat} (h1 : 256 ≤ fs) (v : Int) : lapFl fs decay (lapW fs decay v) < 32768 ∧ lapAll fs decay (lapFl fs decay (lapW fs decay v)) = (lapW fs decay v, lapFl fs decay (lapW fs decay v), lapFh fs decay (lapW fs decay v)) := by
  have h := nearN_ok fs decay (sgN v) v.natAbs
  exact ⟨h, lap_fl (by omega) h⟩

end Go.Proofs.Ytdbgcbbfnjoebaa

