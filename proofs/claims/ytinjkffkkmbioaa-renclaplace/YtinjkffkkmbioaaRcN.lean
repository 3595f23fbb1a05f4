/- Reading bits, as plain numbers: bits from the end, numbers below another, numbers that are mostly small; readers of other bytes. Nothing here is of any program. -/
import Derived.Test.YtinjkffkkmbioaaRcM
namespace Go.Proofs.Ytinjkffkkmbioaa

/-! ### Bits from the end -/
def backAt (b : List Nat) (j : Nat) : Nat := if j < b.length then byteAt b (b.length - 1 - j) else 0
def bitAt (b : List Nat) (p : Nat) : Nat := backAt b (p / 8) / 2 ^ (p % 8) % 2
def bitsN (b : List Nat) (at_ : Nat) : Nat → Nat
  | 0 => 0
  | n + 1 => bitsN b at_ n + bitAt b (at_ + n) * 2 ^ n

theorem bitAt_le (b : List Nat) (p : Nat) : bitAt b p ≤ 1 := by unfold bitAt; omega

theorem bitsN_lt (b : List Nat) (at_ : Nat) : ∀ n, bitsN b at_ n < 2 ^ n
  | 0 => by show 0 < 1; decide
  | n + 1 => by
    have h1 := bitsN_lt b at_ n
    have h2 := bitAt_le b (at_ + n)
    have h3 : bitAt b (at_ + n) * 2 ^ n ≤ 1 * 2 ^ n := Nat.mul_le_mul_right _ h2
    unfold bitsN
    rw [Nat.pow_succ]
    omega

theorem bitsN_add (b : List Nat) (at_ m : Nat) : ∀ n, bitsN b at_ (m + n) = bitsN b at_ m + bitsN b (at_ + m) n * 2 ^ m
  | 0 => by simp [bitsN]
  | n + 1 => by
    have h := bitsN_add b at_ m n
    show bitsN b at_ (m + n) + bitAt b (at_ + (m + n)) * 2 ^ (m + n) = bitsN b at_ m + (bitsN b (at_ + m) n + bitAt b (at_ + m + n) * 2 ^ n) * 2 ^ m
    rw [h, Nat.add_mul, Nat.add_assoc at_ m n, Nat.mul_assoc (bitAt b (at_ + (m + n))) (2 ^ n), ← Nat.pow_add, Nat.add_comm n m, Nat.add_assoc]

theorem bitsN_mod (b : List Nat) (at_ m n : Nat) : bitsN b at_ (m + n) % 2 ^ m = bitsN b at_ m := by
  rw [bitsN_add, Nat.add_mul_mod_self_right, Nat.mod_eq_of_lt (bitsN_lt b at_ m)]

theorem bitsN_div (b : List Nat) (at_ m n : Nat) : bitsN b at_ (m + n) / 2 ^ m = bitsN b (at_ + m) n := by
  rw [bitsN_add, Nat.add_mul_div_right _ _ (Nat.two_pow_pos m), Nat.div_eq_of_lt (bitsN_lt b at_ m), Nat.zero_add]

theorem backAt_lt {b : List Nat} (hb : Bytes b) (j : Nat) : backAt b j < 256 := by
  unfold backAt
  split
  · exact hb _
  · decide

/-- Eight bits at a byte's beginning are the byte. -/
theorem bitsN_byte {b : List Nat} (hb : Bytes b) (j : Nat) : bitsN b (8 * j) 8 = backAt b j := by
  have hx := backAt_lt hb j
  have e : ∀ k, k < 8 → bitAt b (8 * j + k) = backAt b j / 2 ^ k % 2 := fun k hk => by
    unfold bitAt
    rw [show (8 * j + k) / 8 = j by omega, show (8 * j + k) % 8 = k by omega]
  simp only [bitsN, e 0 (by decide), e 1 (by decide), e 2 (by decide), e 3 (by decide), e 4 (by decide), e 5 (by decide), e 6 (by decide), e 7 (by decide)]
  generalize backAt b j = x at *
  omega

def bitsS (b : List Nat) (n : Int) (s : St) : Nat × St :=
  if 0 ≤ n ∧ n ≤ 24 then (bitsN b s.raw n.toNat, { s with raw := s.raw + n.toNat, cnt := s.cnt + n.toNat }) else (0, s)

theorem bitsS_inv (b : List Nat) {s : St} (h : Inv s) (n : Int) : Inv (bitsS b n s).2 ∧ tellZ s ≤ tellZ (bitsS b n s).2 ∧ (0 ≤ n → n ≤ 24 → (bitsS b n s).1 < 2 ^ n.toNat) ∧ (¬ (0 ≤ n ∧ n ≤ 24) → bitsS b n s = (0, s)) := by
  unfold bitsS
  split
  · rename_i hn
    refine ⟨⟨h.low, h.high, h.val, h.last, ?_⟩, ?_, fun _ _ => bitsN_lt _ _ _, fun h => absurd hn h⟩
    · show s.cnt + n.toNat = 8 * s.front + 1 + (s.raw + n.toNat)
      have := h.cnt; omega
    · show (s.cnt : Int) - (lenN s.rng : Int) ≤ ((s.cnt + n.toNat : Nat) : Int) - (lenN s.rng : Int)
      omega
  · rename_i hn
    exact ⟨h, Int.le_refl _, fun h1 h2 => absurd ⟨h1, h2⟩ hn, fun _ => rfl⟩

/-! ### Numbers below another -/
def shiftN (ft : Nat) : Nat := lenN (ft - 1) - 8
def partN (ft : Nat) : Nat := (ft - 1) / 2 ^ shiftN ft + 1

def uintBig (b : List Nat) (ft : Nat) (s : St) : Nat × St :=
  (fun k => (fun r => if ft ≤ k * 2 ^ shiftN ft + r.1 then (ft - 1, { r.2 with bad := true }) else (k * 2 ^ shiftN ft + r.1, r.2)) (bitsS b (shiftN ft : Nat) (takeS b s k (k + 1) (partN ft)))) (chooseS s (partN ft))

def uintS (b : List Nat) (ft : Int) (s : St) : Nat × St :=
  if ft ≤ 1 ∨ 4294967295 < ft then (0, s)
  else if ft ≤ 256 then (chooseS s ft.toNat, takeS b s (chooseS s ft.toNat) (chooseS s ft.toNat + 1) ft.toNat)
  else uintBig b ft.toNat s

theorem shift_in {ft : Nat} (h1 : 257 ≤ ft) (h2 : ft ≤ 4294967295) : 1 ≤ shiftN ft ∧ shiftN ft ≤ 24 ∧ 129 ≤ partN ft ∧ partN ft ≤ 256 := by
  have h3 := lenN_mono (show 256 ≤ ft - 1 by omega)
  have h4 := lenN_mono (show ft - 1 ≤ 4294967294 by omega)
  have e1 : lenN 256 = 9 := by decide
  have e2 : lenN 4294967294 = 32 := by decide
  have hs : lenN (ft - 1) = (ft - 1).log2 + 1 := if_neg (by omega)
  have g1 : 2 ^ (ft - 1).log2 ≤ ft - 1 := Nat.log2_self_le (by omega)
  have g2 : ft - 1 < 2 ^ ((ft - 1).log2 + 1) := Nat.lt_log2_self
  have e3 : (ft - 1).log2 = shiftN ft + 7 := by unfold shiftN; omega
  rw [e3] at g1 g2
  rw [show shiftN ft + 7 + 1 = shiftN ft + 8 by omega] at g2
  rw [Nat.pow_add] at g1 g2
  have p := Nat.two_pow_pos (shiftN ft)
  have k1 : 2 ^ 7 ≤ (ft - 1) / 2 ^ shiftN ft := (Nat.le_div_iff_mul_le p).2 (by rw [Nat.mul_comm]; exact g1)
  have k2 : (ft - 1) / 2 ^ shiftN ft < 2 ^ 8 := (Nat.div_lt_iff_lt_mul p).2 (by rw [Nat.mul_comm]; exact g2)
  have e4 : 2 ^ 7 = 128 := by decide
  have e5 : 2 ^ 8 = 256 := by decide
  have hp : partN ft = (ft - 1) / 2 ^ shiftN ft + 1 := rfl
  have hsh : shiftN ft = lenN (ft - 1) - 8 := rfl
  omega

theorem Inv.mark {s : St} (h : Inv s) : Inv { s with bad := true } := ⟨h.low, h.high, h.val, h.last, h.cnt⟩

theorem take_one {b : List Nat} (hb : Bytes b) {s : St} (h : Inv s) {ft : Nat} (h1 : 1 ≤ ft) (h2 : ft ≤ 256) :
    Inv (takeS b s (chooseS s ft) (chooseS s ft + 1) ft) ∧ tellZ s ≤ tellZ (takeS b s (chooseS s ft) (chooseS s ft + 1) ft) := by
  have hk := chooseS_lt (s := s) h1
  exact ⟨takeS_inv hb h h1 (by omega) (Nat.le_refl _) (by omega) (by omega), takeS_tell h h1 (by omega) (Nat.le_refl _) (by omega) (by omega)⟩

theorem uintBig_inv {b : List Nat} (hb : Bytes b) {s : St} (h : Inv s) {ft : Nat} (h1 : 257 ≤ ft) (h2 : ft ≤ 4294967295) :
    Inv (uintBig b ft s).2 ∧ tellZ s ≤ tellZ (uintBig b ft s).2 ∧ (uintBig b ft s).1 < ft := by
  obtain ⟨s1, s2, s3, s4⟩ := shift_in h1 h2
  obtain ⟨i1, t1⟩ := take_one hb h (ft := partN ft) (by omega) (by omega)
  obtain ⟨i2, t2, _, _⟩ := bitsS_inv b i1 (shiftN ft : Nat)
  unfold uintBig
  simp only
  split
  · exact ⟨i2.mark, Int.le_trans t1 t2, by show ft - 1 < ft; omega⟩
  · rename_i hc
    exact ⟨i2, Int.le_trans t1 t2, by show _ < ft; omega⟩

theorem uintS_inv {b : List Nat} (hb : Bytes b) {s : St} (h : Inv s) (ft : Int) :
    Inv (uintS b ft s).2 ∧ tellZ s ≤ tellZ (uintS b ft s).2 ∧ (1 ≤ ft → ((uintS b ft s).1 : Int) < ft) ∧ (ft ≤ 1 ∨ 4294967295 < ft → uintS b ft s = (0, s)) := by
  unfold uintS
  split
  · rename_i hc
    exact ⟨h, Int.le_refl _, fun h1 => by show ((0 : Nat) : Int) < ft; omega, fun _ => rfl⟩
  · rename_i hc
    split
    · rename_i hc2
      obtain ⟨i1, t1⟩ := take_one hb h (ft := ft.toNat) (by omega) (by omega)
      have hk := chooseS_lt (s := s) (ft := ft.toNat) (by omega)
      exact ⟨i1, t1, fun _ => by show ((chooseS s ft.toNat : Nat) : Int) < ft; omega, fun h => absurd h hc⟩
    · obtain ⟨i1, t1, u1⟩ := uintBig_inv hb h (ft := ft.toNat) (by omega) (by omega)
      exact ⟨i1, t1, fun _ => by omega, fun h => absurd h hc⟩

/-! ### Numbers that are mostly small -/
/-- At most n steps: 32768 are enough for any number that is chosen. -/
def lapF (f decay : Nat) : Nat → Nat → Nat → Nat → Nat × Nat × Nat
  | 0, l, s, v => (l, s, v)
  | n + 1, l, s, v => if 1 < s ∧ l + 2 * s ≤ f then lapF f decay n (l + 2 * s) ((2 * s - 2) * decay / 32768 + 1) (v + 1) else (l, s, v)

theorem lapF_step {f decay n l s v : Nat} (h : 1 < s ∧ l + 2 * s ≤ f) : lapF f decay (n + 1) l s v = lapF f decay n (l + 2 * s) ((2 * s - 2) * decay / 32768 + 1) (v + 1) := if_pos h
theorem lapF_stop {f decay l s v : Nat} (n : Nat) (h : ¬ (1 < s ∧ l + 2 * s ≤ f)) : lapF f decay n l s v = (l, s, v) := by
  cases n with
  | zero => rfl
  | succ n => exact if_neg h

theorem lapF_in (f decay : Nat) : ∀ n l s v : Nat, f - l ≤ n → l ≤ f → 1 ≤ s → v ≤ l →
    (lapF f decay n l s v).1 ≤ f ∧ 1 ≤ (lapF f decay n l s v).2.1 ∧ (lapF f decay n l s v).2.2 ≤ (lapF f decay n l s v).1 ∧ ((lapF f decay n l s v).2.1 ≤ 1 ∨ f < (lapF f decay n l s v).1 + 2 * (lapF f decay n l s v).2.1)
  | 0, l, s, v, hn, hl, hs, hv => by
    refine ⟨hl, hs, hv, .inr ?_⟩
    show f < l + 2 * s
    omega
  | n + 1, l, s, v, hn, hl, hs, hv => by
    by_cases h : 1 < s ∧ l + 2 * s ≤ f
    · rw [lapF_step h]
      exact lapF_in f decay n _ _ _ (by omega) h.2 (by omega) (by omega)
    · rw [lapF_stop (n + 1) h]
      refine ⟨hl, hs, hv, ?_⟩
      show s ≤ 1 ∨ f < l + 2 * s
      omega

/-- Where the small ones end: what is told, and from where to where it lies. -/
def lapEnd (f : Nat) (r : Nat × Nat × Nat) : Int × Nat × Nat :=
  (fun (l v : Nat) => if f < l + r.2.1 then (-(v : Int), l, l + r.2.1) else ((v : Int), l + r.2.1, l + r.2.1 + r.2.1))
    (if r.2.1 ≤ 1 then r.1 + 2 * ((f - r.1) / 2) else r.1) (if r.2.1 ≤ 1 then r.2.2 + (f - r.1) / 2 else r.2.2)

def lapAll (fs decay f : Nat) : Int × Nat × Nat :=
  if f < fs then (0, 0, fs) else lapEnd f (lapF f decay 32768 fs ((32736 - fs) * (16384 - decay) / 32768 + 1) 1)

theorem lapEnd_in {f : Nat} {r : Nat × Nat × Nat} (h1 : r.1 ≤ f) (h2 : 1 ≤ r.2.1) (h3 : r.2.2 ≤ r.1) (h4 : r.2.1 ≤ 1 ∨ f < r.1 + 2 * r.2.1) :
    (lapEnd f r).2.1 ≤ f ∧ f < (lapEnd f r).2.2 ∧ -(f : Int) ≤ (lapEnd f r).1 ∧ (lapEnd f r).1 ≤ f := by
  obtain ⟨l, s, v⟩ := r
  simp only at h1 h2 h3 h4
  unfold lapEnd
  simp only
  by_cases hs : s ≤ 1
  · rw [if_pos hs, if_pos hs]
    split
    · simp only; omega
    · simp only; omega
  · rw [if_neg hs, if_neg hs]
    split
    · simp only; omega
    · simp only; omega

theorem lapAll_in {fs decay f : Nat} (hf : 256 ≤ fs) (hf2 : f ≤ 32768) : (lapAll fs decay f).2.1 ≤ f ∧ f < (lapAll fs decay f).2.2 ∧ -(f : Int) ≤ (lapAll fs decay f).1 ∧ (lapAll fs decay f).1 ≤ f := by
  unfold lapAll
  split
  · simp only; omega
  · have h := lapF_in f decay 32768 fs ((32736 - fs) * (16384 - decay) / 32768 + 1) 1 (by omega) (by omega) (by omega) (by omega)
    exact lapEnd_in h.1 h.2.1 h.2.2.1 h.2.2.2

abbrev lapOk (fs decay : Int) : Prop := 256 ≤ fs ∧ fs ≤ 28000 ∧ 0 ≤ decay ∧ decay ≤ 16000

def lapS (b : List Nat) (fs decay : Int) (s : St) : Int × St :=
  if lapOk fs decay then (fun r => (r.1, takeS b s r.2.1 (min r.2.2 32768) 32768)) (lapAll fs.toNat decay.toNat (chooseS s 32768)) else (0, s)

theorem lapS_inv {b : List Nat} (hb : Bytes b) {s : St} (h : Inv s) (fs decay : Int) : Inv (lapS b fs decay s).2 ∧ tellZ s ≤ tellZ (lapS b fs decay s).2 := by
  unfold lapS
  split
  · rename_i hok
    obtain ⟨o1, o2, o3, o4⟩ := hok
    have hk := chooseS_lt (s := s) (ft := 32768) (by decide)
    obtain ⟨a1, a2, a3, a4⟩ := lapAll_in (fs := fs.toNat) (decay := decay.toNat) (f := chooseS s 32768) (by omega) (by omega)
    exact ⟨takeS_inv hb h (by decide) (by decide) a1 (by omega) (by omega), takeS_tell h (by decide) (by decide) a1 (by omega) (by omega)⟩
  · exact ⟨h, Int.le_refl _⟩

/-! ### Readers of other bytes -/
theorem stepS_eq {b c : List Nat} {s : St} (h : byteAt b s.front = byteAt c s.front) : stepS b s = stepS c s := by
  unfold stepS
  rw [h]

theorem onS_front (b : List Nat) : ∀ (n : Nat) (s : St), s.front ≤ (onS b n s).front
  | 0, _ => Nat.le_refl _
  | n + 1, s => by
    unfold onS
    split
    · exact Nat.le_trans (show s.front ≤ s.front + 1 by omega) (onS_front b n (stepS b s))
    · exact Nat.le_refl _

/-- As long as what is read lies where the bytes are the same, so are the states. -/
theorem onS_eq {b c : List Nat} {N : Nat} (h : ∀ i, i < N → byteAt b i = byteAt c i) : ∀ (n : Nat) (s : St), (onS b n s).front ≤ N → onS c n s = onS b n s
  | 0, _, _ => rfl
  | n + 1, s, hf => by
    unfold onS at hf ⊢
    split
    · rename_i hc
      rw [if_pos hc] at hf
      have h1 := onS_front b n (stepS b s)
      have h2 : s.front < N := by
        have : (stepS b s).front = s.front + 1 := rfl
        omega
      rw [← stepS_eq (h s.front h2)]
      exact onS_eq h n _ hf
    · rfl

theorem takeS_eq {b c : List Nat} {N : Nat} (h : ∀ i, i < N → byteAt b i = byteAt c i) {s : St} {fl fh ft : Nat} (hf : (takeS b s fl fh ft).front ≤ N) : takeS c s fl fh ft = takeS b s fl fh ft := onS_eq h 3 _ hf

theorem symS_eq {b c : List Nat} {N : Nat} (h : ∀ i, i < N → byteAt b i = byteAt c i) {s : St} {t : List Int} (hf : (symS b t s).2.front ≤ N) : symS c t s = symS b t s := by
  unfold symS at hf ⊢
  split
  · rename_i hg
    rw [if_pos hg] at hf
    simp only at hf ⊢
    rw [takeS_eq h hf]
  · rfl

theorem symS_value (b c : List Nat) (t : List Int) (s : St) : (symS b t s).1 = (symS c t s).1 := by
  unfold symS
  split <;> rfl

theorem flagS_eq {b c : List Nat} {N : Nat} (h : ∀ i, i < N → byteAt b i = byteAt c i) {s : St} {n : Int} (hf : (flagS b n s).2.front ≤ N) : flagS c n s = flagS b n s := by
  unfold flagS at hf ⊢
  split
  · rename_i hg
    rw [if_pos hg] at hf
    simp only at hf ⊢
    rw [onS_eq h 3 _ hf]
  · rfl

theorem initS_eq {b c : List Nat} {N : Nat} (h : ∀ i, i < N → byteAt b i = byteAt c i) (hN : 0 < N) (hf : (initS b).front ≤ N) : initS c = initS b := by
  unfold initS at hf ⊢
  rw [← h 0 hN]
  exact onS_eq h 3 _ hf

theorem initS_is (b : List Nat) : (initS b).rng = 2147483648 ∧ (initS b).front = 4 ∧ (initS b).cnt = 33 ∧ (initS b).raw = 0 ∧ (initS b).bad = false := by
  unfold initS onS
  rw [if_pos (by show 128 ≤ 8388608; decide)]
  unfold onS
  rw [if_pos (by show 128 * 256 ≤ 8388608; decide)]
  unfold onS
  rw [if_pos (by show 128 * 256 * 256 ≤ 8388608; decide)]
  exact ⟨by show 128 * 256 * 256 * 256 = 2147483648; decide, by show 1 + 1 + 1 + 1 = 4; decide, by show 9 + 8 + 8 + 8 = 33; decide, by show 0 = 0; rfl, by show false = false; rfl⟩

theorem initS_tell (b : List Nat) : tellZ (initS b) = 1 := by
  obtain ⟨h1, _, h3, _⟩ := initS_is b
  unfold tellZ
  rw [h1, h3]
  have e : lenN 2147483648 = 32 := by decide
  rw [e]
  rfl

theorem byteAt_append (b c : List Nat) (i : Nat) (h : i < b.length) : byteAt (b ++ c) i = byteAt b i := by
  unfold byteAt
  rw [List.getElem?_append_left h]

/-- Noughts behind change nothing that is read from the beginning. -/
theorem byteAt_noughts (b : List Nat) (n i : Nat) : byteAt (b ++ List.replicate n 0) i = byteAt b i := by
  unfold byteAt
  rcases Nat.lt_or_ge i b.length with h | h
  · rw [List.getElem?_append_left h]
  · rw [List.getElem?_append_right h, List.getElem?_eq_none h]
    rcases Nat.lt_or_ge (i - b.length) n with h2 | h2
    · simp [h2]
    · rw [List.getElem?_eq_none (by simpa using h2)]

/-- What Tell allows was read where there are bytes. -/
theorem Inv.front_le {s : St} (h : Inv s) {n : Nat} (ht : tellZ s ≤ 8 * (n : Int) - 32) : s.front ≤ n := by
  have := h.tell.1
  omega

end Go.Proofs.Ytinjkffkkmbioaa
