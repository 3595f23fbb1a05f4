/- A writer as the program keeps it, as plain numbers: bytes from the beginning (a carry may change them), what is behind them, bytes from the end; each step of it is a step of the span. Nothing here is of any program. -/
import Derived.Test.YtinjkffkkmbioaaRencR
namespace Go.Proofs.Ytinjkffkkmbioaa

structure Es where
  front : List Nat
  low : Nat
  rng : Nat
  back : List Nat
  wait : Nat
  waiting : Nat
  cnt : Nat

/-! ### A carry -/
/-- One is added to the number that the first n bytes are. -/
def carryN : Nat → List Nat → List Nat
  | 0, l => l
  | n + 1, l => if byteAt l n = 255 then carryN n (l.set n 0) else l.set n (byteAt l n + 1)

theorem byteAt_set (l : List Nat) (n v i : Nat) : byteAt (l.set n v) i = if i = n ∧ n < l.length then v else byteAt l i := by
  unfold byteAt
  rw [List.getElem?_set]
  by_cases h : n = i
  · subst h
    by_cases h2 : n < l.length
    · rw [if_pos rfl, if_pos h2, if_pos ⟨rfl, h2⟩]; rfl
    · rw [if_pos rfl, if_neg h2, if_neg (by omega), List.getElem?_eq_none (by omega)]
  · rw [if_neg h, if_neg (by omega)]

theorem bytes_set {l : List Nat} (h : Bytes l) (n : Nat) {v : Nat} (hv : v < 256) : Bytes (l.set n v) := fun i => by
  rw [byteAt_set]
  split
  · exact hv
  · exact h i

theorem preN_set {l : List Nat} {n v : Nat} : ∀ {m : Nat}, m ≤ n → preN (l.set n v) m = preN l m
  | 0, _ => rfl
  | m + 1, h => by
    show 256 * preN (l.set n v) m + byteAt (l.set n v) m = 256 * preN l m + byteAt l m
    rw [preN_set (by omega), byteAt_set, if_neg (by omega)]

theorem carryN_len : ∀ (n : Nat) (l : List Nat), (carryN n l).length = l.length
  | 0, _ => rfl
  | n + 1, l => by
    unfold carryN
    split
    · rw [carryN_len n, List.length_set]
    · rw [List.length_set]

theorem carryN_bytes : ∀ (n : Nat) {l : List Nat}, Bytes l → Bytes (carryN n l)
  | 0, _, h => h
  | n + 1, l, h => by
    unfold carryN
    split
    · exact carryN_bytes n (bytes_set h n (by decide))
    · rename_i hc
      have := h n
      exact bytes_set h n (by omega)

theorem carryN_far : ∀ (n : Nat) (l : List Nat) {i : Nat}, n ≤ i → byteAt (carryN n l) i = byteAt l i
  | 0, _, _, _ => rfl
  | n + 1, l, i, h => by
    unfold carryN
    split
    · rw [carryN_far n _ (by omega), byteAt_set, if_neg (by omega)]
    · rw [byteAt_set, if_neg (by omega)]

theorem carryN_pre : ∀ (n : Nat) {l : List Nat}, n ≤ l.length → preN l n + 1 < 256 ^ n → preN (carryN n l) n = preN l n + 1
  | 0, _, _, h => by rw [Nat.pow_zero] at h; omega
  | n + 1, l, hl, h => by
    have e0 : preN l (n + 1) = 256 * preN l n + byteAt l n := rfl
    rw [e0] at h ⊢
    unfold carryN
    split
    · rename_i hc
      rw [hc, Nat.pow_succ] at h
      have ih := carryN_pre n (l := l.set n 0) (by rw [List.length_set]; omega) (by rw [preN_set (Nat.le_refl n)]; generalize 256 ^ n = q at *; omega)
      rw [preN_set (Nat.le_refl n)] at ih
      show 256 * preN (carryN n (l.set n 0)) n + byteAt (carryN n (l.set n 0)) n = _
      rw [ih, carryN_far n _ (Nat.le_refl n), byteAt_set, if_pos ⟨rfl, by omega⟩, hc]
      omega
    · show 256 * preN (l.set n (byteAt l n + 1)) n + byteAt (l.set n (byteAt l n + 1)) n = _
      rw [preN_set (Nat.le_refl n), byteAt_set, if_pos ⟨rfl, by omega⟩]
      omega

theorem bytes_snoc {l : List Nat} (h : Bytes l) {v : Nat} (hv : v < 256) : Bytes (l ++ [v]) := fun i => by
  unfold byteAt
  rcases Nat.lt_trichotomy i l.length with h1 | h1 | h1
  · rw [List.getElem?_append_left h1]; exact h i
  · subst h1; simp; exact hv
  · rw [List.getElem?_eq_none (by simp; omega)]; decide

theorem byteAt_snoc (l : List Nat) (v : Nat) : byteAt (l ++ [v]) l.length = v := by
  unfold byteAt; simp

theorem preN_append (l k : List Nat) : ∀ {m : Nat}, m ≤ l.length → preN (l ++ k) m = preN l m
  | 0, _ => rfl
  | m + 1, h => by
    show 256 * preN (l ++ k) m + byteAt (l ++ k) m = 256 * preN l m + byteAt l m
    rw [preN_append l k (by omega), byteAt_append l k m (by omega)]

/-! ### The steps -/
def frontE (s : Es) : List Nat :=
  if 1275 ≤ s.front.length + s.back.length then s.front else (if 2147483648 ≤ s.low then carryN s.front.length s.front else s.front) ++ [s.low / 8388608 % 256]

def stepE (s : Es) : Es := { s with front := frontE s, low := s.low % 8388608 * 256, rng := s.rng * 256, cnt := s.cnt + 8 }

def onE : Nat → Es → Es
  | 0, s => s
  | n + 1, s => if s.rng ≤ 8388608 then onE n (stepE s) else s

def narrowEs (s : Es) (fl fh ft : Nat) : Es := { s with low := (narrowE ⟨s.low, s.rng, 0⟩ fl fh ft).low, rng := (narrowE ⟨s.low, s.rng, 0⟩ fl fh ft).rng }
def takeE (s : Es) (fl fh ft : Nat) : Es := onE 3 (narrowEs s fl fh ft)

def flagEs (v : Bool) (n : Nat) (s : Es) : Es := { s with low := (flagE v n ⟨s.low, s.rng, 0⟩).low, rng := (flagE v n ⟨s.low, s.rng, 0⟩).rng }
def takeFlagE (v : Bool) (n : Nat) (s : Es) : Es := onE 3 (flagEs v n s)

def backE (s : Es) : List Nat := if 1275 ≤ s.front.length + s.back.length then s.back else s.back ++ [s.wait % 256]
def flushS (s : Es) : Es := { s with back := backE s, wait := s.wait / 256, waiting := s.waiting - 8 }
def flushE : Nat → Es → Es
  | 0, s => s
  | n + 1, s => if 8 ≤ s.waiting then flushE n (flushS s) else s
def addE (v n : Nat) (s : Es) : Es := { s with wait := s.wait + v * 2 ^ s.waiting, waiting := s.waiting + n, cnt := s.cnt + n }
def bitsE (v n : Nat) (s : Es) : Es := flushE 3 (addE v n s)

def initE : Es := { front := [], low := 0, rng := 2147483648, back := [], wait := 0, waiting := 0, cnt := 33 }

/-- What holds of a writer within a step. -/
structure PreE (s : Es) : Prop where
  front : Bytes s.front
  back : Bytes s.back
  rlow : 1 ≤ s.rng
  rhigh : s.rng ≤ 2147483648
  low : s.low + s.rng ≤ 4294967296
  carry : 1275 ≤ s.front.length + s.back.length ∨ preN s.front s.front.length * 2147483648 + s.low + s.rng ≤ 2147483648 * 256 ^ s.front.length
  len : s.front.length + s.back.length ≤ 1275
  wait : s.wait < 2 ^ s.waiting

/-- And between two steps. -/
structure InvE (s : Es) : Prop where
  pre : PreE s
  wide : 8388608 < s.rng
  few : s.waiting < 8

theorem initE_inv : InvE initE :=
  ⟨⟨fun i => by show byteAt [] i < 256; simp [byteAt], fun i => by show byteAt [] i < 256; simp [byteAt], by decide, by decide, by decide, .inr (by decide), by decide, by decide⟩, by decide, by decide⟩

theorem PreE.room {s : Es} (h : PreE s) (hl : 2147483648 ≤ s.low) (hf : ¬ 1275 ≤ s.front.length + s.back.length) : preN s.front s.front.length + 1 < 256 ^ s.front.length := by
  have h1 := h.rlow
  rcases h.carry with h2 | h2
  · exact absurd h2 hf
  · generalize 256 ^ s.front.length = q at *
    generalize preN s.front s.front.length = x at *
    omega

/-- The bytes from the beginning behind a carry, where there is one. -/
def carried (s : Es) : List Nat := if 2147483648 ≤ s.low then carryN s.front.length s.front else s.front

theorem frontE_open {s : Es} (hf : ¬ 1275 ≤ s.front.length + s.back.length) : frontE s = carried s ++ [s.low / 8388608 % 256] := if_neg hf
theorem frontE_full {s : Es} (hf : 1275 ≤ s.front.length + s.back.length) : frontE s = s.front := if_pos hf

theorem carried_len (s : Es) : (carried s).length = s.front.length := by
  unfold carried
  split
  · exact carryN_len _ _
  · rfl

theorem carried_bytes {s : Es} (h : Bytes s.front) : Bytes (carried s) := by
  unfold carried
  split
  · exact carryN_bytes _ h
  · exact h

theorem carried_pre {s : Es} (h : PreE s) (hf : ¬ 1275 ≤ s.front.length + s.back.length) : preN (carried s) s.front.length = preN s.front s.front.length + s.low / 2147483648 := by
  have h1 := h.low
  have h2 := h.rlow
  unfold carried
  split
  · rename_i hc
    rw [carryN_pre _ (Nat.le_refl _) (h.room hc hf)]
    omega
  · omega

theorem frontE_pre {s : Es} (h : PreE s) (hf : ¬ 1275 ≤ s.front.length + s.back.length) :
    (frontE s).length = s.front.length + 1 ∧ preN (frontE s) (s.front.length + 1) * 2147483648 + s.low % 8388608 * 256 = 256 * (preN s.front s.front.length * 2147483648 + s.low) := by
  rw [frontE_open hf]
  have hl := carried_len s
  refine ⟨by simp [hl], ?_⟩
  show (256 * preN (carried s ++ [s.low / 8388608 % 256]) s.front.length + byteAt (carried s ++ [s.low / 8388608 % 256]) s.front.length) * 2147483648 + _ = _
  rw [preN_append _ _ (by omega), carried_pre h hf]
  have e1 : byteAt (carried s ++ [s.low / 8388608 % 256]) s.front.length = s.low / 8388608 % 256 := by rw [← hl]; exact byteAt_snoc _ _
  rw [e1]
  generalize preN s.front s.front.length = x
  omega

theorem stepE_pre {s : Es} (h : PreE s) (hr : s.rng ≤ 8388608) : PreE (stepE s) := by
  have h1 := h.rlow
  by_cases hf : 1275 ≤ s.front.length + s.back.length
  · have e : frontE s = s.front := frontE_full hf
    refine ⟨?_, h.back, by show 1 ≤ s.rng * 256; omega, by show s.rng * 256 ≤ _; omega, by show s.low % 8388608 * 256 + s.rng * 256 ≤ _; omega, .inl ?_, ?_, h.wait⟩
    · show Bytes (frontE s); rw [e]; exact h.front
    · show 1275 ≤ (frontE s).length + s.back.length; rw [e]; exact hf
    · show (frontE s).length + s.back.length ≤ 1275; rw [e]; exact h.len
  · obtain ⟨e1, e2⟩ := frontE_pre h hf
    refine ⟨?_, h.back, by show 1 ≤ s.rng * 256; omega, by show s.rng * 256 ≤ _; omega, by show s.low % 8388608 * 256 + s.rng * 256 ≤ _; omega, .inr ?_, ?_, h.wait⟩
    · show Bytes (frontE s)
      rw [frontE_open hf]
      exact bytes_snoc (carried_bytes h.front) (by omega)
    · show preN (frontE s) (frontE s).length * 2147483648 + s.low % 8388608 * 256 + s.rng * 256 ≤ 2147483648 * 256 ^ (frontE s).length
      rw [e1, e2, Nat.pow_succ]
      rcases h.carry with h2 | h2
      · exact absurd h2 hf
      · generalize 256 ^ s.front.length = q at *
        generalize preN s.front s.front.length = x at *
        omega
    · show (frontE s).length + s.back.length ≤ 1275
      omega

theorem onE_pre : ∀ (n : Nat) {s : Es}, PreE s → 8388608 < s.rng * 256 ^ n → PreE (onE n s) ∧ 8388608 < (onE n s).rng
  | 0, s, h, h2 => ⟨h, by simpa [onE] using h2⟩
  | n + 1, s, h, h2 => by
    unfold onE
    split
    · rename_i hc
      refine onE_pre n (stepE_pre h hc) ?_
      show 8388608 < s.rng * 256 * 256 ^ n
      rw [Nat.mul_assoc, Nat.mul_comm 256, ← Nat.pow_succ]; exact h2
    · rename_i hc
      exact ⟨h, by omega⟩

theorem onE_same : ∀ (n : Nat) (s : Es), (onE n s).back = s.back ∧ (onE n s).wait = s.wait ∧ (onE n s).waiting = s.waiting
  | 0, _ => ⟨rfl, rfl, rfl⟩
  | n + 1, s => by
    unfold onE
    split
    · exact onE_same n (stepE s)
    · exact ⟨rfl, rfl, rfl⟩

theorem onE_inv {s : Es} (h : PreE s) (hw : s.waiting < 8) : InvE (onE 3 s) := by
  obtain ⟨h1, h2⟩ := onE_pre 3 h (by have := h.rlow; omega)
  exact ⟨h1, h2, by rw [(onE_same 3 s).2.2]; exact hw⟩

/-! ### Step by step beside the span -/
/-- The writer stands where the span is, R bits from the end beside it, which are V; or it is over full. -/
structure Wrote (e : Sp) (R V : Nat) (s : Es) : Prop where
  rng : s.rng = e.rng
  cnt : s.cnt = 8 * (e.k + 1) + 1 + R
  at_ : (1275 ≤ s.front.length + s.back.length ∧ 10232 < 8 * (e.k + 1) + 1 + R) ∨
    (e.k = 3 + s.front.length ∧ e.low = preN s.front s.front.length * 2147483648 + s.low ∧ R = 8 * s.back.length + s.waiting ∧ V = preN s.back.reverse s.back.length + s.wait * 256 ^ s.back.length)

theorem initE_wrote : Wrote startE 0 0 initE := by
  rw [startE_is]
  exact ⟨rfl, rfl, .inr ⟨rfl, rfl, rfl, rfl⟩⟩

theorem stepE_wrote {e : Sp} {R V : Nat} {s : Es} (h : PreE s) (hw : Wrote e R V s) : Wrote { low := e.low * 256, rng := e.rng * 256, k := e.k + 1 } R V (stepE s) := by
  refine ⟨by show s.rng * 256 = e.rng * 256; rw [hw.rng], by show s.cnt + 8 = 8 * (e.k + 1 + 1) + 1 + R; rw [hw.cnt]; omega, ?_⟩
  by_cases hf : 1275 ≤ s.front.length + s.back.length
  · have e1 : frontE s = s.front := frontE_full hf
    refine .inl ⟨by show 1275 ≤ (frontE s).length + s.back.length; rw [e1]; exact hf, ?_⟩
    show 10232 < 8 * (e.k + 1 + 1) + 1 + R
    rcases hw.at_ with ⟨_, h2⟩ | ⟨h1, _, h3, _⟩
    · omega
    · omega
  · obtain ⟨e1, e2⟩ := frontE_pre h hf
    rcases hw.at_ with ⟨h1, _⟩ | ⟨h1, h2, h3, h4⟩
    · exact absurd h1 hf
    · refine .inr ⟨by show e.k + 1 = 3 + (frontE s).length; omega, ?_, h3, h4⟩
      show e.low * 256 = preN (frontE s) (frontE s).length * 2147483648 + s.low % 8388608 * 256
      rw [e1, e2, h2, Nat.mul_comm]

theorem onE_wrote : ∀ (n : Nat) {e : Sp} {R V : Nat} {s : Es}, PreE s → Wrote e R V s → Wrote (normE n e) R V (onE n s)
  | 0, _, _, _, _, _, h => h
  | n + 1, e, R, V, s, hp, h => by
    unfold onE normE
    rw [← h.rng]
    split
    · rename_i hc
      have := onE_wrote n (stepE_pre hp hc) (stepE_wrote hp h)
      rw [← h.rng] at this
      exact this
    · exact h

theorem narrow_pre_es {s : Es} (h : InvE s) {fl fh ft : Nat} (h1 : fl < fh) (h3 : fh ≤ ft) (hft : ft ≤ 32768) : PreE (narrowEs s fl fh ft) := by
  obtain ⟨hp, hw, _⟩ := h
  obtain ⟨a1, a2⟩ := narrowE_rng (e := ⟨s.low, s.rng, 3⟩) ⟨hw, hp.rhigh, Nat.le_refl 3⟩ h1 h3 hft
  obtain ⟨b1, b2⟩ := narrow_le (e := ⟨s.low, s.rng, 0⟩) h1 h3
  have a1' : 1 ≤ (narrowE ⟨s.low, s.rng, 0⟩ fl fh ft).rng := a1
  have a2' : (narrowE ⟨s.low, s.rng, 0⟩ fl fh ft).rng ≤ s.rng := a2
  simp only at b1 b2
  have h4 := hp.low
  have h5 := hp.rhigh
  refine ⟨hp.front, hp.back, a1', by show (narrowE ⟨s.low, s.rng, 0⟩ fl fh ft).rng ≤ _; omega, by show (narrowE ⟨s.low, s.rng, 0⟩ fl fh ft).low + (narrowE ⟨s.low, s.rng, 0⟩ fl fh ft).rng ≤ _; omega, ?_, hp.len, hp.wait⟩
  rcases hp.carry with h2 | h2
  · exact .inl h2
  · right
    show preN s.front s.front.length * 2147483648 + (narrowE ⟨s.low, s.rng, 0⟩ fl fh ft).low + (narrowE ⟨s.low, s.rng, 0⟩ fl fh ft).rng ≤ 2147483648 * 256 ^ s.front.length
    generalize s.rng / ft * (ft - fh) = q at *
    omega

theorem takeE_inv {s : Es} (h : InvE s) {fl fh ft : Nat} (h1 : fl < fh) (h3 : fh ≤ ft) (hft : ft ≤ 32768) : InvE (takeE s fl fh ft) := onE_inv (narrow_pre_es h h1 h3 hft) h.few

theorem takeE_wrote {e : Sp} {R V : Nat} {s : Es} (hi : InvE s) (h : Wrote e R V s) {fl fh ft : Nat} (h1 : fl < fh) (h3 : fh ≤ ft) (hft : ft ≤ 32768) : Wrote (putE e fl fh ft) R V (takeE s fl fh ft) := by
  refine onE_wrote 3 (narrow_pre_es hi h1 h3 hft) ⟨?_, h.cnt, ?_⟩
  · show (narrowE ⟨s.low, s.rng, 0⟩ fl fh ft).rng = (narrowE e fl fh ft).rng
    unfold narrowE
    simp only [h.rng]
  · rcases h.at_ with h2 | ⟨h2, h4, h5, h6⟩
    · exact .inl h2
    · refine .inr ⟨h2, ?_, h5, h6⟩
      show (narrowE e fl fh ft).low = preN s.front s.front.length * 2147483648 + (narrowE ⟨s.low, s.rng, 0⟩ fl fh ft).low
      unfold narrowE
      simp only [h.rng, h4]
      split
      · omega
      · rfl

theorem flag_pre_es {s : Es} (h : InvE s) (v : Bool) {n : Nat} (h1 : 1 ≤ n) (h2 : n ≤ 15) : PreE (flagEs v n s) := by
  obtain ⟨hp, hw, _⟩ := h
  have hp1 : 2 ^ 1 ≤ 2 ^ n := Nat.pow_le_pow_right (by decide) h1
  have hp2 : 2 ^ n ≤ 2 ^ 15 := Nat.pow_le_pow_right (by decide) h2
  have hd1 : 1 ≤ s.rng / 2 ^ n := (Nat.le_div_iff_mul_le (by omega)).2 (by omega)
  have hd2 : s.rng / 2 ^ n < s.rng := Nat.div_lt_self (by omega) (by omega)
  have h4 := hp.low
  have h5 := hp.rhigh
  have key : 1 ≤ (flagE v n ⟨s.low, s.rng, 0⟩).rng ∧ (flagE v n ⟨s.low, s.rng, 0⟩).rng ≤ s.rng ∧ (flagE v n ⟨s.low, s.rng, 0⟩).low + (flagE v n ⟨s.low, s.rng, 0⟩).rng ≤ s.low + s.rng := by
    unfold flagE
    generalize s.rng / 2 ^ n = q at *
    cases v
    · simp only [Bool.false_eq_true, if_false]; omega
    · simp only [if_true]; omega
  obtain ⟨k1, k2, k3⟩ := key
  refine ⟨hp.front, hp.back, k1, Nat.le_trans k2 h5, Nat.le_trans k3 h4, ?_, hp.len, hp.wait⟩
  rcases hp.carry with h2 | h2
  · exact .inl h2
  · right
    show preN s.front s.front.length * 2147483648 + (flagE v n ⟨s.low, s.rng, 0⟩).low + (flagE v n ⟨s.low, s.rng, 0⟩).rng ≤ 2147483648 * 256 ^ s.front.length
    generalize (flagE v n ⟨s.low, s.rng, 0⟩).low = x at *
    generalize (flagE v n ⟨s.low, s.rng, 0⟩).rng = y at *
    omega

theorem takeFlagE_inv {s : Es} (h : InvE s) (v : Bool) {n : Nat} (h1 : 1 ≤ n) (h2 : n ≤ 15) : InvE (takeFlagE v n s) := onE_inv (flag_pre_es h v h1 h2) h.few

theorem takeFlagE_wrote {e : Sp} {R V : Nat} {s : Es} (hi : InvE s) (h : Wrote e R V s) (v : Bool) {n : Nat} (h1 : 1 ≤ n) (h2 : n ≤ 15) : Wrote (putFlagE v n e) R V (takeFlagE v n s) := by
  refine onE_wrote 3 (flag_pre_es hi v h1 h2) ⟨?_, ?_, ?_⟩
  · show (flagE v n ⟨s.low, s.rng, 0⟩).rng = (flagE v n e).rng
    unfold flagE
    rw [h.rng]
    cases v <;> rfl
  · have : (flagE v n e).k = e.k := by unfold flagE; cases v <;> rfl
    rw [this]; exact h.cnt
  · have hk : (flagE v n e).k = e.k := by unfold flagE; cases v <;> rfl
    rw [hk]
    rcases h.at_ with h2 | ⟨h2, h4, h5, h6⟩
    · exact .inl h2
    · refine .inr ⟨h2, ?_, h5, h6⟩
      show (flagE v n e).low = preN s.front s.front.length * 2147483648 + (flagE v n ⟨s.low, s.rng, 0⟩).low
      unfold flagE
      rw [← h.rng]
      cases v
      · simp only [Bool.false_eq_true, if_false]; exact h4
      · simp only [if_true]; omega

/-! ### Bits from the end -/
theorem preN_cons (x : Nat) (l : List Nat) : ∀ (m : Nat), preN (x :: l) (m + 1) = x * 256 ^ m + preN l m
  | 0 => by show 256 * 0 + x = x * 256 ^ 0 + 0; simp
  | m + 1 => by
    show 256 * preN (x :: l) (m + 1) + byteAt (x :: l) (m + 1) = x * 256 ^ (m + 1) + (256 * preN l m + byteAt l m)
    rw [preN_cons x l m]
    have e1 : byteAt (x :: l) (m + 1) = byteAt l m := by simp [byteAt]
    rw [e1, Nat.mul_add, Nat.pow_succ, ← Nat.mul_assoc, ← Nat.mul_assoc, Nat.mul_comm 256 x, Nat.mul_assoc x, Nat.mul_comm 256, Nat.mul_assoc]
    omega

theorem backE_open {s : Es} (hf : ¬ 1275 ≤ s.front.length + s.back.length) : backE s = s.back ++ [s.wait % 256] := if_neg hf
theorem backE_full {s : Es} (hf : 1275 ≤ s.front.length + s.back.length) : backE s = s.back := if_pos hf

theorem flushS_pre {s : Es} (h : PreE s) (hw : 8 ≤ s.waiting) : PreE (flushS s) := by
  have hwait : s.wait / 256 < 2 ^ (s.waiting - 8) := by
    have := h.wait
    have e : 2 ^ s.waiting = 2 ^ (s.waiting - 8) * 256 := by
      rw [show (256 : Nat) = 2 ^ 8 by decide, ← Nat.pow_add]; congr 1; omega
    rw [e] at this
    generalize 2 ^ (s.waiting - 8) = q at *
    omega
  by_cases hf : 1275 ≤ s.front.length + s.back.length
  · have e : backE s = s.back := backE_full hf
    refine ⟨h.front, by show Bytes (backE s); rw [e]; exact h.back, h.rlow, h.rhigh, h.low, .inl (by show 1275 ≤ s.front.length + (backE s).length; rw [e]; exact hf), by show s.front.length + (backE s).length ≤ 1275; rw [e]; exact h.len, hwait⟩
  · have e : backE s = s.back ++ [s.wait % 256] := backE_open hf
    refine ⟨h.front, by show Bytes (backE s); rw [e]; exact bytes_snoc h.back (by omega), h.rlow, h.rhigh, h.low, .inr ?_, by show s.front.length + (backE s).length ≤ 1275; rw [e]; simp; omega, hwait⟩
    rcases h.carry with h2 | h2
    · exact absurd h2 hf
    · exact h2

theorem flushE_pre : ∀ (n : Nat) {s : Es}, PreE s → s.waiting < 8 * (n + 1) → PreE (flushE n s) ∧ (flushE n s).waiting < 8
  | 0, s, h, h2 => ⟨h, by simpa [flushE] using h2⟩
  | n + 1, s, h, h2 => by
    unfold flushE
    split
    · rename_i hc
      exact flushE_pre n (flushS_pre h hc) (by show s.waiting - 8 < _; omega)
    · exact ⟨h, by omega⟩

theorem flushE_same : ∀ (n : Nat) (s : Es), (flushE n s).rng = s.rng ∧ (flushE n s).cnt = s.cnt ∧ (flushE n s).front = s.front ∧ (flushE n s).low = s.low
  | 0, _ => ⟨rfl, rfl, rfl, rfl⟩
  | n + 1, s => by
    unfold flushE
    split
    · exact flushE_same n (flushS s)
    · exact ⟨rfl, rfl, rfl, rfl⟩

theorem addE_pre {s : Es} (h : PreE s) {v n : Nat} (hv : v < 2 ^ n) : PreE (addE v n s) := by
  refine ⟨h.front, h.back, h.rlow, h.rhigh, h.low, h.carry, h.len, ?_⟩
  have h1 := h.wait
  show s.wait + v * 2 ^ s.waiting < 2 ^ (s.waiting + n)
  have h2 : (v + 1) * 2 ^ s.waiting ≤ 2 ^ n * 2 ^ s.waiting := Nat.mul_le_mul_right _ hv
  rw [Nat.pow_add, Nat.mul_comm (2 ^ s.waiting)]
  rw [Nat.add_mul, Nat.one_mul] at h2
  omega

theorem bitsE_inv {s : Es} (h : InvE s) {v n : Nat} (hn : n ≤ 24) (hv : v < 2 ^ n) : InvE (bitsE v n s) := by
  have hw := h.few
  obtain ⟨h1, h2⟩ := flushE_pre 3 (addE_pre h.pre hv) (by show s.waiting + n < _; omega)
  exact ⟨h1, by rw [bitsE, (flushE_same 3 _).1]; exact h.wide, h2⟩

theorem flushS_wrote {e : Sp} {R V : Nat} {s : Es} (h : Wrote e R V s) (hw : 8 ≤ s.waiting) : Wrote e R V (flushS s) := by
  refine ⟨h.rng, h.cnt, ?_⟩
  by_cases hf : 1275 ≤ s.front.length + s.back.length
  · have e1 : backE s = s.back := backE_full hf
    refine .inl ⟨by show 1275 ≤ s.front.length + (backE s).length; rw [e1]; exact hf, ?_⟩
    rcases h.at_ with ⟨_, h2⟩ | ⟨h1, _, h3, _⟩
    · exact h2
    · omega
  · have e1 : backE s = s.back ++ [s.wait % 256] := backE_open hf
    rcases h.at_ with ⟨h1, _⟩ | ⟨h1, h2, h3, h4⟩
    · exact absurd h1 hf
    · refine .inr ⟨h1, h2, ?_, ?_⟩
      · show R = 8 * (backE s).length + (s.waiting - 8)
        rw [e1]; simp; omega
      · show V = preN (backE s).reverse (backE s).length + s.wait / 256 * 256 ^ (backE s).length
        rw [e1, List.reverse_append, List.length_append]
        show V = preN (s.wait % 256 :: s.back.reverse) (s.back.length + 1) + s.wait / 256 * 256 ^ (s.back.length + 1)
        rw [preN_cons, h4, Nat.pow_succ, Nat.mul_comm (256 ^ s.back.length) 256, ← Nat.mul_assoc]
        have hd := Nat.div_add_mod s.wait 256
        have : s.wait * 256 ^ s.back.length = (s.wait % 256) * 256 ^ s.back.length + s.wait / 256 * 256 * 256 ^ s.back.length := by
          rw [← Nat.add_mul]; congr 1; omega
        omega

theorem flushE_wrote : ∀ (n : Nat) {e : Sp} {R V : Nat} {s : Es}, Wrote e R V s → Wrote e R V (flushE n s)
  | 0, _, _, _, _, h => h
  | n + 1, e, R, V, s, h => by
    unfold flushE
    split
    · rename_i hc
      exact flushE_wrote n (flushS_wrote h hc)
    · exact h

theorem bitsE_wrote {e : Sp} {R V : Nat} {s : Es} (h : Wrote e R V s) (v n : Nat) : Wrote e (R + n) (V + v * 2 ^ R) (bitsE v n s) := by
  refine flushE_wrote 3 ⟨h.rng, by show s.cnt + n = _; rw [h.cnt]; omega, ?_⟩
  rcases h.at_ with ⟨h1, h2⟩ | ⟨h1, h2, h3, h4⟩
  · exact .inl ⟨h1, by omega⟩
  · refine .inr ⟨h1, h2, by show R + n = 8 * s.back.length + (s.waiting + n); omega, ?_⟩
    show V + v * 2 ^ R = preN s.back.reverse s.back.length + (s.wait + v * 2 ^ s.waiting) * 256 ^ s.back.length
    rw [h4, h3, Nat.pow_add, Nat.add_mul, pow_256, Nat.mul_comm (2 ^ (8 * s.back.length)), ← Nat.mul_assoc]
    omega

end Go.Proofs.Ytinjkffkkmbioaa
