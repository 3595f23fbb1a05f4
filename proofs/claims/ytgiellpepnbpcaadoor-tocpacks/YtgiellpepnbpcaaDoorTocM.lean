/- Packets as plain lists of numbers: cut, put together, and back. Nothing here is of any program. -/
import Derived.Test.YtgiellpepnbpcaaDoorRcM
namespace Go.Proofs.YtgiellpepnbpcaaDoor

structure Pk where
  config : Nat
  ch : Nat
  frames : List (List Nat)
  pad : Nat

def msN (c : Nat) : Nat := 10 + 10 * (c % 2)

/-- One length, and what is left. -/
def takeLen : List Nat → Option (Nat × List Nat)
  | [] => none
  | n :: r => if n < 252 then (if n ≤ r.length then some (n, r) else none) else
    match r with
    | [] => none
    | m :: r' => if n + 4 * m ≤ r'.length then some (n + 4 * m, r') else none

def lensN : Nat → List Nat → Option (List Nat × List Nat)
  | 0, r => some ([], r)
  | k + 1, r =>
    match takeLen r with
    | none => none
    | some (n, r') =>
      match lensN k r' with
      | none => none
      | some (l, r'') => some (n :: l, r'')

def padN : List Nat → Nat → Option (Nat × List Nat)
  | [], _ => none
  | c :: r, p => if c = 255 then padN r (p + 254) else some (p + c, r)

def sumN : List Nat → Nat
  | [] => 0
  | n :: l => n + sumN l

/-- Frames of these lengths, and the last one: all that is left. -/
def cutN : List Nat → List Nat → List (List Nat)
  | [], r => [r]
  | n :: l, r => r.take n :: cutN l (r.drop n)

/-- So many frames of so many bytes. -/
def evenN : Nat → Nat → List Nat → List (List Nat)
  | 0, _, _ => []
  | m + 1, k, r => r.take k :: evenN m k (r.drop k)

def shortN (fs : List (List Nat)) : Bool := fs.all fun f => decide (f.length ≤ 1275)

/-- Code 3, behind its byte and the padding's: the frames. -/
def bodyN (m : Nat) (told : Bool) (r : List Nat) : Option (List (List Nat)) :=
  if told then
    match lensN (m - 1) r with
    | none => none
    | some (l, r') => if sumN l ≤ r'.length then some (cutN l r') else none
  else if r.length % m = 0 then some (evenN m (r.length / m) r) else none

/-- Code 3: the frames, and how much padding. -/
def manyN (ms : Nat) : List Nat → Option (List (List Nat) × Nat)
  | [] => none
  | c :: r =>
    if c % 64 = 0 ∨ 120 < c % 64 * ms then none
    else if c / 64 % 2 = 1 then
      match padN r 0 with
      | none => none
      | some (p, r') => if p ≤ r'.length then (bodyN (c % 64) (decide (c / 128 % 2 = 1)) (r'.take (r'.length - p))).map fun fs => (fs, p) else none
    else (bodyN (c % 64) (decide (c / 128 % 2 = 1)) r).map fun fs => (fs, 0)

def framesN (h : Nat) (r : List Nat) : Option (List (List Nat) × Nat) :=
  if h % 4 = 0 then some ([r], 0)
  else if h % 4 = 1 then (if r.length % 2 = 1 then none else some ([r.take (r.length / 2), r.drop (r.length / 2)], 0))
  else if h % 4 = 2 then
    match takeLen r with
    | none => none
    | some (n, r') => some ([r'.take n, r'.drop n], 0)
  else manyN (msN (h / 8)) r

def parseN : List Nat → Option Pk
  | [] => none
  | h :: r =>
    if 11 < h / 8 then none
    else match framesN h r with
      | none => none
      | some (fs, p) => if shortN fs = true then some { config := h / 8, ch := 1 + h / 4 % 2, frames := fs, pad := p } else none

/-- May it be? -/
structure GoodP (p : Pk) : Prop where
  config : p.config ≤ 11
  ch : 1 ≤ p.ch ∧ p.ch ≤ 2
  some_ : 1 ≤ p.frames.length
  time : p.frames.length * msN p.config ≤ 120
  short : ∀ f ∈ p.frames, f.length ≤ 1275
  pad : p.pad ≤ 1000

theorem msN_in (c : Nat) : 10 ≤ msN c ∧ msN c ≤ 20 := by unfold msN; omega
theorem GoodP.few {p : Pk} (h : GoodP p) : p.frames.length ≤ 12 := by
  have h1 := (msN_in p.config).1
  have h2 := h.time
  have : p.frames.length * 10 ≤ p.frames.length * msN p.config := Nat.mul_le_mul_left _ h1
  omega

def putN (n : Nat) : List Nat := if n ≤ 251 then [n] else [252 + n % 4, (n - (252 + n % 4)) / 4]

def putsN : List Nat → List Nat
  | [] => []
  | n :: l => putN n ++ putsN l

def padBytes (p : Nat) : List Nat := List.replicate (p / 254) 255 ++ [p % 254]

def flatN : List (List Nat) → List Nat
  | [] => []
  | f :: fs => f ++ flatN fs

/-- The lengths of all but the last. -/
def lensOf : List (List Nat) → List Nat
  | [] => []
  | [_] => []
  | f :: g :: fs => f.length :: lensOf (g :: fs)

/-- Are all of one length? -/
def alikeN : List (List Nat) → Bool
  | [] => true
  | f :: fs => fs.all fun g => decide (g.length = f.length)

def headN (p : Pk) : Nat := 8 * p.config + 4 * (p.ch - 1)

/-- Code 3's byte. -/
def codeByte (p : Pk) : Nat := p.frames.length + (if alikeN p.frames = true then 0 else 128) + (if p.pad = 0 then 0 else 64)

/-- Put together, t in the padding's place. -/
def packT (p : Pk) (t : List Nat) : List Nat :=
  if p.pad = 0 ∧ p.frames.length = 1 then headN p :: flatN p.frames
  else if p.pad = 0 ∧ p.frames.length = 2 ∧ alikeN p.frames = true then (headN p + 1) :: flatN p.frames
  else if p.pad = 0 ∧ p.frames.length = 2 then (headN p + 2) :: (putsN (lensOf p.frames) ++ flatN p.frames)
  else (headN p + 3) :: codeByte p :: ((if p.pad = 0 then [] else padBytes p.pad) ++ ((if alikeN p.frames = true then [] else putsN (lensOf p.frames)) ++ (flatN p.frames ++ t)))

def packN (p : Pk) : List Nat := packT p (List.replicate p.pad 0)

/-! ### Lengths -/
theorem takeLen_put {n : Nat} (hn : n ≤ 1275) {r : List Nat} (hr : n ≤ r.length) : takeLen (putN n ++ r) = some (n, r) := by
  unfold putN
  by_cases h : n ≤ 251
  · rw [if_pos h]
    show (if n < 252 then (if n ≤ r.length then some (n, r) else none) else _) = _
    rw [if_pos (by omega), if_pos hr]
  · rw [if_neg h]
    show (if 252 + n % 4 < 252 then _ else if 252 + n % 4 + 4 * ((n - (252 + n % 4)) / 4) ≤ r.length then some (252 + n % 4 + 4 * ((n - (252 + n % 4)) / 4), r) else none) = _
    have e : 252 + n % 4 + 4 * ((n - (252 + n % 4)) / 4) = n := by omega
    rw [if_neg (by omega), e, if_pos hr]

theorem putN_bytes {n : Nat} (hn : n ≤ 1275) : ∀ x ∈ putN n, x < 256 := by
  unfold putN
  split
  · intro x hx
    have : x = n := by simpa using hx
    omega
  · intro x hx
    simp at hx
    omega

theorem sumN_mem : ∀ {l : List Nat} {n : Nat}, n ∈ l → n ≤ sumN l
  | m :: l, n, h => by
    show n ≤ m + sumN l
    rcases List.mem_cons.1 h with h1 | h1
    · omega
    · have := sumN_mem h1; omega

theorem putsN_len : ∀ (l : List Nat), l.length ≤ (putsN l).length
  | [] => Nat.le_refl _
  | n :: l => by
    have := putsN_len l
    show l.length + 1 ≤ (putN n ++ putsN l).length
    rw [List.length_append]
    unfold putN
    split <;> simp <;> omega

theorem lensN_puts : ∀ (l : List Nat), (∀ n ∈ l, n ≤ 1275) → ∀ r : List Nat, sumN l ≤ r.length → lensN l.length (putsN l ++ r) = some (l, r)
  | [], _, _, _ => rfl
  | n :: l, h, r, hr => by
    have hs : n + sumN l ≤ r.length := hr
    have ih := lensN_puts l (fun m hm => h m (by simp [hm])) r (by omega)
    have h1 := takeLen_put (h n (by simp)) (r := putsN l ++ r) (by rw [List.length_append]; omega)
    show (match takeLen ((putN n ++ putsN l) ++ r) with | none => none | some (n, r') => match lensN l.length r' with | none => none | some (l, r'') => some (n :: l, r'')) = _
    rw [List.append_assoc, h1]
    simp only [ih]

/-! ### Padding -/
theorem padN_run : ∀ (k p c : Nat) (r : List Nat), c < 255 → padN (List.replicate k 255 ++ ([c] ++ r)) p = some (p + 254 * k + c, r)
  | 0, p, c, r, hc => by
    show (if c = 255 then _ else some (p + c, r)) = _
    rw [if_neg (by omega)]
    simp
  | k + 1, p, c, r, hc => by
    rw [List.replicate_succ]
    show (if 255 = 255 then padN (List.replicate k 255 ++ ([c] ++ r)) (p + 254) else _) = _
    rw [if_pos rfl, padN_run k (p + 254) c r hc]
    congr 2
    omega

theorem padN_bytes (p : Nat) (r : List Nat) : padN (padBytes p ++ r) 0 = some (p, r) := by
  unfold padBytes
  rw [List.append_assoc, padN_run (p / 254) 0 (p % 254) r (by omega)]
  congr 2
  omega

/-! ### Frames -/
theorem cutN_flat : ∀ {fs : List (List Nat)}, fs ≠ [] → cutN (lensOf fs) (flatN fs) = fs
  | [], h => absurd rfl h
  | [f], _ => by show [f ++ []] = [f]; simp
  | f :: g :: fs, _ => by
    have ih := cutN_flat (fs := g :: fs) (by simp)
    show (f ++ flatN (g :: fs)).take f.length :: cutN (lensOf (g :: fs)) ((f ++ flatN (g :: fs)).drop f.length) = _
    rw [List.take_left, List.drop_left, ih]

theorem evenN_flat (k : Nat) : ∀ (fs : List (List Nat)), (∀ f ∈ fs, f.length = k) → evenN fs.length k (flatN fs) = fs
  | [], _ => rfl
  | f :: fs, h => by
    have hf := h f (by simp)
    have ih := evenN_flat k fs (fun g hg => h g (by simp [hg]))
    show (f ++ flatN fs).take k :: evenN fs.length k ((f ++ flatN fs).drop k) = _
    rw [← hf, List.take_left, List.drop_left, hf, ih]

theorem lensOf_len : ∀ {fs : List (List Nat)}, fs ≠ [] → (lensOf fs).length = fs.length - 1
  | [], h => absurd rfl h
  | [_], _ => rfl
  | f :: g :: fs, _ => by
    have ih := lensOf_len (fs := g :: fs) (by simp)
    show (lensOf (g :: fs)).length + 1 = fs.length + 1 + 1 - 1
    rw [ih]
    show fs.length + 1 - 1 + 1 = _
    omega

theorem lensOf_sum : ∀ (fs : List (List Nat)), sumN (lensOf fs) ≤ (flatN fs).length
  | [] => Nat.le_refl _
  | [f] => Nat.zero_le _
  | f :: g :: fs => by
    have ih := lensOf_sum (g :: fs)
    show f.length + sumN (lensOf (g :: fs)) ≤ (f ++ flatN (g :: fs)).length
    rw [List.length_append]
    omega

theorem lensOf_mem : ∀ {fs : List (List Nat)} {n : Nat}, n ∈ lensOf fs → ∃ f ∈ fs, f.length = n
  | [], n, h => by cases h
  | [_], n, h => by cases h
  | f :: g :: fs, n, h => by
    rcases List.mem_cons.1 h with h1 | h1
    · exact ⟨f, by simp, h1.symm⟩
    · obtain ⟨x, hx, e⟩ := lensOf_mem (fs := g :: fs) h1
      exact ⟨x, by simp at hx ⊢; exact .inr hx, e⟩

theorem flat_even {k : Nat} : ∀ {fs : List (List Nat)}, (∀ f ∈ fs, f.length = k) → (flatN fs).length = fs.length * k
  | [], _ => by show 0 = 0 * k; simp
  | f :: fs, h => by
    have ih := flat_even (fs := fs) (fun g hg => h g (by simp [hg]))
    show (f ++ flatN fs).length = (fs.length + 1) * k
    rw [List.length_append, ih, h f (by simp), Nat.add_mul]
    omega

theorem alike_all {fs : List (List Nat)} (h : alikeN fs = true) : ∃ k, ∀ f ∈ fs, f.length = k := by
  cases fs with
  | nil => exact ⟨0, fun f hf => by cases hf⟩
  | cons f fs =>
    refine ⟨f.length, fun g hg => ?_⟩
    rcases List.mem_cons.1 hg with h1 | h1
    · rw [h1]
    · have := List.all_eq_true.1 h g h1
      simpa using this

theorem alike_of {fs : List (List Nat)} {k : Nat} (h : ∀ f ∈ fs, f.length = k) : alikeN fs = true := by
  cases fs with
  | nil => rfl
  | cons f fs =>
    refine List.all_eq_true.2 fun g hg => ?_
    rw [h g (by simp [hg]), h f (by simp)]
    simp

theorem bodyN_pack {fs : List (List Nat)} (h0 : 1 ≤ fs.length) (hs : ∀ f ∈ fs, f.length ≤ 1275) :
    bodyN fs.length (!(alikeN fs)) ((if alikeN fs = true then [] else putsN (lensOf fs)) ++ flatN fs) = some fs := by
  have hne : fs ≠ [] := fun e => by rw [e] at h0; simp at h0
  unfold bodyN
  cases ha : alikeN fs
  · show (match lensN (fs.length - 1) (putsN (lensOf fs) ++ flatN fs) with | none => none | some (l, r') => if sumN l ≤ r'.length then some (cutN l r') else none) = _
    rw [← lensOf_len hne, lensN_puts (lensOf fs) (fun n hn => by obtain ⟨f, hf, e⟩ := lensOf_mem hn; rw [← e]; exact hs f hf) (flatN fs) (lensOf_sum fs)]
    show (if sumN (lensOf fs) ≤ (flatN fs).length then some (cutN (lensOf fs) (flatN fs)) else none) = _
    rw [if_pos (lensOf_sum fs), cutN_flat hne]
  · obtain ⟨k, hk⟩ := alike_all ha
    have e := flat_even hk
    show (if (flatN fs).length % fs.length = 0 then some (evenN fs.length ((flatN fs).length / fs.length) (flatN fs)) else none) = _
    rw [e, if_pos (Nat.mul_mod_right _ _), Nat.mul_div_cancel_left _ (by omega), evenN_flat k fs hk]

/-! ### Put together, and cut again -/
theorem head_in {p : Pk} (h : GoodP p) {c : Nat} (hc : c < 4) : (headN p + c) / 8 = p.config ∧ 1 + (headN p + c) / 4 % 2 = p.ch ∧ (headN p + c) % 4 = c ∧ headN p + c < 256 := by
  have h1 := h.config
  obtain ⟨h2, h3⟩ := h.ch
  unfold headN
  omega

theorem shortN_of {fs : List (List Nat)} (h : ∀ f ∈ fs, f.length ≤ 1275) : shortN fs = true := List.all_eq_true.2 fun f hf => decide_eq_true (h f hf)

theorem parseN_head {p : Pk} (h : GoodP p) {c : Nat} (hc : c < 4) {r : List Nat} (hf : framesN (headN p + c) r = some (p.frames, p.pad)) : parseN ((headN p + c) :: r) = some p := by
  obtain ⟨e1, e2, _, _⟩ := head_in h hc
  show (if 11 < (headN p + c) / 8 then none else match framesN (headN p + c) r with | none => none | some (fs, q) => if shortN fs = true then some ({ config := (headN p + c) / 8, ch := 1 + (headN p + c) / 4 % 2, frames := fs, pad := q } : Pk) else none) = _
  rw [if_neg (by rw [e1]; have := h.config; omega), hf]
  show (if shortN p.frames = true then some ({ config := (headN p + c) / 8, ch := 1 + (headN p + c) / 4 % 2, frames := p.frames, pad := p.pad } : Pk) else none) = _
  rw [if_pos (shortN_of h.short), e1, e2]

theorem two_of {fs : List (List Nat)} (h : fs.length = 2) : ∃ f g, fs = [f, g] := by
  match fs, h with
  | [f, g], _ => exact ⟨f, g, rfl⟩

theorem parse_packT {p : Pk} (h : GoodP p) {t : List Nat} (ht : t.length = p.pad) : parseN (packT p t) = some p := by
  have h0 := h.some_
  have hfew := h.few
  have htime := h.time
  obtain ⟨_, _, m0, _⟩ := head_in h (c := 0) (by decide)
  obtain ⟨_, _, m1, _⟩ := head_in h (c := 1) (by decide)
  obtain ⟨_, _, m2, _⟩ := head_in h (c := 2) (by decide)
  obtain ⟨d3, _, m3, _⟩ := head_in h (c := 3) (by decide)
  unfold packT
  split
  · rename_i hc
    obtain ⟨f, hf⟩ : ∃ f, p.frames = [f] := List.length_eq_one_iff.1 hc.2
    refine parseN_head h (c := 0) (by decide) ?_
    unfold framesN
    rw [if_pos m0, hf, hc.1]
    show some ([f ++ []], 0) = _
    simp
  split
  · rename_i _ hc
    obtain ⟨c1, c2, c3⟩ := hc
    obtain ⟨f, g, hf⟩ : ∃ f g, p.frames = [f, g] := two_of c2
    obtain ⟨k, hk⟩ := alike_all c3
    have k1 := hk f (by simp [hf])
    have k2 := hk g (by simp [hf])
    refine parseN_head h (c := 1) (by decide) ?_
    unfold framesN
    rw [if_neg (by omega), if_pos m1, hf, c1]
    show (if (f ++ (g ++ [])).length % 2 = 1 then none else some ([(f ++ (g ++ [])).take ((f ++ (g ++ [])).length / 2), (f ++ (g ++ [])).drop ((f ++ (g ++ [])).length / 2)], 0)) = _
    have e : (f ++ (g ++ [])).length = 2 * f.length := by simp; omega
    rw [e, if_neg (by omega), show 2 * f.length / 2 = f.length by omega, List.take_left, List.drop_left]
    simp
  split
  · rename_i _ _ hc
    obtain ⟨c1, c2⟩ := hc
    obtain ⟨f, g, hf⟩ : ∃ f g, p.frames = [f, g] := two_of c2
    refine parseN_head h (c := 2) (by decide) ?_
    unfold framesN
    rw [if_neg (by omega), if_neg (by omega), if_pos m2, hf, c1]
    show (match takeLen ((putN f.length ++ []) ++ (f ++ (g ++ []))) with | none => none | some (n, r') => some ([r'.take n, r'.drop n], 0)) = _
    rw [List.append_nil, takeLen_put (h.short f (by simp [hf])) (by simp)]
    show some ([(f ++ (g ++ [])).take f.length, (f ++ (g ++ [])).drop f.length], 0) = _
    rw [List.take_left, List.drop_left]
    simp
  · rename_i n1 n2 n3
    refine parseN_head h (c := 3) (by decide) ?_
    unfold framesN
    rw [if_neg (by omega), if_neg (by omega), if_neg (by omega), d3]
    obtain ⟨hb1, hb2, hb3⟩ : codeByte p % 64 = p.frames.length ∧ decide (codeByte p / 128 % 2 = 1) = !(alikeN p.frames) ∧ (codeByte p / 64 % 2 = 1 ↔ p.pad ≠ 0) := by
      unfold codeByte
      cases ha : alikeN p.frames
      · by_cases hp : p.pad = 0
        · rw [if_neg (by simp), if_pos hp]
          exact ⟨by omega, decide_eq_true (by omega), ⟨fun h => by omega, fun h => absurd hp h⟩⟩
        · rw [if_neg (by simp), if_neg hp]
          exact ⟨by omega, decide_eq_true (by omega), ⟨fun _ => hp, fun _ => by omega⟩⟩
      · by_cases hp : p.pad = 0
        · rw [if_pos rfl, if_pos hp]
          exact ⟨by omega, decide_eq_false (by omega), ⟨fun h => by omega, fun h => absurd hp h⟩⟩
        · rw [if_pos rfl, if_neg hp]
          exact ⟨by omega, decide_eq_false (by omega), ⟨fun _ => hp, fun _ => by omega⟩⟩
    unfold manyN
    simp only
    rw [hb1, hb2, if_neg (by omega)]
    have hbody := bodyN_pack h0 h.short
    by_cases hp : p.pad = 0
    · have ht0 : t = [] := List.eq_nil_of_length_eq_zero (by omega)
      rw [if_neg (by rw [hb3]; exact fun h => h hp), if_pos hp, ht0, List.nil_append, List.append_nil, hbody, hp]
      rfl
    · rw [if_pos (hb3.2 hp), if_neg hp, padN_bytes]
      simp only
      obtain ⟨q, hq⟩ : ∃ q, (if alikeN p.frames = true then [] else putsN (lensOf p.frames)) ++ flatN p.frames = q := ⟨_, rfl⟩
      rw [hq] at hbody
      rw [← List.append_assoc, hq]
      have e : (q ++ t).length - p.pad = q.length := by rw [List.length_append]; omega
      rw [if_pos (by rw [List.length_append]; omega), e, List.take_left, hbody]
      rfl

theorem parse_pack {p : Pk} (h : GoodP p) : parseN (packN p) = some p := parse_packT h (List.length_replicate ..)

end Go.Proofs.YtgiellpepnbpcaaDoor
