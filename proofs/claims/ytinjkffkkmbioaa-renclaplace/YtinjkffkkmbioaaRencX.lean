/- The bytes that a writer tells at the end, as plain numbers: they lie in the span, and end in the bits from the end. Nothing here is of any program. -/
import Derived.Test.YtinjkffkkmbioaaRencW
namespace Go.Proofs.Ytinjkffkkmbioaa

def openE (s : Es) : Nat := lenN s.rng - 2
def endE (s : Es) : Nat := firstE s.low (openE s)
def carriedEnd (s : Es) : List Nat := if 2147483648 ≤ endE s then carryN s.front.length s.front else s.front

/-- The bytes from the beginning. -/
def baseF (s : Es) (j : Nat) : Nat :=
  if j < s.front.length then byteAt (carriedEnd s) j else if j = s.front.length then endE s / 8388608 % 256 else if j = s.front.length + 1 then endE s / 32768 % 256 else 0
/-- And those from the end, whole ones. -/
def doneF (s : Es) (n j : Nat) : Nat := if j + s.back.length < n then baseF s j else byteAt s.back (n - 1 - j)
def finalF (s : Es) (n j : Nat) : Nat := if j + s.back.length + 1 = n then doneF s n j + s.wait else doneF s n j
def doneL (s : Es) (n : Nat) : List Nat := (List.range n).map (finalF s n)

def numF (f : Nat → Nat) : Nat → Nat
  | 0 => 0
  | n + 1 => 256 * numF f n + f n

theorem byteAt_map (f : Nat → Nat) {n i : Nat} (h : i < n) : byteAt ((List.range n).map f) i = f i := by
  unfold byteAt
  rw [List.getElem?_map, List.getElem?_range h]; rfl

theorem preN_map (f : Nat → Nat) {n : Nat} : ∀ {m : Nat}, m ≤ n → preN ((List.range n).map f) m = numF f m
  | 0, _ => rfl
  | m + 1, h => by
    show 256 * preN ((List.range n).map f) m + byteAt ((List.range n).map f) m = 256 * numF f m + f m
    rw [preN_map f (by omega), byteAt_map f (by omega)]

theorem numF_congr {f g : Nat → Nat} : ∀ {m : Nat}, (∀ i, i < m → f i = g i) → numF f m = numF g m
  | 0, _ => rfl
  | m + 1, h => by
    show 256 * numF f m + f m = 256 * numF g m + g m
    rw [numF_congr (fun i hi => h i (by omega)), h m (by omega)]

theorem numF_byteAt (l : List Nat) : ∀ m, numF (byteAt l) m = preN l m
  | 0 => rfl
  | m + 1 => by
    show 256 * numF (byteAt l) m + byteAt l m = 256 * preN l m + byteAt l m
    rw [numF_byteAt l m]

theorem preN_lt {b : List Nat} (hb : Bytes b) : ∀ m, preN b m < 256 ^ m
  | 0 => by show 0 < 1; decide
  | m + 1 => by
    have h1 := preN_lt hb m
    have h2 := hb m
    show 256 * preN b m + byteAt b m < 256 ^ (m + 1)
    rw [Nat.pow_succ]
    omega

theorem openE_in {s : Es} (h1 : 8388608 < s.rng) (h2 : s.rng ≤ 2147483648) : 22 ≤ openE s ∧ openE s ≤ 30 := by
  have := lenN_in h1 h2
  unfold openE
  omega

theorem endE_in {s : Es} (h1 : 8388608 < s.rng) (h2 : s.rng ≤ 2147483648) : s.low ≤ endE s ∧ endE s + 2 ^ openE s ≤ s.low + s.rng :=
  firstE_in (free_bits (by have := lenN_in h1 h2; omega))

theorem endE_dvd (s : Es) {k : Nat} (h : k ≤ openE s) : endE s % 2 ^ k = 0 :=
  Nat.mod_eq_zero_of_dvd (Nat.dvd_trans (Nat.pow_dvd_pow 2 h) (Nat.dvd_mul_left _ _))

/-- What is asked of the writer where bytes are told. -/
structure Ends (s : Es) (n : Nat) : Prop where
  inv : InvE s
  few : n ≤ 1275
  room : 8 * s.back.length + s.waiting + 31 + 8 * s.front.length ≤ 8 * n + openE s

section
variable {s : Es} {n : Nat}

theorem Ends.open_ (h : Ends s n) : 22 ≤ openE s ∧ openE s ≤ 30 := openE_in h.inv.wide h.inv.pre.rhigh
theorem Ends.deep (h : Ends s n) : s.front.length + s.back.length + 1 ≤ n ∧ (openE s = 22 → s.front.length + s.back.length + 2 ≤ n) := by
  have := h.open_
  have := h.room
  omega

theorem Ends.not_full (h : Ends s n) : ¬ 1275 ≤ s.front.length + s.back.length := by
  have := h.deep
  have := h.few
  omega

theorem Ends.top (h : Ends s n) : endE s < 4294967296 := by
  have h1 := endE_in h.inv.wide h.inv.pre.rhigh
  have h2 := h.inv.pre.low
  have h3 := Nat.two_pow_pos (openE s)
  omega

theorem Ends.carry (h : Ends s n) (hc : 2147483648 ≤ endE s) : preN s.front s.front.length + 1 < 256 ^ s.front.length := by
  have h1 := endE_in h.inv.wide h.inv.pre.rhigh
  have h3 := Nat.two_pow_pos (openE s)
  rcases h.inv.pre.carry with h4 | h4
  · exact absurd h4 h.not_full
  · generalize 256 ^ s.front.length = q at *
    generalize preN s.front s.front.length = x at *
    omega

theorem carriedEnd_len (s : Es) : (carriedEnd s).length = s.front.length := by
  unfold carriedEnd
  split
  · exact carryN_len _ _
  · rfl

theorem carriedEnd_bytes {s : Es} (h : Bytes s.front) : Bytes (carriedEnd s) := by
  unfold carriedEnd
  split
  · exact carryN_bytes _ h
  · exact h

theorem Ends.base0 (h : Ends s n) : numF (baseF s) s.front.length = preN s.front s.front.length + endE s / 2147483648 := by
  have h1 := h.top
  rw [numF_congr (g := byteAt (carriedEnd s)) (fun i hi => by unfold baseF; rw [if_pos hi]), numF_byteAt]
  unfold carriedEnd
  split
  · rename_i hc
    rw [carryN_pre _ (Nat.le_refl _) (h.carry hc)]
    omega
  · omega

theorem Ends.base1 (h : Ends s n) (hm : 23 ≤ openE s) : numF (baseF s) (s.front.length + 1) * 2147483648 = (preN s.front s.front.length * 2147483648 + endE s) * 256 := by
  have h0 := h.base0
  have h1 : baseF s s.front.length = endE s / 8388608 % 256 := by unfold baseF; rw [if_neg (by omega), if_pos rfl]
  have h2 : endE s % 8388608 = 0 := endE_dvd s (k := 23) hm
  show (256 * numF (baseF s) s.front.length + baseF s s.front.length) * 2147483648 = _
  rw [h0, h1]
  generalize preN s.front s.front.length = x
  omega

theorem Ends.base2 (h : Ends s n) : numF (baseF s) (s.front.length + 2) * 2147483648 = (preN s.front s.front.length * 2147483648 + endE s) * 65536 := by
  have h0 := h.base0
  have h1 : baseF s s.front.length = endE s / 8388608 % 256 := by unfold baseF; rw [if_neg (by omega), if_pos rfl]
  have h3 : baseF s (s.front.length + 1) = endE s / 32768 % 256 := by unfold baseF; rw [if_neg (by omega), if_neg (by omega), if_pos rfl]
  have h2 : endE s % 32768 = 0 := endE_dvd s (k := 15) (by have := h.open_; omega)
  show (256 * (256 * numF (baseF s) s.front.length + baseF s s.front.length) + baseF s (s.front.length + 1)) * 2147483648 = _
  rw [h0, h1, h3]
  generalize preN s.front s.front.length = x
  omega

theorem Ends.base3 (h : Ends s n) : ∀ j, numF (baseF s) (s.front.length + 2 + j) * 2147483648 = (preN s.front s.front.length * 2147483648 + endE s) * 256 ^ (2 + j)
  | 0 => h.base2
  | j + 1 => by
    have ih := h.base3 j
    have h1 : baseF s (s.front.length + 2 + j) = 0 := by unfold baseF; rw [if_neg (by omega), if_neg (by omega), if_neg (by omega)]
    show (256 * numF (baseF s) (s.front.length + 2 + j) + baseF s (s.front.length + 2 + j)) * 2147483648 = _
    rw [h1, Nat.add_zero, Nat.mul_assoc, ih, show 2 + (j + 1) = (2 + j) + 1 by omega, Nat.pow_succ, Nat.mul_comm 256, Nat.mul_assoc]

theorem Ends.base (h : Ends s n) {d : Nat} (h1 : 1 ≤ d) (h2 : openE s = 22 → 2 ≤ d) : numF (baseF s) (s.front.length + d) * 2147483648 = (preN s.front s.front.length * 2147483648 + endE s) * 256 ^ d := by
  have := h.open_
  by_cases hd : d = 1
  · subst hd
    exact h.base1 (by omega)
  · obtain ⟨j, rfl⟩ : ∃ j, d = 2 + j := ⟨d - 2, by omega⟩
    have := h.base3 j
    rw [Nat.add_assoc] at this
    exact this

theorem byteAt_rev (l : List Nat) {j : Nat} (h : j < l.length) : byteAt l.reverse j = byteAt l (l.length - 1 - j) := by
  unfold byteAt
  rw [List.getElem?_reverse h]

theorem Ends.final0 (h : Ends s n) : numF (finalF s n) (n - s.back.length) = numF (baseF s) (n - s.back.length) + s.wait := by
  have hd := h.deep
  obtain ⟨t, ht⟩ : ∃ t, n - s.back.length = t + 1 := ⟨n - s.back.length - 1, by omega⟩
  rw [ht]
  have e1 : finalF s n t = baseF s t + s.wait := by unfold finalF doneF; rw [if_pos (by omega), if_pos (by omega)]
  have e2 : numF (finalF s n) t = numF (baseF s) t := numF_congr fun i hi => by unfold finalF doneF; rw [if_neg (by omega), if_pos (by omega)]
  show 256 * numF (finalF s n) t + finalF s n t = 256 * numF (baseF s) t + baseF s t + s.wait
  rw [e1, e2]
  omega

theorem Ends.final1 (h : Ends s n) : ∀ j, j ≤ s.back.length → numF (finalF s n) (n - s.back.length + j) = numF (finalF s n) (n - s.back.length) * 256 ^ j + preN s.back.reverse j
  | 0, _ => by show numF (finalF s n) (n - s.back.length) = numF (finalF s n) (n - s.back.length) * 256 ^ 0 + 0; simp
  | j + 1, hj => by
    have hd := h.deep
    have ih := h.final1 j (by omega)
    have e1 : finalF s n (n - s.back.length + j) = byteAt s.back.reverse j := by
      rw [byteAt_rev s.back (by omega)]
      unfold finalF doneF
      rw [if_neg (by omega), if_neg (by omega)]
      congr 1
      omega
    show 256 * numF (finalF s n) (n - s.back.length + j) + finalF s n (n - s.back.length + j) = _ + (256 * preN s.back.reverse j + byteAt s.back.reverse j)
    rw [e1, ih, Nat.pow_succ, ← Nat.mul_assoc]
    generalize numF (finalF s n) (n - s.back.length) * 256 ^ j = x
    omega

theorem Ends.num (h : Ends s n) : numN (doneL s n) = numF (baseF s) (n - s.back.length) * 256 ^ s.back.length + (preN s.back.reverse s.back.length + s.wait * 256 ^ s.back.length) := by
  have hd := h.deep
  have h1 := h.final1 s.back.length (Nat.le_refl _)
  rw [show n - s.back.length + s.back.length = n by omega, h.final0, Nat.add_mul] at h1
  unfold numN
  have hl : (doneL s n).length = n := by simp [doneL]
  rw [hl, doneL, preN_map _ (Nat.le_refl n), h1]
  omega

/-! ### What waits fits into its byte -/
theorem Ends.mod_last (h : Ends s n) : baseF s (n - s.back.length - 1) % 2 ^ s.waiting = 0 := by
  have hd := h.deep
  have ho := h.open_
  have hr := h.room
  have hf := h.inv.few
  have h256 : ∀ x, x % 2 ^ s.waiting = 0 → x % 256 % 2 ^ s.waiting = 0 := fun x hx => by
    rw [show (256 : Nat) = 2 ^ 8 by decide, Nat.mod_mod_of_dvd _ (Nat.pow_dvd_pow 2 (by omega))]
    exact hx
  have hdiv : ∀ k, k + s.waiting ≤ openE s → endE s / 2 ^ k % 2 ^ s.waiting = 0 := fun k hk => by
    have h1 := endE_dvd s (k := k + s.waiting) hk
    have h2 : endE s / 2 ^ k % 2 ^ s.waiting = endE s % 2 ^ (k + s.waiting) / 2 ^ k := by
      rw [Nat.pow_add, Nat.mod_mul_right_div_self]
    rw [h2, h1, Nat.zero_div]
  unfold baseF
  rw [if_neg (by omega)]
  split
  · exact h256 _ (hdiv 23 (by omega))
  · split
    · exact h256 _ (hdiv 15 (by omega))
    · exact Nat.zero_mod _

theorem fits_byte {x y w : Nat} (h1 : x < 256) (h2 : x % 2 ^ w = 0) (h3 : y < 2 ^ w) (h4 : w < 8) : x + y < 256 := by
  have h8 : w = 0 ∨ w = 1 ∨ w = 2 ∨ w = 3 ∨ w = 4 ∨ w = 5 ∨ w = 6 ∨ w = 7 := by omega
  rcases h8 with rfl | rfl | rfl | rfl | rfl | rfl | rfl | rfl <;> omega

theorem baseF_lt (h : Ends s n) (j : Nat) : baseF s j < 256 := by
  unfold baseF
  split
  · exact carriedEnd_bytes h.inv.pre.front j
  · split
    · omega
    · split
      · omega
      · decide

theorem doneF_lt (h : Ends s n) (j : Nat) : doneF s n j < 256 := by
  unfold doneF
  split
  · exact baseF_lt h j
  · exact h.inv.pre.back _

theorem finalF_lt (h : Ends s n) (j : Nat) : finalF s n j < 256 := by
  unfold finalF
  split
  · rename_i hj
    have e : doneF s n j = baseF s j := if_pos (by omega)
    rw [e]
    have h1 := h.mod_last
    rw [show n - s.back.length - 1 = j by omega] at h1
    exact fits_byte (baseF_lt h j) h1 h.inv.pre.wait h.inv.few
  · exact doneF_lt h j

theorem doneL_bytes (h : Ends s n) : Bytes (doneL s n) := fun i => by
  rcases Nat.lt_or_ge i n with hi | hi
  · rw [doneL, byteAt_map _ hi]; exact finalF_lt h i
  · unfold byteAt
    rw [List.getElem?_eq_none (by simp [doneL]; omega)]; decide

theorem doneL_len (s : Es) (n : Nat) : (doneL s n).length = n := by simp [doneL]
end

/-! ### They lie in the span -/
theorem ends_of {e : Sp} {R V : Nat} {s : Es} {n : Nat} (hi : InvE s) (hw : Wrote e R V s) (hs : SpOk e) (hn : n ≤ 1275) (ht : tellE e R ≤ 8 * (n : Int)) :
    Ends s n ∧ e.k = 3 + s.front.length ∧ e.low = preN s.front s.front.length * 2147483648 + s.low ∧ R = 8 * s.back.length + s.waiting ∧ V = preN s.back.reverse s.back.length + s.wait * 256 ^ s.back.length := by
  have hl := lenN_in hs.low hs.high
  unfold tellE at ht
  rcases hw.at_ with ⟨_, h2⟩ | ⟨h1, h2, h3, h4⟩
  · omega
  · refine ⟨⟨hi, hn, ?_⟩, h1, h2, h3, h4⟩
    unfold openE
    rw [hw.rng]
    omega

theorem pow_le_of {a b : Nat} (h : a ≤ b) : 2 ^ a ≤ 2 ^ b := Nat.pow_le_pow_right (by decide) h

theorem done_back {e : Sp} {R V : Nat} {s : Es} {n : Nat} (hi : InvE s) (hw : Wrote e R V s) (hs : SpOk e) (hn : n ≤ 1275) (ht : tellE e R ≤ 8 * (n : Int)) :
    Bytes (doneL s n) ∧ In (doneL s n) e ∧ bitsN (doneL s n) 0 R = V := by
  obtain ⟨he, h1, h2, h3, h4⟩ := ends_of hi hw hs hn ht
  have hb := doneL_bytes he
  have hl := doneL_len s n
  have ho := he.open_
  have hd := he.deep
  have hm : lenN e.rng - 2 = openE s := by unfold openE; rw [hw.rng]
  obtain ⟨d1, d2⟩ := done_in hb hs (R := R) (by rw [hl]; exact ht)
  rw [hm, hl] at d1 d2
  obtain ⟨Q, hQ⟩ : ∃ Q, 8 * n + 1 + openE s - 8 * (1 + e.k) = Q := ⟨_, rfl⟩
  rw [hQ] at d2
  have hRQ : R ≤ Q := by omega
  -- the highest bits
  have hE : firstE e.low (openE s) = preN s.front s.front.length * 2147483648 + endE s := by
    unfold endE firstE
    have hp := Nat.two_pow_pos (openE s)
    have e31 : (2147483648 : Nat) = 2 ^ (31 - openE s) * 2 ^ openE s := by
      rw [← Nat.pow_add, show 31 - openE s + openE s = 31 by omega]
    rw [h2]
    have e2 : preN s.front s.front.length * 2147483648 + s.low + 2 ^ openE s - 1 = (s.low + 2 ^ openE s - 1) + preN s.front s.front.length * 2 ^ (31 - openE s) * 2 ^ openE s := by
      rw [Nat.mul_assoc, ← e31]; omega
    rw [e2, Nat.add_mul_div_right _ _ hp, Nat.add_mul, Nat.mul_assoc (preN s.front s.front.length), ← e31]
    omega
  have hY : firstE e.low (openE s) = firstE e.low (openE s) / 2 ^ openE s * 2 ^ openE s := by
    unfold firstE
    rw [Nat.mul_div_cancel _ (Nat.two_pow_pos _)]
  obtain ⟨Y, hYe⟩ : ∃ Y, firstE e.low (openE s) / 2 ^ openE s = Y := ⟨_, rfl⟩
  rw [hYe] at hY d2
  have hbase := he.base (d := n - s.back.length - s.front.length) (by omega) (fun h => by have := hd.2 h; omega)
  rw [show s.front.length + (n - s.back.length - s.front.length) = n - s.back.length by omega, ← hE, hY] at hbase
  have hA : numF (baseF s) (n - s.back.length) * 256 ^ s.back.length = Y * 2 ^ Q := by
    have e1 : numF (baseF s) (n - s.back.length) * 256 ^ s.back.length * 2147483648 = Y * 2 ^ Q * 2147483648 := by
      rw [Nat.mul_assoc, Nat.mul_comm (256 ^ _), ← Nat.mul_assoc, hbase, Nat.mul_assoc, Nat.mul_assoc, Nat.mul_assoc]
      congr 1
      rw [pow_256, pow_256, show (2147483648 : Nat) = 2 ^ 31 by decide, ← Nat.pow_add, ← Nat.pow_add, ← Nat.pow_add]
      congr 1
      omega
    exact Nat.eq_of_mul_eq_mul_right (by decide) e1
  have hV : V < 2 ^ R := by
    have hrev : Bytes s.back.reverse := fun i => by
      rcases Nat.lt_or_ge i s.back.length with hi2 | hi2
      · rw [byteAt_rev _ hi2]; exact hi.pre.back _
      · unfold byteAt; rw [List.getElem?_eq_none (by simpa using hi2)]; decide
    have p1 := preN_lt hrev s.back.length
    have p2 := hi.pre.wait
    rw [h4, h3, Nat.pow_add, ← pow_256]
    have p3 : (s.wait + 1) * 256 ^ s.back.length ≤ 2 ^ s.waiting * 256 ^ s.back.length := Nat.mul_le_mul_right _ p2
    rw [Nat.add_mul, Nat.one_mul] at p3
    rw [Nat.mul_comm (256 ^ s.back.length) (2 ^ s.waiting)]
    omega
  have hnum := he.num
  rw [hA, ← h4] at hnum
  have hVQ : V < 2 ^ Q := Nat.lt_of_lt_of_le hV (pow_le_of hRQ)
  refine ⟨hb, d2 ?_, ?_⟩
  · rw [hnum, Nat.add_comm, Nat.add_mul_div_right _ _ (Nat.two_pow_pos Q), Nat.div_eq_of_lt hVQ, Nat.zero_add]
  · rw [raws_of_num hb, hnum]
    obtain ⟨c, rfl⟩ : ∃ c, Q = c + R := ⟨Q - R, by omega⟩
    rw [Nat.pow_add, ← Nat.mul_assoc, Nat.add_comm, Nat.add_mul_mod_self_right, Nat.mod_eq_of_lt hV]

end Go.Proofs.Ytinjkffkkmbioaa
