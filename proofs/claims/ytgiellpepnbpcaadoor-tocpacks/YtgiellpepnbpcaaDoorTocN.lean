/- Packets as plain lists of numbers: what is cut out of any bytes may be put together again, in hardly more of them. Nothing here is of any program. -/
import Derived.Test.YtgiellpepnbpcaaDoorTocM
namespace Go.Proofs.YtgiellpepnbpcaaDoor

theorem takeLen_is {r r' : List Nat} {n : Nat} (h : takeLen r = some (n, r')) : (putN n).length + r'.length = r.length ∧ n ≤ r'.length ∧ ∃ k, r' = r.drop k := by
  cases r with
  | nil => cases h
  | cons x r =>
    by_cases hx : x < 252
    · have e : takeLen (x :: r) = if x ≤ r.length then some (x, r) else none := by
        show (if x < 252 then (if x ≤ r.length then some (x, r) else none) else _) = _
        rw [if_pos hx]
      rw [e] at h
      split at h
      · rename_i hle
        cases h
        refine ⟨?_, hle, 1, rfl⟩
        unfold putN
        rw [if_pos (by omega)]
        simp
        omega
      · cases h
    · cases r with
      | nil =>
        have e : takeLen [x] = none := by
          show (if x < 252 then (if x ≤ 0 then some (x, []) else none) else none) = _
          rw [if_neg hx]
        rw [e] at h; cases h
      | cons m r =>
        have e : takeLen (x :: m :: r) = if x + 4 * m ≤ r.length then some (x + 4 * m, r) else none := by
          show (if x < 252 then _ else if x + 4 * m ≤ r.length then some (x + 4 * m, r) else none) = _
          rw [if_neg hx]
        rw [e] at h
        split at h
        · rename_i hle
          cases h
          refine ⟨?_, hle, 2, rfl⟩
          unfold putN
          rw [if_neg (by omega)]
          simp
          omega
        · cases h

theorem lensN_is : ∀ (k : Nat) {r r' : List Nat} {l : List Nat}, lensN k r = some (l, r') → (putsN l).length + r'.length = r.length ∧ l.length = k ∧ ∃ q, r' = r.drop q
  | 0, r, r', l, h => by
    cases h
    exact ⟨by simp [putsN], rfl, 0, rfl⟩
  | k + 1, r, r', l, h => by
    cases ht : takeLen r with
    | none =>
      have e : lensN (k + 1) r = none := by
        show (match takeLen r with | none => none | some (n, r') => match lensN k r' with | none => none | some (l, r'') => some (n :: l, r'')) = _
        rw [ht]
      rw [e] at h; cases h
    | some x =>
      obtain ⟨n, r1⟩ := x
      have e : lensN (k + 1) r = match lensN k r1 with | none => none | some (l, r'') => some (n :: l, r'') := by
        show (match takeLen r with | none => none | some (n, r') => match lensN k r' with | none => none | some (l, r'') => some (n :: l, r'')) = _
        rw [ht]
      rw [e] at h
      cases hl : lensN k r1 with
      | none => rw [hl] at h; cases h
      | some y =>
        obtain ⟨l2, r2⟩ := y
        rw [hl] at h
        cases h
        obtain ⟨a1, _, q1, a3⟩ := takeLen_is ht
        obtain ⟨b1, b2, q2, b3⟩ := lensN_is k hl
        refine ⟨?_, by simp [b2], q1 + q2, by rw [b3, a3, List.drop_drop]⟩
        show (putN n ++ putsN l2).length + _ = _
        rw [List.length_append]
        omega

theorem padN_is : ∀ (r : List Nat) (q : Nat) {p : Nat} {r' : List Nat}, (∀ x ∈ r, x < 256) → padN r q = some (p, r') → q ≤ p ∧ (p - q) / 254 + r'.length ≤ r.length ∧ r'.length < r.length ∧ ∃ k, r' = r.drop k
  | [], _, _, _, _, h => by cases h
  | c :: r, q, p, r', hb, h => by
    by_cases hc : c = 255
    · have e : padN (c :: r) q = padN r (q + 254) := if_pos hc
      rw [e] at h
      obtain ⟨a1, a2, a3, k, a4⟩ := padN_is r (q + 254) (fun x hx => hb x (by simp [hx])) h
      refine ⟨by omega, ?_, by simp; omega, k + 1, a4⟩
      show (p - q) / 254 + r'.length ≤ r.length + 1
      omega
    · have e : padN (c :: r) q = some (q + c, r) := if_neg hc
      rw [e] at h
      cases h
      have := hb c (by simp)
      refine ⟨by omega, ?_, by simp, 1, rfl⟩
      show (q + c - q) / 254 + r.length ≤ r.length + 1
      omega

theorem cutN_is : ∀ (l r : List Nat), sumN l ≤ r.length → lensOf (cutN l r) = l ∧ flatN (cutN l r) = r ∧ (cutN l r).length = l.length + 1
  | [], r, _ => by
    refine ⟨rfl, ?_, rfl⟩
    show r ++ [] = r
    simp
  | n :: l, r, h => by
    have hs : n + sumN l ≤ r.length := h
    obtain ⟨a1, a2, a3⟩ := cutN_is l (r.drop n) (by rw [List.length_drop]; omega)
    obtain ⟨g, gs, e⟩ : ∃ g gs, cutN l (r.drop n) = g :: gs := by
      cases hc : cutN l (r.drop n) with
      | nil => rw [hc] at a3; simp at a3
      | cons g gs => exact ⟨g, gs, rfl⟩
    refine ⟨?_, ?_, by show (cutN l (r.drop n)).length + 1 = _; rw [a3]; rfl⟩
    · show lensOf (r.take n :: cutN l (r.drop n)) = _
      rw [e] at a1 ⊢
      show (r.take n).length :: lensOf (g :: gs) = _
      rw [a1, List.length_take, Nat.min_eq_left (by omega)]
    · show r.take n ++ flatN (cutN l (r.drop n)) = r
      rw [a2, List.take_append_drop]

theorem evenN_is (k : Nat) : ∀ (m : Nat) (r : List Nat), r.length = m * k → (∀ f ∈ evenN m k r, f.length = k) ∧ flatN (evenN m k r) = r ∧ (evenN m k r).length = m
  | 0, r, h => by
    have : r = [] := List.eq_nil_of_length_eq_zero (by omega)
    subst this
    exact ⟨fun f hf => (by cases hf), rfl, rfl⟩
  | m + 1, r, h => by
    rw [Nat.add_mul, Nat.one_mul] at h
    obtain ⟨a1, a2, a3⟩ := evenN_is k m (r.drop k) (by rw [List.length_drop]; omega)
    refine ⟨fun f hf => ?_, ?_, by show (evenN m k (r.drop k)).length + 1 = _; rw [a3]⟩
    · rcases List.mem_cons.1 hf with h1 | h1
      · rw [h1, List.length_take, Nat.min_eq_left (by omega)]
      · exact a1 f h1
    · show r.take k ++ flatN (evenN m k (r.drop k)) = r
      rw [a2, List.take_append_drop]

/-- How many bytes lengths take, where they are told. -/
def toldN (fs : List (List Nat)) : Nat := if alikeN fs = true then 0 else (putsN (lensOf fs)).length

theorem bodyN_is {m : Nat} (hm : 1 ≤ m) {told : Bool} {r : List Nat} {fs : List (List Nat)} (h : bodyN m told r = some fs) : fs.length = m ∧ toldN fs + (flatN fs).length ≤ r.length := by
  unfold bodyN at h
  cases told
  · rw [if_neg (by simp)] at h
    split at h
    · rename_i hd
      cases h
      obtain ⟨a1, a2, a3⟩ := evenN_is (r.length / m) m r (by have := Nat.div_add_mod r.length m; rw [hd] at this; omega)
      refine ⟨a3, ?_⟩
      unfold toldN
      rw [if_pos (alike_of a1), a2]
      omega
    · cases h
  · rw [if_pos rfl] at h
    cases hl : lensN (m - 1) r with
    | none => rw [hl] at h; cases h
    | some x =>
      obtain ⟨l, r'⟩ := x
      rw [hl] at h
      simp only at h
      split at h
      · rename_i hs
        cases h
        obtain ⟨b1, b2, _⟩ := lensN_is (m - 1) hl
        obtain ⟨c1, c2, c3⟩ := cutN_is l r' hs
        refine ⟨by rw [c3, b2]; omega, ?_⟩
        unfold toldN
        rw [c1, c2]
        split <;> omega
      · cases h

/-- How many bytes a packet takes. -/
def sizeN (p : Pk) : Nat := (packN p).length

theorem padBytes_len (p : Nat) : (padBytes p).length = p / 254 + 1 := by simp [padBytes]

theorem sizeN_le (p : Pk) : sizeN p ≤ 2 + (if p.pad = 0 then 0 else p.pad / 254 + 1) + toldN p.frames + (flatN p.frames).length + p.pad ∧
    (p.pad = 0 → p.frames.length = 1 → sizeN p = 1 + (flatN p.frames).length) ∧ (p.pad = 0 → p.frames.length = 2 → sizeN p = 1 + toldN p.frames + (flatN p.frames).length) := by
  unfold sizeN packN packT toldN
  by_cases c1 : p.pad = 0 ∧ p.frames.length = 1
  · rw [if_pos c1]
    refine ⟨?_, fun _ _ => ?_, fun _ h => ?_⟩
    · simp only [List.length_cons]; omega
    · simp only [List.length_cons]; omega
    · omega
  · rw [if_neg c1]
    by_cases c2 : p.pad = 0 ∧ p.frames.length = 2 ∧ alikeN p.frames = true
    · rw [if_pos c2, if_pos c2.2.2]
      refine ⟨?_, fun h1 h2 => absurd ⟨h1, h2⟩ c1, fun _ _ => ?_⟩
      · simp only [List.length_cons]; omega
      · simp only [List.length_cons]; omega
    · rw [if_neg c2]
      by_cases c3 : p.pad = 0 ∧ p.frames.length = 2
      · have ha : ¬ alikeN p.frames = true := fun h => c2 ⟨c3.1, c3.2, h⟩
        rw [if_pos c3, if_neg ha]
        refine ⟨?_, fun h1 h2 => absurd ⟨h1, h2⟩ c1, fun _ _ => ?_⟩
        · simp only [List.length_cons, List.length_append]; omega
        · simp only [List.length_cons, List.length_append]; omega
      · rw [if_neg c3]
        refine ⟨?_, fun h1 h2 => absurd ⟨h1, h2⟩ c1, fun h1 h2 => absurd ⟨h1, h2⟩ c3⟩
        simp only [List.length_cons, List.length_append, List.length_replicate]
        have hp := padBytes_len p.pad
        split <;> split <;> (try simp only [List.length_nil]) <;> omega

/-- What is cut out of any bytes. -/
structure CutOf (h : Nat) (r : List Nat) (fs : List (List Nat)) (pad : Nat) : Prop where
  some_ : 1 ≤ fs.length
  time : fs.length * msN (h / 8) ≤ 120
  room : (flatN fs).length + pad ≤ r.length
  size : ∀ c ch, sizeN { config := c, ch := ch, frames := fs, pad := pad } ≤ r.length + 2

theorem flat_two (f g : List Nat) : (flatN [f, g]).length = f.length + g.length := by show (f ++ (g ++ [])).length = _; simp

theorem framesN_is {h : Nat} {r : List Nat} (hb : ∀ x ∈ r, x < 256) {fs : List (List Nat)} {pad : Nat} (hf : framesN h r = some (fs, pad)) : CutOf h r fs pad := by
  have hms := msN_in (h / 8)
  unfold framesN at hf
  split at hf
  · cases hf
    have e : (flatN [r]).length = r.length := by show (r ++ []).length = _; simp
    refine ⟨by simp, by show 1 * _ ≤ _; omega, by omega, fun c ch => ?_⟩
    have := (sizeN_le { config := c, ch := ch, frames := [r], pad := 0 }).2.1 rfl rfl
    rw [this]
    show 1 + (flatN [r]).length ≤ _
    omega
  · split at hf
    · split at hf
      · cases hf
      · rename_i hodd
        cases hf
        have e := flat_two (r.take (r.length / 2)) (r.drop (r.length / 2))
        rw [List.length_take, List.length_drop, Nat.min_eq_left (by omega)] at e
        refine ⟨by simp, by show 2 * _ ≤ _; omega, by omega, fun c ch => ?_⟩
        have := (sizeN_le { config := c, ch := ch, frames := [r.take (r.length / 2), r.drop (r.length / 2)], pad := 0 }).2.2 rfl rfl
        rw [this]
        have ha : alikeN [r.take (r.length / 2), r.drop (r.length / 2)] = true := alike_of (k := r.length / 2) fun f hf => by
          rcases List.mem_cons.1 hf with h1 | h1
          · rw [h1, List.length_take]; omega
          · have h2 : f = r.drop (r.length / 2) := by simpa using h1
            rw [h2, List.length_drop]; omega
        show 1 + toldN [r.take (r.length / 2), r.drop (r.length / 2)] + (flatN [r.take (r.length / 2), r.drop (r.length / 2)]).length ≤ _
        unfold toldN
        rw [if_pos ha]
        omega
    · split at hf
      · cases ht : takeLen r with
        | none => rw [ht] at hf; cases hf
        | some x =>
          obtain ⟨n, r'⟩ := x
          rw [ht] at hf
          cases hf
          obtain ⟨a1, a2, _⟩ := takeLen_is ht
          have e := flat_two (r'.take n) (r'.drop n)
          rw [List.length_take, List.length_drop, Nat.min_eq_left a2] at e
          refine ⟨by simp, by show 2 * _ ≤ _; omega, by omega, fun c ch => ?_⟩
          have := (sizeN_le { config := c, ch := ch, frames := [r'.take n, r'.drop n], pad := 0 }).2.2 rfl rfl
          rw [this]
          show 1 + toldN [r'.take n, r'.drop n] + (flatN [r'.take n, r'.drop n]).length ≤ _
          unfold toldN
          have e2 : (putsN (lensOf [r'.take n, r'.drop n])).length = (putN n).length := by
            show (putN (r'.take n).length ++ []).length = _
            rw [List.append_nil, List.length_take, Nat.min_eq_left a2]
          split <;> omega
      · cases r with
        | nil => cases hf
        | cons c r1 =>
          have hb1 : ∀ x ∈ r1, x < 256 := fun x hx => hb x (by simp [hx])
          unfold manyN at hf
          simp only at hf
          split at hf
          · cases hf
          · rename_i hm
            split at hf
            · cases hp : padN r1 0 with
              | none => rw [hp] at hf; cases hf
              | some x =>
                obtain ⟨p, r2⟩ := x
                rw [hp] at hf
                simp only at hf
                split at hf
                · rename_i hle
                  obtain ⟨b1, b2, b3, _⟩ := padN_is r1 0 hb1 hp
                  cases hbd : bodyN (c % 64) (decide (c / 128 % 2 = 1)) (r2.take (r2.length - p)) with
                  | none => rw [hbd] at hf; cases hf
                  | some gs =>
                    rw [hbd] at hf
                    cases hf
                    obtain ⟨d1, d2⟩ := bodyN_is (by omega) hbd
                    rw [List.length_take, Nat.min_eq_left (by omega)] at d2
                    have es : (c :: r1).length = r1.length + 1 := rfl
                    refine ⟨by omega, by rw [d1]; omega, by omega, fun cc ch => ?_⟩
                    have := (sizeN_le { config := cc, ch := ch, frames := fs, pad := pad }).1
                    simp only at this
                    split at this <;> omega
                · cases hf
            · cases hbd : bodyN (c % 64) (decide (c / 128 % 2 = 1)) r1 with
              | none => rw [hbd] at hf; cases hf
              | some gs =>
                rw [hbd] at hf
                cases hf
                obtain ⟨d1, d2⟩ := bodyN_is (by omega) hbd
                have es : (c :: r1).length = r1.length + 1 := rfl
                refine ⟨by omega, by rw [d1]; omega, by omega, fun cc ch => ?_⟩
                have := (sizeN_le { config := cc, ch := ch, frames := fs, pad := 0 }).1
                simp only [if_pos] at this
                omega

/-- Whatever is cut: it may be put together again, where its padding isn't too much, in hardly more bytes; its frames are fewer bytes than it was. -/
theorem parse_is {b : List Nat} (hb : ∀ x ∈ b, x < 256) {p : Pk} (h : parseN b = some p) :
    (p.pad ≤ 1000 → GoodP p) ∧ p.config ≤ 11 ∧ 1 ≤ p.frames.length ∧ p.frames.length * msN p.config ≤ 120 ∧ (∀ f ∈ p.frames, f.length ≤ 1275) ∧ (flatN p.frames).length < b.length ∧ (packN p).length ≤ b.length + 1 := by
  cases b with
  | nil => cases h
  | cons x r =>
    have hbr : ∀ y ∈ r, y < 256 := fun y hy => hb y (by simp [hy])
    unfold parseN at h
    simp only at h
    split at h
    · cases h
    · rename_i h11
      cases hf : framesN x r with
      | none => rw [hf] at h; cases h
      | some y =>
        obtain ⟨fs, pad⟩ := y
        rw [hf] at h
        simp only at h
        split at h
        · rename_i hs
          cases h
          have hc := framesN_is hbr hf
          have hsh : ∀ f ∈ fs, f.length ≤ 1275 := fun f hf => by simpa using List.all_eq_true.1 hs f hf
          have hroom := hc.room
          have hsize := hc.size (x / 8) (1 + x / 4 % 2)
          refine ⟨fun hp => ⟨by show x / 8 ≤ 11; omega, by show 1 ≤ 1 + x / 4 % 2 ∧ 1 + x / 4 % 2 ≤ 2; omega, hc.some_, hc.time, hsh, hp⟩, by show x / 8 ≤ 11; omega, hc.some_, hc.time, hsh, ?_, ?_⟩
          · show (flatN fs).length < r.length + 1; omega
          · show sizeN _ ≤ r.length + 1 + 1; exact hsize
        · cases h

/-- So what any bytes hold, put together and cut again, is the same. -/
theorem repack {b : List Nat} (hb : ∀ x ∈ b, x < 256) {p : Pk} (h : parseN b = some p) (hp : p.pad ≤ 1000) : parseN (packN p) = some p := parse_pack ((parse_is hb h).1 hp)

end Go.Proofs.YtgiellpepnbpcaaDoor
