/- Packets as plain lists of numbers: another way to cut them: first how long all frames are, then the frames. It comes to the same. Nothing here is of any program. -/
import Derived.Test.YtgiellpepnbpcaaDoorTocO
namespace Go.Proofs.YtgiellpepnbpcaaDoor

/-- What a code stands for: how many frames, are lengths told, is there padding; and what is left. -/
def headP (code : Nat) (r : List Nat) : Option (Nat × Bool × Bool × List Nat) :=
  if code = 0 then some (1, false, false, r)
  else if code = 1 then some (2, false, false, r)
  else if code = 2 then some (2, true, false, r)
  else match r with
    | [] => none
    | v :: r' => some (v % 64, decide (v / 128 % 2 = 1), decide (v / 64 % 2 = 1), r')

def padP (r : List Nat) : Option (Nat × List Nat) :=
  match padN r 0 with
  | none => none
  | some (p, r') => if p ≤ r'.length then some (p, r'.take (r'.length - p)) else none

/-- One length; what is left is not asked. -/
def take2 : List Nat → Option (Nat × List Nat)
  | [] => none
  | n :: r => if n < 252 then some (n, r) else
    match r with
    | [] => none
    | m :: r' => some (n + 4 * m, r')

def lens2 : Nat → List Nat → Option (List Nat × List Nat)
  | 0, r => some ([], r)
  | k + 1, r =>
    match take2 r with
    | none => none
    | some (n, r') =>
      match lens2 k r' with
      | none => none
      | some (l, r'') => some (n :: l, r'')

def sizes2 (m : Nat) (told : Bool) (r : List Nat) : Option (List Nat × List Nat) :=
  if told then
    match lens2 (m - 1) r with
    | none => none
    | some (l, r') => if sumN l ≤ r'.length then some (l ++ [r'.length - sumN l], r') else none
  else if r.length % m = 0 then some (List.replicate m (r.length / m), r) else none

def cutF : List Nat → List Nat → List (List Nat)
  | [], _ => []
  | n :: l, r => r.take n :: cutF l (r.drop n)

def shortS (l : List Nat) : Bool := l.all fun n => decide (n ≤ 1275)

def bodyP (m : Nat) (told : Bool) (r : List Nat) : Option (List (List Nat)) :=
  match sizes2 m told r with
  | none => none
  | some (l, r') => if shortS l = true then some (cutF l r') else none

def parseP : List Nat → Option Pk
  | [] => none
  | h :: r =>
    if 11 < h / 8 then none
    else match headP (h % 4) r with
      | none => none
      | some (m, told, pd, r1) =>
        if m < 1 ∨ 120 < m * msN (h / 8) then none
        else match (if pd then padP r1 else some (0, r1)) with
          | none => none
          | some (p, r2) =>
            match bodyP m told r2 with
            | none => none
            | some fs => some { config := h / 8, ch := 1 + h / 4 % 2, frames := fs, pad := p }

/-! ### It is the same -/
theorem take2_some {r r' : List Nat} {n : Nat} (h : take2 r = some (n, r')) : takeLen r = if n ≤ r'.length then some (n, r') else none := by
  cases r with
  | nil => cases h
  | cons x r =>
    by_cases hx : x < 252
    · have e : take2 (x :: r) = some (x, r) := if_pos hx
      rw [e] at h
      cases h
      exact if_pos hx
    · cases r with
      | nil =>
        have e : take2 [x] = none := if_neg hx
        rw [e] at h
        cases h
      | cons m r =>
        have e : take2 (x :: m :: r) = some (x + 4 * m, r) := if_neg hx
        rw [e] at h
        cases h
        exact if_neg hx

theorem take2_none {r : List Nat} (h : take2 r = none) : takeLen r = none := by
  cases r with
  | nil => rfl
  | cons x r =>
    by_cases hx : x < 252
    · have e : take2 (x :: r) = some (x, r) := if_pos hx
      rw [e] at h; cases h
    · cases r with
      | nil => exact if_neg hx
      | cons m r =>
        have e : take2 (x :: m :: r) = some (x + 4 * m, r) := if_neg hx
        rw [e] at h; cases h

theorem take2_len {r r' : List Nat} {n : Nat} (h : take2 r = some (n, r')) : r'.length < r.length ∧ ∃ k, k ≤ 2 ∧ k ≤ r.length ∧ r' = r.drop k := by
  cases r with
  | nil => cases h
  | cons x r =>
    by_cases hx : x < 252
    · have e : take2 (x :: r) = some (x, r) := if_pos hx
      rw [e] at h; cases h
      exact ⟨by simp, 1, by omega, by simp, rfl⟩
    · cases r with
      | nil =>
        have e : take2 [x] = none := if_neg hx
        rw [e] at h; cases h
      | cons m r =>
        have e : take2 (x :: m :: r) = some (x + 4 * m, r) := if_neg hx
        rw [e] at h; cases h
        exact ⟨by simp; omega, 2, by omega, by simp, rfl⟩

theorem lens2_len : ∀ (k : Nat) {r r' : List Nat} {l : List Nat}, lens2 k r = some (l, r') → r'.length ≤ r.length ∧ l.length = k
  | 0, r, r', l, h => by cases h; exact ⟨Nat.le_refl _, rfl⟩
  | k + 1, r, r', l, h => by
    cases ht : take2 r with
    | none =>
      have e : lens2 (k + 1) r = none := by show (match take2 r with | none => none | some (n, r') => match lens2 k r' with | none => none | some (l, r'') => some (n :: l, r'')) = _; rw [ht]
      rw [e] at h; cases h
    | some q =>
      obtain ⟨n, r1⟩ := q
      have e : lens2 (k + 1) r = match lens2 k r1 with | none => none | some (l, r'') => some (n :: l, r'') := by show (match take2 r with | none => none | some (n, r') => match lens2 k r' with | none => none | some (l, r'') => some (n :: l, r'')) = _; rw [ht]
      rw [e] at h
      cases hl : lens2 k r1 with
      | none => rw [hl] at h; cases h
      | some q2 =>
        obtain ⟨l2, r2⟩ := q2
        rw [hl] at h
        cases h
        have h1 := (take2_len ht).1
        obtain ⟨h2, h3⟩ := lens2_len k hl
        exact ⟨by omega, by simp; exact h3⟩

/-- The sum at the end asks all that each length asks. -/
theorem lens_same : ∀ (k : Nat) (r : List Nat), (match lens2 k r with | none => none | some (l, r') => if sumN l ≤ r'.length then some (l, r') else none) = (match lensN k r with | none => none | some (l, r') => if sumN l ≤ r'.length then some (l, r') else none)
  | 0, r => rfl
  | k + 1, r => by
    have e2 : lens2 (k + 1) r = match take2 r with | none => none | some (n, r') => match lens2 k r' with | none => none | some (l, r'') => some (n :: l, r'') := rfl
    have eN : lensN (k + 1) r = match takeLen r with | none => none | some (n, r') => match lensN k r' with | none => none | some (l, r'') => some (n :: l, r'') := rfl
    cases ht : take2 r with
    | none =>
      have h1 := take2_none ht
      rw [e2, eN, ht, h1]
    | some q =>
      obtain ⟨n, r1⟩ := q
      have h1 := take2_some ht
      have ih := lens_same k r1
      rw [e2, eN, ht, h1]
      by_cases hn : n ≤ r1.length
      · rw [if_pos hn]
        simp only
        cases h2 : lens2 k r1 with
        | none =>
          cases h3 : lensN k r1 with
          | none => rfl
          | some q3 =>
            obtain ⟨l3, r3⟩ := q3
            rw [h2, h3] at ih
            simp only at ih ⊢
            by_cases hs : sumN l3 ≤ r3.length
            · rw [if_pos hs] at ih; cases ih
            · rw [if_neg (by show ¬ n + sumN l3 ≤ _; omega)]
        | some q2 =>
          obtain ⟨l2, r2⟩ := q2
          cases h3 : lensN k r1 with
          | none =>
            rw [h2, h3] at ih
            simp only at ih ⊢
            by_cases hs : sumN l2 ≤ r2.length
            · rw [if_pos hs] at ih; cases ih
            · rw [if_neg (by show ¬ n + sumN l2 ≤ _; omega)]
          | some q3 =>
            obtain ⟨l3, r3⟩ := q3
            rw [h2, h3] at ih
            simp only at ih ⊢
            by_cases hs : sumN l2 ≤ r2.length
            · rw [if_pos hs] at ih
              by_cases hs3 : sumN l3 ≤ r3.length
              · rw [if_pos hs3] at ih
                cases ih
                rfl
              · rw [if_neg hs3] at ih; cases ih
            · rw [if_neg hs] at ih
              by_cases hs3 : sumN l3 ≤ r3.length
              · rw [if_pos hs3] at ih; cases ih
              · rw [if_neg (by show ¬ n + sumN l2 ≤ _; omega), if_neg (by show ¬ n + sumN l3 ≤ _; omega)]
      · rw [if_neg hn]
        simp only
        cases h2 : lens2 k r1 with
        | none => rfl
        | some q2 =>
          obtain ⟨l2, r2⟩ := q2
          have := (lens2_len k h2).1
          simp only
          rw [if_neg (by show ¬ n + sumN l2 ≤ _; omega)]

theorem cutF_cut : ∀ (l r : List Nat), sumN l ≤ r.length → cutF (l ++ [r.length - sumN l]) r = cutN l r ∧ shortS (l ++ [r.length - sumN l]) = shortN (cutN l r)
  | [], r, _ => by
    show ([r.take (r.length - 0)] : List (List Nat)) = [r] ∧ shortS [r.length - 0] = shortN [r]
    rw [Nat.sub_zero, List.take_length]
    exact ⟨rfl, rfl⟩
  | n :: l, r, h => by
    have hs : n + sumN l ≤ r.length := h
    have hd : (r.drop n).length = r.length - n := List.length_drop ..
    obtain ⟨a1, a2⟩ := cutF_cut l (r.drop n) (by omega)
    have e : (r.drop n).length - sumN l = r.length - sumN (n :: l) := by show _ = r.length - (n + sumN l); omega
    rw [e] at a1 a2
    refine ⟨?_, ?_⟩
    · show r.take n :: cutF (l ++ [r.length - sumN (n :: l)]) (r.drop n) = r.take n :: cutN l (r.drop n)
      rw [a1]
    · show (decide (n ≤ 1275) && shortS (l ++ [r.length - sumN (n :: l)])) = (decide ((r.take n).length ≤ 1275) && shortN (cutN l (r.drop n)))
      rw [a2, List.length_take, Nat.min_eq_left (by omega)]

theorem cutF_even (k : Nat) : ∀ (m : Nat) (r : List Nat), r.length = m * k → cutF (List.replicate m k) r = evenN m k r ∧ shortS (List.replicate m k) = shortN (evenN m k r)
  | 0, r, _ => ⟨rfl, rfl⟩
  | m + 1, r, h => by
    rw [Nat.add_mul, Nat.one_mul] at h
    obtain ⟨a1, a2⟩ := cutF_even k m (r.drop k) (by rw [List.length_drop]; omega)
    rw [List.replicate_succ]
    refine ⟨?_, ?_⟩
    · show r.take k :: cutF (List.replicate m k) (r.drop k) = r.take k :: evenN m k (r.drop k)
      rw [a1]
    · show (decide (k ≤ 1275) && shortS (List.replicate m k)) = (decide ((r.take k).length ≤ 1275) && shortN (evenN m k (r.drop k)))
      rw [a2, List.length_take, Nat.min_eq_left (by omega)]

theorem bodyP_is {m : Nat} (told : Bool) (r : List Nat) : bodyP m told r = match bodyN m told r with | none => none | some fs => if shortN fs = true then some fs else none := by
  unfold bodyP sizes2 bodyN
  cases told
  · simp only [Bool.false_eq_true, if_false]
    by_cases hd : r.length % m = 0
    · rw [if_pos hd, if_pos hd]
      have hk : r.length = m * (r.length / m) := by have := Nat.div_add_mod r.length m; omega
      obtain ⟨a1, a2⟩ := cutF_even (r.length / m) m r hk
      simp only [a1, a2]
    · rw [if_neg hd, if_neg hd]
  · simp only [if_true]
    have h := lens_same (m - 1) r
    cases h2 : lens2 (m - 1) r with
    | none =>
      rw [h2] at h
      cases h3 : lensN (m - 1) r with
      | none => rfl
      | some q =>
        obtain ⟨l, r'⟩ := q
        rw [h3] at h
        simp only at h ⊢
        by_cases hs : sumN l ≤ r'.length
        · rw [if_pos hs] at h; cases h
        · rw [if_neg hs]
    | some q2 =>
      obtain ⟨l2, r2⟩ := q2
      rw [h2] at h
      simp only at h ⊢
      by_cases hs : sumN l2 ≤ r2.length
      · rw [if_pos hs] at h ⊢
        cases h3 : lensN (m - 1) r with
        | none => rw [h3] at h; cases h
        | some q =>
          obtain ⟨l, r'⟩ := q
          rw [h3] at h
          simp only at h ⊢
          by_cases hs3 : sumN l ≤ r'.length
          · rw [if_pos hs3] at h ⊢
            cases h
            obtain ⟨a1, a2⟩ := cutF_cut l2 r2 hs3
            simp only [a1, a2]
          · rw [if_neg hs3] at h; cases h
      · rw [if_neg hs] at h ⊢
        cases h3 : lensN (m - 1) r with
        | none => rfl
        | some q =>
          obtain ⟨l, r'⟩ := q
          rw [h3] at h
          simp only at h ⊢
          by_cases hs3 : sumN l ≤ r'.length
          · rw [if_pos hs3] at h; cases h
          · rw [if_neg hs3]

theorem even_one (r : List Nat) : bodyN 1 false r = some [r] := by
  unfold bodyN
  rw [if_neg (by simp), if_pos (Nat.mod_one _), Nat.div_one]
  show some [r.take r.length] = _
  rw [List.take_length]

theorem even_two (r : List Nat) : bodyN 2 false r = if r.length % 2 = 1 then none else some [r.take (r.length / 2), r.drop (r.length / 2)] := by
  unfold bodyN
  rw [if_neg (by simp)]
  by_cases h : r.length % 2 = 0
  · rw [if_pos h, if_neg (by omega)]
    show some [r.take (r.length / 2), (r.drop (r.length / 2)).take (r.length / 2)] = _
    rw [List.take_of_length_le (l := r.drop (r.length / 2)) (by rw [List.length_drop]; omega)]
  · rw [if_neg h, if_pos (by omega)]

theorem told_two (r : List Nat) : bodyN 2 true r = match takeLen r with | none => none | some (n, r') => some [r'.take n, r'.drop n] := by
  unfold bodyN
  rw [if_pos rfl]
  have e : lensN (2 - 1) r = match takeLen r with | none => none | some (n, r') => some ([n], r') := rfl
  rw [e]
  cases h : takeLen r with
  | none => rfl
  | some q =>
    obtain ⟨n, r'⟩ := q
    have hn := (takeLen_is h).2.1
    simp only
    rw [if_pos (by show n + 0 ≤ _; omega)]
    rfl

theorem parse_eq : ∀ b : List Nat, parseP b = parseN b
  | [] => rfl
  | h :: r => by
    unfold parseP parseN
    simp only
    by_cases hc : 11 < h / 8
    · rw [if_pos hc, if_pos hc]
    · rw [if_neg hc, if_neg hc]
      have h4 : h % 4 < 4 := Nat.mod_lt _ (by decide)
      have hms := msN_in (h / 8)
      unfold framesN headP
      by_cases c0 : h % 4 = 0
      · rw [if_pos c0, if_pos c0]
        simp only
        rw [if_neg (by omega)]
        simp only [Bool.false_eq_true, if_false]
        rw [bodyP_is, even_one]
        by_cases hs : shortN [r] = true
        · simp only [hs, if_true]
        · simp only [if_neg hs]
      rw [if_neg c0, if_neg c0]
      by_cases c1 : h % 4 = 1
      · rw [if_pos c1, if_pos c1]
        simp only
        rw [if_neg (by omega)]
        simp only [Bool.false_eq_true, if_false]
        rw [bodyP_is, even_two]
        by_cases hp : r.length % 2 = 1
        · rw [if_pos hp, if_pos hp]
        · rw [if_neg hp, if_neg hp]
          simp only
          by_cases hs : shortN [r.take (r.length / 2), r.drop (r.length / 2)] = true
          · simp only [hs, if_true]
          · simp only [if_neg hs]
      rw [if_neg c1, if_neg c1]
      by_cases c2 : h % 4 = 2
      · rw [if_pos c2, if_pos c2]
        simp only
        rw [if_neg (by omega)]
        simp only [Bool.false_eq_true, if_false]
        rw [bodyP_is, told_two]
        cases takeLen r with
        | none => rfl
        | some q =>
          obtain ⟨n, r'⟩ := q
          simp only
          by_cases hs : shortN [r'.take n, r'.drop n] = true
          · simp only [hs, if_true]
          · simp only [if_neg hs]
      rw [if_neg c2, if_neg c2]
      cases r with
      | nil => rfl
      | cons v r =>
        unfold manyN
        simp only
        by_cases hm : v % 64 = 0 ∨ 120 < v % 64 * msN (h / 8)
        · rw [if_pos hm, if_pos (by omega)]
        · rw [if_neg hm, if_neg (by omega)]
          by_cases hp : v / 64 % 2 = 1
          · rw [if_pos hp]
            simp only [hp, decide_true, if_true]
            unfold padP
            cases padN r 0 with
            | none => rfl
            | some q =>
              obtain ⟨p, r'⟩ := q
              simp only
              by_cases hl : p ≤ r'.length
              · rw [if_pos hl, if_pos hl]
                simp only
                rw [bodyP_is]
                cases bodyN (v % 64) (decide (v / 128 % 2 = 1)) (r'.take (r'.length - p)) with
                | none => rfl
                | some fs =>
                  simp only [Option.map_some]
                  by_cases hs : shortN fs = true
                  · simp only [hs, if_true]
                  · simp only [if_neg hs]
              · rw [if_neg hl, if_neg hl]
          · rw [if_neg hp]
            simp only [hp, decide_false, Bool.false_eq_true, if_false]
            rw [bodyP_is]
            cases bodyN (v % 64) (decide (v / 128 % 2 = 1)) r with
            | none => rfl
            | some fs =>
              simp only [Option.map_some]
              by_cases hs : shortN fs = true
              · simp only [hs, if_true]
              · simp only [if_neg hs]

end Go.Proofs.YtgiellpepnbpcaaDoor
