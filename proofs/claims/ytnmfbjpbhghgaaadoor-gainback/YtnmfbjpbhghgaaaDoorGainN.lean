/- Loudnesses one behind the other, as plain numbers: what is told of each, what is read; what is written has room, and is read back. Nothing here is of any program. -/
import Derived.Test.YtnmfbjpbhghgaaaDoorGainI
import Derived.Test.YtnmfbjpbhghgaaaDoorMB
namespace Go.Proofs.YtnmfbjpbhghgaaaDoor
open Go.RowKit

/-- The loudness that is told behind was, where g is asked for. -/
def stepW (was g : Int) : Int := nextI was (nextK g was)

theorem stepW_is {was g : Int} (h : 0 ≤ was ∧ was ≤ 63) : stepW was g = was + clampI (clampI g 0 63 - was) (-8) 8 ∧ 0 ≤ stepW was g ∧ stepW was g ≤ 63 := by
  have hg := clampI_in g 0 63 (by decide)
  unfold stepW nextI nextK
  have e : clampI was 0 63 = was := by unfold clampI; rw [if_neg (by omega), if_neg (by decide), if_neg (by omega)]
  rw [e]
  generalize clampI g 0 63 = G at *
  unfold clampI
  repeat' split
  all_goals omega

theorem nextK_in (g was : Int) : 0 ≤ nextK g was ∧ nextK g was ≤ 16 := clampI_in _ _ _ (by decide)

def endW (was : Int) : List Int → Int
  | [] => was
  | g :: l => endW (stepW was g) l

def nextsL (was : Int) : List Int → List Wr
  | [] => []
  | g :: l => symX (icdfL 2) (nextK g was) :: nextsL (stepW was g) l

def toldL (was : Int) : List Int → List Int
  | [] => []
  | g :: l => stepW was g :: toldL (stepW was g) l

theorem endW_snoc : ∀ (l : List Int) (was g : Int), endW was (l ++ [g]) = stepW (endW was l) g
  | [], _, _ => rfl
  | x :: l, was, g => endW_snoc l (stepW was x) g

theorem nextsL_snoc : ∀ (l : List Int) (was g : Int), nextsL was (l ++ [g]) = nextsL was l ++ [symX (icdfL 2) (nextK g (endW was l))]
  | [], _, _ => rfl
  | x :: l, was, g => by
    show symX _ _ :: nextsL (stepW was x) (l ++ [g]) = symX _ _ :: nextsL (stepW was x) l ++ [symX (icdfL 2) (nextK g (endW (stepW was x) l))]
    rw [nextsL_snoc l (stepW was x) g]
    rfl

theorem toldL_snoc : ∀ (l : List Int) (was g : Int), toldL was (l ++ [g]) = toldL was l ++ [stepW (endW was l) g]
  | [], _, _ => rfl
  | x :: l, was, g => by
    show stepW was x :: toldL (stepW was x) (l ++ [g]) = stepW was x :: toldL (stepW was x) l ++ [stepW (endW (stepW was x) l) g]
    rw [toldL_snoc l (stepW was x) g]
    rfl

theorem toldL_len : ∀ (l : List Int) (was : Int), (toldL was l).length = l.length
  | [], _ => rfl
  | x :: l, was => by show (toldL (stepW was x) l).length + 1 = l.length + 1; rw [toldL_len l (stepW was x)]

theorem nextsL_len : ∀ (l : List Int) (was : Int), (nextsL was l).length = l.length
  | [], _ => rfl
  | x :: l, was => by show (nextsL (stepW was x) l).length + 1 = l.length + 1; rw [nextsL_len l (stepW was x)]

theorem endW_in : ∀ (l : List Int) (was : Int), 0 ≤ was ∧ was ≤ 63 → 0 ≤ endW was l ∧ endW was l ≤ 63
  | [], _, h => h
  | g :: l, was, h => endW_in l (stepW was g) (stepW_is h).2

theorem toldL_at : ∀ (l : List Int) (was : Int) (j : Nat), j < l.length → (toldL was l)[j]?.getD 0 = endW was (l.take (j + 1))
  | [], _, _, h => absurd h (Nat.not_lt_zero _)
  | _ :: _, _, 0, _ => rfl
  | g :: l, was, j + 1, h => toldL_at l (stepW was g) j (Nat.lt_of_succ_lt_succ h)

theorem nextsL_ok : ∀ (l : List Int) (was : Int), ∀ x ∈ nextsL was l, okX x
  | [], _, x, h => by cases h
  | g :: l, was, x, h => by
    rcases List.mem_cons.1 h with rfl | h
    · exact nextW_ok (nextK_in g was) _ (by simp [nextW])
    · exact nextsL_ok l (stepW was g) x h

theorem take_more (l : List Int) {k : Nat} (h : k < l.length) : l.take (k + 1) = l.take k ++ [l[k]?.getD 0] := take_step l k h

theorem drop_more (l : List Int) {k : Nat} (h : k < l.length) : l.drop k = l[k]?.getD 0 :: l.drop (k + 1) := by
  rw [List.drop_eq_getElem_cons h, List.getElem?_eq_getElem h]; rfl

/-! ### What is written -/
theorem putsX_append : ∀ (l m : List Wr) (s : Es), putsX (l ++ m) s = putsX m (putsX l s)
  | [], _, _ => rfl
  | x :: l, m, s => putsX_append l m (putX x s)

theorem putsX_wrote : ∀ (l : List Wr) {s : Es} {e : Sp} {R V : Nat}, (∀ x ∈ l, okX x) → InvE s → SpOk e → Wrote e R V s → Wrote (spansL l e) (R + rawsN l) (V + rawsV l * 2 ^ R) (putsX l s)
  | [], s, e, R, V, _, _, _, hw => by
    show Wrote e (R + 0) (V + 0 * 2 ^ R) s
    rw [Nat.zero_mul]
    exact hw
  | x :: l, s, e, R, V, ho, hi, he, hw => by
    have hx := ho x (by simp)
    have h1 := putX_wrote hx hi he hw
    have h2 := putsX_wrote l (fun y hy => ho y (by simp [hy])) (putX_inv hx hi) (spanW_ok hx.okW he) h1
    show Wrote (spansL l (spanW x e)) (R + (rawN x + rawsN l)) (V + (rawV x + rawsV l * 2 ^ rawN x) * 2 ^ R) (putsX l (putX x s))
    rw [← Nat.add_assoc, Nat.add_mul, Nat.mul_assoc, ← Nat.pow_add, Nat.add_comm (rawN x) R, ← Nat.add_assoc]
    exact h2

theorem tell_many : ∀ (l : List Wr) (e : Sp) (R : Nat), (∀ x ∈ l, okX x) → SpOk e → tellE (spansL l e) (R + rawsN l) ≤ tellE e R + 48 * l.length
  | [], e, R, _, _ => by show tellE e (R + 0) ≤ _; simp
  | x :: l, e, R, ho, he => by
    have hx := (ho x (by simp)).okW
    have h1 := spanW_grows hx he R
    have h2 := tell_many l (spanW x e) (R + rawN x) (fun y hy => ho y (by simp [hy])) (spanW_ok hx he)
    show tellE (spansL l (spanW x e)) (R + (rawN x + rawsN l)) ≤ _
    rw [← Nat.add_assoc, List.length_cons]
    omega

/-- What was written, if it is little enough, is told whole, and read back. -/
theorem puts_told {l : List Wr} (ho : ∀ x ∈ l, okX x) (hl : l.length ≤ 33) : Ends (putsX l initE) 200 ∧ tellS (putsX l initE) ≤ 8 * ((200 : Nat) : Int) ∧ (putsX l initE).cnt ≤ 2000 ∧ Bytes (doneL (putsX l initE) 200) ∧
    AllRead (doneL (putsX l initE) 200) (tellS (putsX l initE)) l (initS (doneL (putsX l initE) 200)) := by
  have hw := putsX_wrote l ho initE_inv startE_ok initE_wrote
  obtain ⟨hi, hc⟩ := putsX_inv l initE ho initE_inv
  have hs := spansL_ok (l := l) (e := startE) (fun x hx => (ho x hx).okW) startE_ok
  have ht := tell_many l startE 0 ho startE_ok
  rw [Nat.zero_add] at hw ht
  rw [Nat.zero_add, Nat.pow_zero, Nat.mul_one] at hw
  have h0 : tellE startE 0 = 1 := by decide +kernel
  have e := tellS_is hw
  have hc0 : initE.cnt = 33 := by decide
  have ht2 : tellE (spansL l startE) (rawsN l) ≤ 8 * ((200 : Nat) : Int) := by omega
  obtain ⟨d1, d2, d3⟩ := done_back hi hw hs (by decide) ht2
  obtain ⟨r1, _, _⟩ := written_read d1 (fun x hx => (ho x hx).okW) d2 d3
  refine ⟨(ends_of hi hw hs (by decide) ht2).1, by rw [e]; exact ht2, by omega, d1, by rw [e]; exact r1⟩

/-! ### What is read -/
theorem readW_symV (b : List Nat) (t : List Int) (v : Int) (s : St) : readW b (symX t v) s = readW b (symX t 0) s := by rw [readW_sym, readW_sym]
theorem readW_uintV (b : List Nat) (n v : Int) (s : St) : readW b (uintX n v) s = readW b (uintX n 0) s := by rw [readW_uint, readW_uint]

theorem first_back {b : List Nat} {T : Int} {g : Int} {l : List Wr} {s : St} (h : AllRead b T (firstW g ++ l) s) : firstI b s = g ∧ AllRead b T l (afterL b firstX s) ∧ Inv (afterL b firstX s) := by
  obtain ⟨h1, _, _, _, h2, i2, _, _, h3⟩ := h
  rw [readW_symV] at h1 h2 i2 h3
  rw [readW_uintV] at h2 i2 h3
  refine ⟨?_, h3, i2⟩
  show 8 * (readW b (symX (icdfL 1) 0) s).1 + (readW b (uintX 8 0) (readW b (symX (icdfL 1) 0) s).2).1 = g
  rw [h1, h2]
  show 8 * (g / 8) + g % 8 = g
  omega

theorem next_back {b : List Nat} {T : Int} {was g : Int} {gs : List Int} {l : List Wr} {s : St} (h : AllRead b T (nextsL was (g :: gs) ++ l) s) :
    nextI was (readW b (symX (icdfL 2) 0) s).1 = stepW was g ∧ AllRead b T (nextsL (stepW was g) gs ++ l) (afterL b nextX s) ∧ Inv (afterL b nextX s) := by
  obtain ⟨h1, i1, _, _, h3⟩ := h
  rw [readW_symV] at h1 i1 h3
  refine ⟨?_, h3, i1⟩
  rw [h1]
  rfl

theorem ltp_back {b : List Nat} {T : Int} {L M lag taps : Int} {s : St} (h : AllRead b T (ltpW L M lag taps) s) :
    L + (readW b (uintX (M - L + 1) 0) s).1 = lag ∧ (readW b (symX (icdfL 6) 0) (readW b (uintX (M - L + 1) 0) s).2).1 = taps := by
  obtain ⟨h1, _, _, _, h2, _⟩ := h
  rw [readW_uintV] at h1 h2
  rw [readW_symV] at h2
  refine ⟨?_, h2⟩
  rw [h1]
  show L + (lag - L) = lag
  omega

end Go.Proofs.YtnmfbjpbhghgaaaDoor
