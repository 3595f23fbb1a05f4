/- A whole writing, as plain numbers: what each thing written does to the writer's span and to the bits from the end; bytes that lie in the last span, and whose bits from the end are those written, are read back as they were written, and never are bad. Nothing here is of any program. -/
import Derived.Test.YtinjkffkkmbioaaRencO
namespace Go.Proofs.Ytinjkffkkmbioaa

/-- One thing written: a symbol of a table (0), a flag (1), bits (2), a number below another (3), a number that is mostly small (4: f is a number of its part), a symbol of the document's table n (else). -/
structure Wr where
  op : Int
  v : Int
  n : Int
  m : Int
  t : List Int
  f : Nat

/-- What reads it. -/
def readW (b : List Nat) (x : Wr) (s : St) : Int × St :=
  if x.op = 0 then (((symS b x.t s).1 : Nat), (symS b x.t s).2)
  else if x.op = 1 then (if (flagS b x.n s).1 then 1 else 0, (flagS b x.n s).2)
  else if x.op = 2 then (((bitsS b x.n s).1 : Nat), (bitsS b x.n s).2)
  else if x.op = 3 then (((uintS b x.n s).1 : Nat), (uintS b x.n s).2)
  else if x.op = 4 then lapS b x.n x.m s
  else (((symS b (icdfL x.n) s).1 : Nat), (symS b (icdfL x.n) s).2)

def symOk (t : List Int) (v : Int) : Prop := goodB t = true ∧ 0 ≤ v ∧ v < t.length

/-- May it be written? -/
def okW (x : Wr) : Prop :=
  if x.op = 0 then symOk x.t x.v
  else if x.op = 1 then 1 ≤ x.n ∧ x.n ≤ 15 ∧ (x.v = 0 ∨ x.v = 1)
  else if x.op = 2 then 0 ≤ x.n ∧ x.n ≤ 24 ∧ 0 ≤ x.v ∧ x.v.toNat < 2 ^ x.n.toNat
  else if x.op = 3 then 1 ≤ x.n ∧ x.n ≤ 4294967295 ∧ 0 ≤ x.v ∧ x.v < x.n
  else if x.op = 4 then lapOk x.n x.m ∧ x.f < 32768 ∧ x.v = (lapAll x.n.toNat x.m.toNat x.f).1
  else symOk (icdfL x.n) x.v

def symE (t : List Int) (v : Int) (e : Sp) : Sp := putE e (symFl t v.toNat) (symFh t v.toNat) 256

def uintE (v n : Nat) (e : Sp) : Sp :=
  if n ≤ 1 then e else if n ≤ 256 then putE e v (v + 1) n else putE e (v / 2 ^ shiftN n) (v / 2 ^ shiftN n + 1) (partN n)

def lapE (fs decay f : Nat) (e : Sp) : Sp := putE e (lapAll fs decay f).2.1 (min (lapAll fs decay f).2.2 32768) 32768

/-- The span behind it. -/
def spanW (x : Wr) (e : Sp) : Sp :=
  if x.op = 0 then symE x.t x.v e
  else if x.op = 1 then putFlagE (decide (x.v = 1)) x.n.toNat e
  else if x.op = 2 then e
  else if x.op = 3 then uintE x.v.toNat x.n.toNat e
  else if x.op = 4 then lapE x.n.toNat x.m.toNat x.f e
  else symE (icdfL x.n) x.v e

/-- How many bits from the end it lays, and which. -/
def rawN (x : Wr) : Nat := if x.op = 2 then x.n.toNat else if x.op = 3 then (if x.n.toNat ≤ 256 then 0 else shiftN x.n.toNat) else 0
def rawV (x : Wr) : Nat := if x.op = 2 then x.v.toNat else if x.op = 3 then (if x.n.toNat ≤ 256 then 0 else x.v.toNat % 2 ^ shiftN x.n.toNat) else 0

theorem symE_in {b : List Nat} (hb : Bytes b) {t : List Int} {v : Int} (h : symOk t v) {e : Sp} (hin : In b (symE t v e)) : In b e := by
  obtain ⟨h1, h2, h3⟩ := h
  obtain ⟨p1, p2⟩ := sym_part h1 (v := v.toNat) (by omega)
  exact in_put hb p1 p2 hin

theorem uintE_in {b : List Nat} (hb : Bytes b) {v n : Nat} (h : v < n) (h2 : n ≤ 4294967295) {e : Sp} (hin : In b (uintE v n e)) : In b e := by
  unfold uintE at hin
  split at hin
  · exact hin
  · split at hin
    · exact in_put hb (Nat.lt_succ_self v) h hin
    · exact in_put hb (Nat.lt_succ_self _) (part_of (by omega) h) hin

theorem spanW_in {b : List Nat} (hb : Bytes b) {x : Wr} (h : okW x) {e : Sp} (hin : In b (spanW x e)) : In b e := by
  unfold okW at h
  unfold spanW at hin
  by_cases h0 : x.op = 0
  · rw [if_pos h0] at h hin
    exact symE_in hb h hin
  rw [if_neg h0] at h hin
  by_cases h1 : x.op = 1
  · rw [if_pos h1] at h hin
    exact flagE_in (in_norm hb 3 _ hin)
  rw [if_neg h1] at h hin
  by_cases h2 : x.op = 2
  · rw [if_pos h2] at h hin
    exact hin
  rw [if_neg h2] at h hin
  by_cases h3 : x.op = 3
  · rw [if_pos h3] at h hin
    exact uintE_in hb (by omega) (by omega) hin
  rw [if_neg h3] at h hin
  by_cases h4 : x.op = 4
  · rw [if_pos h4] at h hin
    obtain ⟨⟨o1, o2, o3, o4⟩, hf, _⟩ := h
    obtain ⟨a1, a2, _, _⟩ := lapAll_in (fs := x.n.toNat) (decay := x.m.toNat) (f := x.f) (by omega) (by omega)
    exact in_put hb (by omega) (by omega) hin
  · rw [if_neg h4] at h hin
    exact symE_in hb h hin

/-- What one reading finds, and where it stands then. -/
structure Found (b : List Nat) (x : Wr) (s : St) (e : Sp) : Prop where
  val : (readW b x s).1 = x.v
  rel : Rel b (readW b x s).2 (spanW x e)
  inv : Inv (readW b x s).2
  raw : (readW b x s).2.raw = s.raw + rawN x
  bad : (readW b x s).2.bad = s.bad
  tell : tellZ s ≤ tellZ (readW b x s).2

theorem symS_same (b : List Nat) (t : List Int) (s : St) : (symS b t s).2.raw = s.raw ∧ (symS b t s).2.bad = s.bad := by
  unfold symS
  split
  · exact takeS_raw b s _ _ _
  · exact ⟨rfl, rfl⟩

theorem lapS_same (b : List Nat) (fs decay : Int) (s : St) : (lapS b fs decay s).2.raw = s.raw ∧ (lapS b fs decay s).2.bad = s.bad := by
  unfold lapS
  split
  · exact takeS_raw b s _ _ _
  · exact ⟨rfl, rfl⟩

theorem flagS_same (b : List Nat) (n : Int) {s : St} (hi : Inv s) : (flagS b n s).2.raw = s.raw ∧ (flagS b n s).2.bad = s.bad := by
  unfold flagS
  split
  · rename_i h
    obtain ⟨_, _, _, h4, h5⟩ := flag_pre hi (n := n.toNat) (by omega) (by omega)
    obtain ⟨g1, g2⟩ := onS_same b 3 (flagPre n.toNat s).2
    exact ⟨g1.trans h5, g2.trans h4⟩
  · exact ⟨rfl, rfl⟩

theorem sym_found {b : List Nat} (hb : Bytes b) {t : List Int} {v : Int} (h : symOk t v) {s : St} {e : Sp} (hr : Rel b s e) (hi : Inv s) (hin : In b (symE t v e)) :
    (((symS b t s).1 : Nat) : Int) = v ∧ Rel b (symS b t s).2 (symE t v e) := by
  obtain ⟨h1, h2, h3⟩ := h
  obtain ⟨r1, r2⟩ := rel_sym hb hr hi h1 (v := v.toNat) (by omega) hin
  exact ⟨by rw [r1]; omega, r2⟩

theorem uint_found {b : List Nat} (hb : Bytes b) {v n : Int} (h1 : 1 ≤ n) (h2 : n ≤ 4294967295) (h3 : 0 ≤ v) (h4 : v < n) {s : St} {e : Sp} (hr : Rel b s e) (hi : Inv s) (hin : In b (uintE v.toNat n.toNat e))
    (hraw : bitsN b s.raw (if n.toNat ≤ 256 then 0 else shiftN n.toNat) = if n.toNat ≤ 256 then 0 else v.toNat % 2 ^ shiftN n.toNat) :
    (((uintS b n s).1 : Nat) : Int) = v ∧ Rel b (uintS b n s).2 (uintE v.toNat n.toNat e) ∧ (uintS b n s).2.raw = s.raw + (if n.toNat ≤ 256 then 0 else shiftN n.toNat) ∧ (uintS b n s).2.bad = s.bad := by
  unfold uintE at hin ⊢
  by_cases c1 : n ≤ 1
  · rw [uintS, if_pos (.inl c1), if_pos (show n.toNat ≤ 1 by omega), if_pos (show n.toNat ≤ 256 by omega)]
    exact ⟨by show ((0 : Nat) : Int) = v; omega, hr, rfl, rfl⟩
  · rw [if_neg (show ¬ n.toNat ≤ 1 by omega)] at hin ⊢
    by_cases c2 : n ≤ 256
    · rw [if_pos (show n.toNat ≤ 256 by omega)] at hin ⊢
      rw [uintS, if_neg (by omega), if_pos c2, if_pos (show n.toNat ≤ 256 by omega)]
      obtain ⟨k1, k2⟩ := rel_small hb hr hi (ft := n.toNat) (v := v.toNat) (by omega) (by omega) hin
      obtain ⟨g1, g2⟩ := takeS_raw b s (chooseS s n.toNat) (chooseS s n.toNat + 1) n.toNat
      exact ⟨by show ((chooseS s n.toNat : Nat) : Int) = v; rw [k1]; omega, k2, g1, g2⟩
    · rw [if_neg (show ¬ n.toNat ≤ 256 by omega)] at hin hraw ⊢
      rw [if_neg (show ¬ n.toNat ≤ 256 by omega)] at hraw
      rw [uintS, if_neg (by omega), if_neg c2, if_neg (show ¬ n.toNat ≤ 256 by omega)]
      obtain ⟨k1, k2, k3, k4⟩ := rel_big hb hr hi (ft := n.toNat) (v := v.toNat) (by omega) (by omega) (by omega) hin hraw
      exact ⟨by rw [k1]; omega, k2, k3, k4⟩

theorem found {b : List Nat} (hb : Bytes b) {x : Wr} (h : okW x) {s : St} {e : Sp} (hr : Rel b s e) (hi : Inv s) (hin : In b (spanW x e)) (hraw : bitsN b s.raw (rawN x) = rawV x) : Found b x s e := by
  unfold okW at h
  have key : (readW b x s).1 = x.v ∧ Rel b (readW b x s).2 (spanW x e) ∧ Inv (readW b x s).2 ∧ (readW b x s).2.raw = s.raw + rawN x ∧ (readW b x s).2.bad = s.bad ∧ tellZ s ≤ tellZ (readW b x s).2 := by
    unfold readW
    unfold spanW at hin ⊢
    unfold rawN rawV at hraw
    unfold rawN
    by_cases h0 : x.op = 0
    · have h2 : ¬ x.op = 2 := by omega
      have h3 : ¬ x.op = 3 := by omega
      rw [if_pos h0] at h hin ⊢
      rw [if_pos h0, if_neg h2, if_neg h3]
      obtain ⟨f1, f2⟩ := sym_found hb h hr hi hin
      obtain ⟨g1, g2, _, _⟩ := symS_inv hb hi x.t
      obtain ⟨k1, k2⟩ := symS_same b x.t s
      exact ⟨f1, f2, g1, k1, k2, g2⟩
    rw [if_neg h0] at h hin ⊢
    rw [if_neg h0]
    by_cases h1 : x.op = 1
    · have h2 : ¬ x.op = 2 := by omega
      have h3 : ¬ x.op = 3 := by omega
      rw [if_pos h1] at h hin ⊢
      rw [if_pos h1, if_neg h2, if_neg h3]
      obtain ⟨o1, o2, o3⟩ := h
      obtain ⟨f1, f2⟩ := rel_flag hb hr hi (v := decide (x.v = 1)) (n := x.n.toNat) (by omega) (by omega) hin
      obtain ⟨g1, g2⟩ := flagS_inv hb hi x.n
      obtain ⟨k1, k2⟩ := flagS_same b x.n hi
      have e1 : ((x.n.toNat : Nat) : Int) = x.n := by omega
      rw [e1] at f1 f2
      refine ⟨?_, f2, g1, k1, k2, g2⟩
      show (if (flagS b x.n s).1 = true then (1 : Int) else 0) = x.v
      rw [f1]
      rcases o3 with o3 | o3
      · rw [o3]; rfl
      · rw [o3]; rfl
    rw [if_neg h1] at h hin ⊢
    rw [if_neg h1]
    by_cases h2 : x.op = 2
    · rw [if_pos h2] at h hin hraw ⊢
      rw [if_pos h2] at hraw
      rw [if_pos h2, if_pos h2]
      obtain ⟨o1, o2, o3, o4⟩ := h
      have e1 : ((x.n.toNat : Nat) : Int) = x.n := by omega
      obtain ⟨f1, f2⟩ := rel_bits hr (n := x.n.toNat) (v := x.v.toNat) (by omega) hraw
      obtain ⟨g1, g2, _, _⟩ := bitsS_inv b hi x.n
      rw [e1] at f1 f2
      refine ⟨by show (((bitsS b x.n s).1 : Nat) : Int) = x.v; rw [f1]; omega, f2, g1, ?_, ?_, g2⟩
      · show (bitsS b x.n s).2.raw = _
        rw [bitsS, if_pos ⟨o1, o2⟩]
      · show (bitsS b x.n s).2.bad = _
        rw [bitsS, if_pos ⟨o1, o2⟩]
    rw [if_neg h2] at h hin hraw ⊢
    rw [if_neg h2] at hraw
    rw [if_neg h2, if_neg h2]
    by_cases h3 : x.op = 3
    · rw [if_pos h3] at h hin hraw ⊢
      rw [if_pos h3] at hraw
      rw [if_pos h3, if_pos h3]
      obtain ⟨o1, o2, o3, o4⟩ := h
      obtain ⟨f1, f2, f3, f4⟩ := uint_found hb o1 o2 o3 o4 hr hi hin hraw
      obtain ⟨g1, g2, _, _⟩ := uintS_inv hb hi x.n
      exact ⟨f1, f2, g1, f3, f4, g2⟩
    rw [if_neg h3] at h hin ⊢
    rw [if_neg h3, if_neg h3]
    by_cases h4 : x.op = 4
    · rw [if_pos h4] at h hin ⊢
      rw [if_pos h4]
      obtain ⟨o1, o2, o3⟩ := h
      obtain ⟨f1, f2⟩ := rel_lap hb hr hi o1 o2 hin
      obtain ⟨g1, g2⟩ := lapS_inv hb hi x.n x.m
      obtain ⟨k1, k2⟩ := lapS_same b x.n x.m s
      exact ⟨f1.trans o3.symm, f2, g1, k1, k2, g2⟩
    · rw [if_neg h4] at h hin ⊢
      rw [if_neg h4]
      obtain ⟨f1, f2⟩ := sym_found hb h hr hi hin
      obtain ⟨g1, g2, _, _⟩ := symS_inv hb hi (icdfL x.n)
      obtain ⟨k1, k2⟩ := symS_same b (icdfL x.n) s
      exact ⟨f1, f2, g1, k1, k2, g2⟩
  obtain ⟨a1, a2, a3, a4, a5, a6⟩ := key
  exact ⟨a1, a2, a3, a4, a5, a6⟩

end Go.Proofs.Ytinjkffkkmbioaa
