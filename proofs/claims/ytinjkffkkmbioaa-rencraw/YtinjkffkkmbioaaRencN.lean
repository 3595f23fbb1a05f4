/- What is written is read, as plain numbers: symbols, numbers below another, numbers that are mostly small. Nothing here is of any program. -/
import Derived.Test.YtinjkffkkmbioaaRencM
namespace Go.Proofs.Ytinjkffkkmbioaa

theorem falls_at : ∀ (m : List Int) (q : Int) (j : Nat), falls q m = true → j < m.length → m[j]?.getD 0 < (if j = 0 then q else m[j - 1]?.getD 0)
  | [], _, _, _, hj => by simp at hj
  | y :: m, q, 0, h, _ => by
    unfold falls at h
    split at h
    · cases h
    · simp; omega
  | y :: m, q, j + 1, h, hj => by
    unfold falls at h
    split at h
    · cases h
    · have ih := falls_at m y j h (by simpa using hj)
      cases j with
      | zero => simpa using ih
      | succ i => simpa using ih

theorem good_nonneg {t : List Int} (h : goodB t = true) : ∀ x ∈ t, 0 ≤ x := by
  obtain ⟨_, _, h3, hl⟩ := good_out h
  exact falls_last_nonneg t 256 h3 hl

theorem at_nonneg {t : List Int} (h : goodB t = true) (i : Nat) : 0 ≤ t[i]?.getD 0 := by
  rcases Nat.lt_or_ge i t.length with hi | hi
  · rw [List.getElem?_eq_getElem hi]
    exact good_nonneg h _ (List.getElem_mem hi)
  · rw [List.getElem?_eq_none hi]
    exact Int.le_refl _

theorem falls_top : ∀ (m : List Int) (q : Int) (j : Nat), falls q m = true → j < m.length → m[j]?.getD 0 < q
  | [], _, _, _, hj => by simp at hj
  | y :: m, q, 0, h, _ => by
    unfold falls at h
    split at h
    · cases h
    · simp; omega
  | y :: m, q, j + 1, h, hj => by
    unfold falls at h
    split at h
    · cases h
    · have ih := falls_top m y j h (by simpa using hj)
      simp only [List.getElem?_cons_succ]
      omega

theorem sym_part {t : List Int} (h : goodB t = true) {v : Nat} (hv : v < t.length) : symFl t v < symFh t v ∧ symFh t v ≤ 256 := by
  obtain ⟨_, _, h3, _⟩ := good_out h
  have h1 := falls_at t 256 v h3 hv
  have h2 := at_nonneg h v
  have h4 := at_nonneg h (v - 1)
  have h5 := falls_top t 256 v h3 hv
  unfold symFl symFh
  by_cases h0 : v = 0
  · rw [if_pos h0]
    omega
  · rw [if_neg h0] at h1 ⊢
    have h6 := falls_top t 256 (v - 1) h3 (by omega)
    omega

theorem rel_sym {b : List Nat} (hb : Bytes b) {s : St} {e : Sp} (h : Rel b s e) (hi : Inv s) {t : List Int} (hg : goodB t = true) {v : Nat} (hv : v < t.length) (hin : In b (putE e (symFl t v) (symFh t v) 256)) :
    (symS b t s).1 = v ∧ Rel b (symS b t s).2 (putE e (symFl t v) (symFh t v) 256) := by
  obtain ⟨p1, p2⟩ := sym_part hg hv
  obtain ⟨⟨c1, c2⟩, hr⟩ := rel_put hb h hi p1 p2 (by decide) hin
  obtain ⟨_, _, h3, _⟩ := good_out hg
  have n1 := at_nonneg hg v
  have n2 := at_nonneg hg (v - 1)
  have hs := symGo_at (chooseS s 256 : Nat) t 0 256 v h3 hv (by
    unfold symFl at c1
    split
    · rename_i h0
      omega
    · rename_i h0
      rw [if_neg h0] at c1
      omega) (by
    unfold symFh at c2
    omega)
  have e1 : symS b t s = (v, takeS b s (symFl t v) (symFh t v) 256) := by
    unfold symS
    rw [if_pos hg, hs]
    simp only [Nat.zero_add]
    unfold symFl symFh
    by_cases h0 : v = 0
    · rw [if_pos h0, if_pos h0]
      rfl
    · rw [if_neg h0, if_neg h0]
  rw [e1]
  exact ⟨rfl, hr⟩

/-! ### Bits, numbers below another -/
/-- Do the bits from the end say so? -/
def Raw (b : List Nat) (at_ n v : Nat) : Prop := bitsN b at_ n = v

theorem rel_bits {b : List Nat} {s : St} {e : Sp} (h : Rel b s e) {n v : Nat} (hn : n ≤ 24) (hr : Raw b s.raw n v) : (bitsS b n s).1 = v ∧ Rel b (bitsS b n s).2 e := by
  have e1 : bitsS b n s = (bitsN b s.raw n, { s with raw := s.raw + n, cnt := s.cnt + n }) := by
    unfold bitsS
    rw [if_pos (by omega)]
    rfl
  rw [e1]
  exact ⟨hr, h.rng, h.val, h.last, h.front⟩

theorem rel_small {b : List Nat} (hb : Bytes b) {s : St} {e : Sp} (h : Rel b s e) (hi : Inv s) {ft v : Nat} (hf : ft ≤ 256) (hv : v < ft) (hin : In b (putE e v (v + 1) ft)) :
    chooseS s ft = v ∧ Rel b (takeS b s (chooseS s ft) (chooseS s ft + 1) ft) (putE e v (v + 1) ft) := by
  obtain ⟨⟨c1, c2⟩, hr⟩ := rel_put hb h hi (Nat.lt_succ_self v) hv (by omega) hin
  have e1 : chooseS s ft = v := by omega
  rw [e1]
  exact ⟨rfl, hr⟩

theorem takeS_raw (b : List Nat) (s : St) (fl fh ft : Nat) : (takeS b s fl fh ft).raw = s.raw ∧ (takeS b s fl fh ft).bad = s.bad := onS_same b 3 _

theorem part_of {ft v : Nat} (h1 : 257 ≤ ft) (hv : v < ft) : v / 2 ^ shiftN ft < partN ft := by
  unfold partN
  have := Nat.div_le_div_right (c := 2 ^ shiftN ft) (show v ≤ ft - 1 by omega)
  omega

theorem rel_big {b : List Nat} (hb : Bytes b) {s : St} {e : Sp} (h : Rel b s e) (hi : Inv s) {ft v : Nat} (h1 : 257 ≤ ft) (h2 : ft ≤ 4294967295) (hv : v < ft)
    (hin : In b (putE e (v / 2 ^ shiftN ft) (v / 2 ^ shiftN ft + 1) (partN ft))) (hraw : Raw b s.raw (shiftN ft) (v % 2 ^ shiftN ft)) :
    (uintBig b ft s).1 = v ∧ Rel b (uintBig b ft s).2 (putE e (v / 2 ^ shiftN ft) (v / 2 ^ shiftN ft + 1) (partN ft)) ∧ (uintBig b ft s).2.raw = s.raw + shiftN ft ∧ (uintBig b ft s).2.bad = s.bad := by
  obtain ⟨s1, s2, s3, s4⟩ := shift_in h1 h2
  obtain ⟨c1, r1⟩ := rel_small hb h hi s4 (part_of h1 hv) hin
  have t1 := takeS_raw b s (chooseS s (partN ft)) (chooseS s (partN ft) + 1) (partN ft)
  have e1 : bitsS b (shiftN ft : Nat) (takeS b s (chooseS s (partN ft)) (chooseS s (partN ft) + 1) (partN ft)) =
      (v % 2 ^ shiftN ft, { (takeS b s (chooseS s (partN ft)) (chooseS s (partN ft) + 1) (partN ft)) with raw := (takeS b s (chooseS s (partN ft)) (chooseS s (partN ft) + 1) (partN ft)).raw + shiftN ft, cnt := (takeS b s (chooseS s (partN ft)) (chooseS s (partN ft) + 1) (partN ft)).cnt + shiftN ft }) := by
    unfold bitsS
    rw [if_pos (by omega)]
    simp only [Int.toNat_natCast, t1.1]
    rw [hraw]
  have e2 : v / 2 ^ shiftN ft * 2 ^ shiftN ft + v % 2 ^ shiftN ft = v := by rw [Nat.mul_comm]; exact Nat.div_add_mod v (2 ^ shiftN ft)
  unfold uintBig
  simp only
  rw [e1]
  simp only
  rw [show chooseS s (partN ft) * 2 ^ shiftN ft + v % 2 ^ shiftN ft = v by rw [c1]; exact e2, if_neg (by omega)]
  refine ⟨rfl, ⟨r1.rng, r1.val, r1.last, r1.front⟩, ?_, t1.2⟩
  show (takeS b s _ _ _).raw + shiftN ft = s.raw + shiftN ft
  rw [t1.1]

/-! ### Numbers that are mostly small -/
theorem lapF_le (f decay : Nat) : ∀ n l s v : Nat, l ≤ (lapF f decay n l s v).1
  | 0, l, _, _ => Nat.le_refl l
  | n + 1, l, s, v => by
    by_cases h : 1 < s ∧ l + 2 * s ≤ f
    · rw [lapF_step h]
      exact Nat.le_trans (by omega) (lapF_le f decay n _ _ _)
    · rw [lapF_stop (n + 1) h]
      exact Nat.le_refl l

/-- Another number that lies where the steps ended takes the same steps. -/
theorem lapF_same (f g decay : Nat) : ∀ n l s v : Nat, (lapF f decay n l s v).1 ≤ g → (1 < (lapF f decay n l s v).2.1 → g < (lapF f decay n l s v).1 + 2 * (lapF f decay n l s v).2.1) →
    lapF g decay n l s v = lapF f decay n l s v
  | 0, _, _, _, _, _ => rfl
  | n + 1, l, s, v, h1, h2 => by
    by_cases h : 1 < s ∧ l + 2 * s ≤ f
    · have hl := lapF_le f decay n (l + 2 * s) ((2 * s - 2) * decay / 32768 + 1) (v + 1)
      rw [lapF_step h] at h1 h2 ⊢
      rw [lapF_step (f := g) ⟨h.1, by omega⟩]
      exact lapF_same f g decay n _ _ _ h1 h2
    · rw [lapF_stop (n + 1) h] at h1 h2 ⊢
      simp only at h1 h2
      rw [lapF_stop]
      rintro ⟨a, c⟩
      have := h2 a
      omega

/-- All numbers of a part tell the same. -/
theorem lapAll_same {fs decay f g : Nat} (hfs : 256 ≤ fs) (hf2 : f ≤ 32768) (h1 : (lapAll fs decay f).2.1 ≤ g) (h2 : g < (lapAll fs decay f).2.2) : lapAll fs decay g = lapAll fs decay f := by
  unfold lapAll at h1 h2 ⊢
  by_cases hf : f < fs
  · rw [if_pos hf] at h1 h2 ⊢
    rw [if_pos (by simpa using h2)]
  · rw [if_neg hf] at h1 h2 ⊢
    have hin := lapF_in f decay 32768 fs ((32736 - fs) * (16384 - decay) / 32768 + 1) 1 (by omega) (by omega) (by omega) (by omega)
    have hle := lapF_le f decay 32768 fs ((32736 - fs) * (16384 - decay) / 32768 + 1) 1
    have hsame := lapF_same f g decay 32768 fs ((32736 - fs) * (16384 - decay) / 32768 + 1) 1
    generalize lapF f decay 32768 fs ((32736 - fs) * (16384 - decay) / 32768 + 1) 1 = r at *
    obtain ⟨l, s, v⟩ := r
    simp only at hin hle hsame h1 h2
    unfold lapEnd at h1 h2
    simp only at h1 h2
    by_cases hs : s ≤ 1
    · have hs1 : s = 1 := by omega
      subst hs1
      simp only [Nat.le_refl, if_true] at h1 h2
      have hg : g = f := by
        split at h1
        · rename_i hc
          rw [if_pos hc] at h2
          simp only at h1 h2
          omega
        · rename_i hc
          rw [if_neg hc] at h2
          simp only at h1 h2
          omega
      subst hg
      rw [if_neg hf, hsame hin.1 (fun h => absurd h (by decide))]
    · rw [if_neg hs] at h1 h2
      have hb : l ≤ g ∧ g < l + 2 * s ∧ (g < l + s ↔ f < l + s) := by
        split at h1
        · rename_i hc
          rw [if_pos hc] at h2
          simp only at h1 h2
          omega
        · rename_i hc
          rw [if_neg hc] at h2
          simp only at h1 h2
          omega
      rw [if_neg (by omega), hsame hb.1 (fun _ => hb.2.1)]
      unfold lapEnd
      simp only [if_neg hs]
      by_cases hc : f < l + s
      · rw [if_pos hc, if_pos (hb.2.2.2 hc)]
      · rw [if_neg hc, if_neg (fun h => hc (hb.2.2.1 h))]

theorem rel_lap {b : List Nat} (hb : Bytes b) {s : St} {e : Sp} (h : Rel b s e) (hi : Inv s) {fs decay : Int} (hok : lapOk fs decay) {f : Nat} (hf : f < 32768)
    (hin : In b (putE e (lapAll fs.toNat decay.toNat f).2.1 (min (lapAll fs.toNat decay.toNat f).2.2 32768) 32768)) :
    (lapS b fs decay s).1 = (lapAll fs.toNat decay.toNat f).1 ∧ Rel b (lapS b fs decay s).2 (putE e (lapAll fs.toNat decay.toNat f).2.1 (min (lapAll fs.toNat decay.toNat f).2.2 32768) 32768) := by
  obtain ⟨o1, o2, o3, o4⟩ := id hok
  obtain ⟨a1, a2, _, _⟩ := lapAll_in (fs := fs.toNat) (decay := decay.toNat) (f := f) (by omega) (by omega)
  obtain ⟨⟨c1, c2⟩, hr⟩ := rel_put hb h hi (by omega) (by omega) (by decide) hin
  have hsame := lapAll_same (fs := fs.toNat) (decay := decay.toNat) (f := f) (g := chooseS s 32768) (by omega) (by omega) c1 (by omega)
  unfold lapS
  rw [if_pos hok, hsame]
  exact ⟨rfl, hr⟩

end Go.Proofs.Ytinjkffkkmbioaa
