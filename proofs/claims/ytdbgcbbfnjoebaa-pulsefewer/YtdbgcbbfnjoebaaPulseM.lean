/- Pulses as plain numbers: shared out over sixteen samples, signs, blocks: what is written is read back; what is read may be written. Nothing here is of any program. -/
import Derived.Test.YtdbgcbbfnjoebaaAvL
namespace Go.Proofs.Ytdbgcbbfnjoebaa
open Go.RowKit

def absI (v : Int) : Int := if v < 0 then -v else v
theorem absI_nonneg (v : Int) : 0 ≤ absI v := by unfold absI; split <;> omega
theorem absI_zero {v : Int} (h : absI v = 0) : v = 0 := by unfold absI at h; split at h <;> omega

def sumP : List Int → Int
  | [] => 0
  | x :: l => x + sumP l

theorem sumP_append : ∀ (l m : List Int), sumP (l ++ m) = sumP l + sumP m
  | [], m => by show sumP m = 0 + sumP m; omega
  | x :: l, m => by show x + sumP (l ++ m) = x + sumP l + sumP m; rw [sumP_append l m]; omega

theorem sumP_split (l : List Int) (k : Nat) : sumP (l.take k) + sumP (l.drop k) = sumP l := by rw [← sumP_append, List.take_append_drop]

theorem sumP_nonneg : ∀ {l : List Int}, (∀ x ∈ l, 0 ≤ x) → 0 ≤ sumP l
  | [], _ => Int.le_refl _
  | x :: l, h => by
    have h1 := h x (by simp)
    have h2 := sumP_nonneg (l := l) (fun y hy => h y (by simp [hy]))
    show 0 ≤ x + sumP l
    omega

theorem abs_nonneg (l : List Int) : ∀ x ∈ l.map absI, 0 ≤ x := fun x hx => by
  obtain ⟨y, _, rfl⟩ := List.mem_map.1 hx
  exact absI_nonneg y

/-! ### To share -/
def shareV (b : List Nat) : Nat → Int → St → List Int × St
  | 0, k, s => ([k], s)
  | d + 1, k, s => ((shareV b d (rdUint b (k + 1) s).1 (rdUint b (k + 1) s).2).1 ++ (shareV b d (k - (rdUint b (k + 1) s).1) (shareV b d (rdUint b (k + 1) s).1 (rdUint b (k + 1) s).2).2).1,
      (shareV b d (k - (rdUint b (k + 1) s).1) (shareV b d (rdUint b (k + 1) s).1 (rdUint b (k + 1) s).2).2).2)

def shareL : Nat → List Int → List AV
  | 0, _ => []
  | d + 1, l => avUint (sumP l + 1) (sumP (l.take (2 ^ d))) :: (shareL d (l.take (2 ^ d)) ++ shareL d (l.drop (2 ^ d)))

theorem avUint_may {n v : Int} (h1 : 1 ≤ n) (h2 : n ≤ 4294967295) (h3 : 0 ≤ v) (h4 : v < n) : mayA (avUint n v) := by
  unfold mayA
  have h : (avUint n v).op = 3 := rfl
  rw [if_neg (by omega), if_neg (by omega), if_neg (by omega), if_pos h]
  exact ⟨h1, h2, h3, h4⟩

theorem avBits_may {v : Int} (h : v = 0 ∨ v = 1) : mayA (avBits 1 v) := by
  unfold mayA
  have h0 : (avBits 1 v).op = 2 := rfl
  rw [if_neg (by omega), if_neg (by omega), if_pos h0]
  refine ⟨by show (0 : Int) ≤ 1; decide, by show (1 : Int) ≤ 24; decide, ?_, ?_⟩
  · show 0 ≤ v; omega
  · show v.toNat < 2 ^ (1 : Int).toNat
    rcases h with rfl | rfl <;> decide

theorem avSym_may {t : List Int} {v : Int} (h : symOk t v) : mayA (avSym t v) := by
  unfold mayA
  have h0 : (avSym t v).op = 0 := rfl
  rw [if_pos h0]
  exact h

theorem half_len {l : List Int} {d : Nat} (h : l.length = 2 ^ (d + 1)) : (l.take (2 ^ d)).length = 2 ^ d ∧ (l.drop (2 ^ d)).length = 2 ^ d := by
  rw [List.length_take, List.length_drop, h, Nat.pow_succ]
  omega

theorem shareL_may : ∀ (d : Nat) (l : List Int), l.length = 2 ^ d → (∀ x ∈ l, 0 ≤ x) → sumP l ≤ 1000000 → ∀ x ∈ shareL d l, mayA x
  | 0, _, _, _, _, x, hx => by cases hx
  | d + 1, l, hl, hn, hs, x, hx => by
    obtain ⟨h1, h2⟩ := half_len hl
    have n1 : ∀ x ∈ l.take (2 ^ d), 0 ≤ x := fun x hx => hn x (List.mem_of_mem_take hx)
    have n2 : ∀ x ∈ l.drop (2 ^ d), 0 ≤ x := fun x hx => hn x (List.mem_of_mem_drop hx)
    have s1 := sumP_nonneg n1
    have s2 := sumP_nonneg n2
    have s3 := sumP_split l (2 ^ d)
    rcases List.mem_cons.1 hx with rfl | hx
    · exact avUint_may (by omega) (by omega) s1 (by omega)
    · rcases List.mem_append.1 hx with hx | hx
      · exact shareL_may d _ h1 n1 (by omega) x hx
      · exact shareL_may d _ h2 n2 (by omega) x hx

theorem shareL_len : ∀ (d : Nat) (l : List Int), (shareL d l).length + 1 = 2 ^ d
  | 0, _ => rfl
  | d + 1, l => by
    have h1 := shareL_len d (l.take (2 ^ d))
    have h2 := shareL_len d (l.drop (2 ^ d))
    show (shareL d _ ++ shareL d _).length + 1 + 1 = _
    rw [List.length_append, Nat.pow_succ]
    omega

/-- What was shared out is read back. -/
theorem share_back {b : List Nat} {T : Int} : ∀ (d : Nat) (l : List Int) (m : List AV) (s : St), l.length = 2 ^ d → AllRead b T ((shareL d l ++ m).map wrA) s →
    ∃ s', shareV b d (sumP l) s = (l, s') ∧ AllRead b T (m.map wrA) s' ∧ s' = afterL b ((shareL d l).map wrA) s
  | 0, l, m, s, hl, h => by
    obtain ⟨x, rfl⟩ := List.length_eq_one_iff.1 hl
    exact ⟨s, by show ([x + 0], s) = ([x], s); rw [Int.add_zero], h, rfl⟩
  | d + 1, l, m, s, hl, h => by
    obtain ⟨h1, h2⟩ := half_len hl
    have s3 := sumP_split l (2 ^ d)
    obtain ⟨e1, _, _, _, h3⟩ := AllRead.head (x := avUint (sumP l + 1) (sumP (l.take (2 ^ d)))) (l := (shareL d (l.take (2 ^ d)) ++ shareL d (l.drop (2 ^ d))) ++ m) h
    rw [readW_avUint, avUint_v] at e1
    rw [readW_avUint, List.append_assoc] at h3
    obtain ⟨sa, a1, a2, a3⟩ := share_back d (l.take (2 ^ d)) (shareL d (l.drop (2 ^ d)) ++ m) _ h1 h3
    obtain ⟨sb, b1, b2, b3⟩ := share_back d (l.drop (2 ^ d)) m sa h2 a2
    refine ⟨sb, ?_, b2, ?_⟩
    · show ((shareV b d (rdUint b (sumP l + 1) s).1 (rdUint b (sumP l + 1) s).2).1 ++ (shareV b d (sumP l - (rdUint b (sumP l + 1) s).1) (shareV b d (rdUint b (sumP l + 1) s).1 (rdUint b (sumP l + 1) s).2).2).1,
        (shareV b d (sumP l - (rdUint b (sumP l + 1) s).1) (shareV b d (rdUint b (sumP l + 1) s).1 (rdUint b (sumP l + 1) s).2).2).2) = (l, sb)
      rw [e1, a1, show sumP l - sumP (l.take (2 ^ d)) = sumP (l.drop (2 ^ d)) by omega]
      show (l.take (2 ^ d) ++ (shareV b d (sumP (l.drop (2 ^ d))) sa).1, (shareV b d (sumP (l.drop (2 ^ d))) sa).2) = _
      rw [b1]
      show (l.take (2 ^ d) ++ l.drop (2 ^ d), sb) = _
      rw [List.take_append_drop]
    · rw [b3, a3]
      show _ = afterL b ((shareL d (l.take (2 ^ d)) ++ shareL d (l.drop (2 ^ d))).map wrA) (readW b (wrA (avUint (sumP l + 1) (sumP (l.take (2 ^ d))))) s).2
      rw [readW_avUint, List.map_append, afterL_append]

/-- What is shared out of any bytes. -/
theorem shareV_in {b : List Nat} (hb : Bytes b) : ∀ (d : Nat) (k : Int) (s : St), 0 ≤ k → Inv s → (shareV b d k s).1.length = 2 ^ d ∧ (∀ x ∈ (shareV b d k s).1, 0 ≤ x) ∧ sumP (shareV b d k s).1 = k ∧ Inv (shareV b d k s).2 ∧ tellZ s ≤ tellZ (shareV b d k s).2
  | 0, k, s, h0, hi => ⟨rfl, fun x hx => by obtain rfl : x = k := by simpa [shareV] using hx
                                            exact h0, by show k + 0 = k; omega, hi, Int.le_refl _⟩
  | d + 1, k, s, h0, hi => by
    obtain ⟨r1, r2, r3, r4⟩ := rdUint_in hb (n := k + 1) (by omega) hi
    obtain ⟨a1, a2, a3, a4, a5⟩ := shareV_in hb d (rdUint b (k + 1) s).1 (rdUint b (k + 1) s).2 r1 r3
    obtain ⟨b1, b2, b3, b4, b5⟩ := shareV_in hb d (k - (rdUint b (k + 1) s).1) (shareV b d (rdUint b (k + 1) s).1 (rdUint b (k + 1) s).2).2 (by omega) a4
    refine ⟨?_, ?_, ?_, b4, Int.le_trans r4 (Int.le_trans a5 b5)⟩
    · show (_ ++ _ : List Int).length = _
      rw [List.length_append, a1, b1, Nat.pow_succ]
      omega
    · intro x hx
      rcases List.mem_append.1 hx with hx | hx
      · exact a2 x hx
      · exact b2 x hx
    · show sumP (_ ++ _) = _
      rw [sumP_append, a3, b3]
      omega

/-! ### Signs -/
def signV (b : List Nat) : List Int → St → List Int × St
  | [], s => ([], s)
  | x :: l, s => if 0 < x then ((if (rdBits b 1 s).1 = 1 then -x else x) :: (signV b l (rdBits b 1 s).2).1, (signV b l (rdBits b 1 s).2).2) else (x :: (signV b l s).1, (signV b l s).2)

def signL : List Int → List AV
  | [] => []
  | x :: l => if x = 0 then signL l else avBits 1 (if x < 0 then 1 else 0) :: signL l

theorem signL_may : ∀ (l : List Int), ∀ x ∈ signL l, mayA x
  | [], x, hx => by cases hx
  | y :: l, x, hx => by
    unfold signL at hx
    split at hx
    · exact signL_may l x hx
    · rcases List.mem_cons.1 hx with rfl | hx
      · exact avBits_may (by split <;> simp)
      · exact signL_may l x hx

theorem signL_len : ∀ (l : List Int), (signL l).length ≤ l.length
  | [] => Nat.le_refl _
  | y :: l => by
    have := signL_len l
    unfold signL
    split
    · rw [List.length_cons]; omega
    · rw [List.length_cons, List.length_cons]; omega

theorem sign_back {b : List Nat} {T : Int} : ∀ (l : List Int) (m : List AV) (s : St), AllRead b T ((signL l ++ m).map wrA) s →
    ∃ s', signV b (l.map absI) s = (l, s') ∧ AllRead b T (m.map wrA) s' ∧ s' = afterL b ((signL l).map wrA) s
  | [], m, s, h => ⟨s, rfl, h, rfl⟩
  | x :: l, m, s, h => by
    by_cases h0 : x = 0
    · have e : signL (x :: l) = signL l := if_pos h0
      rw [e] at h ⊢
      obtain ⟨s', a1, a2, a3⟩ := sign_back l m s h
      refine ⟨s', ?_, a2, a3⟩
      subst h0
      show signV b (0 :: l.map absI) s = _
      rw [signV, if_neg (by decide), a1]
    · have e : signL (x :: l) = avBits 1 (if x < 0 then 1 else 0) :: signL l := if_neg h0
      rw [e] at h ⊢
      obtain ⟨e1, _, _, _, h3⟩ := AllRead.head (x := avBits 1 (if x < 0 then 1 else 0)) (l := signL l ++ m) h
      rw [readW_avBits, avBits_v] at e1
      rw [readW_avBits] at h3
      obtain ⟨s', a1, a2, a3⟩ := sign_back l m _ h3
      refine ⟨s', ?_, a2, ?_⟩
      · have hp : 0 < absI x := by unfold absI; split <;> omega
        show signV b (absI x :: l.map absI) s = _
        rw [signV, if_pos hp, a1, e1]
        by_cases hx : x < 0
        · have ea : absI x = -x := if_pos hx
          rw [if_pos hx, if_pos rfl, ea, Int.neg_neg]
        · have ea : absI x = x := if_neg hx
          rw [if_neg hx, if_neg (by decide), ea]
      · rw [a3]
        show _ = afterL b ((signL l).map wrA) (readW b (wrA (avBits 1 (if x < 0 then 1 else 0))) s).2
        rw [readW_avBits]

theorem signV_in {b : List Nat} : ∀ (l : List Int) (s : St), (∀ x ∈ l, 0 ≤ x) → Inv s → (signV b l s).1.length = l.length ∧ (signV b l s).1.map absI = l ∧ Inv (signV b l s).2 ∧ tellZ s ≤ tellZ (signV b l s).2
  | [], s, _, hi => ⟨rfl, rfl, hi, Int.le_refl _⟩
  | x :: l, s, hn, hi => by
    have hx := hn x (by simp)
    have hl : ∀ y ∈ l, 0 ≤ y := fun y hy => hn y (by simp [hy])
    by_cases hp : 0 < x
    · obtain ⟨_, r2, r3⟩ := rdBits_in b (n := 1) hi
      obtain ⟨a1, a2, a3, a4⟩ := signV_in l (rdBits b 1 s).2 hl r2
      rw [signV, if_pos hp]
      refine ⟨by show _ + 1 = _ + 1; rw [a1], ?_, a3, Int.le_trans r3 a4⟩
      show absI (if (rdBits b 1 s).1 = 1 then -x else x) :: _ = _
      rw [a2]
      congr 1
      unfold absI
      split <;> split <;> omega
    · obtain ⟨a1, a2, a3, a4⟩ := signV_in l s hl hi
      rw [signV, if_neg hp]
      refine ⟨by show _ + 1 = _ + 1; rw [a1], ?_, a3, a4⟩
      show absI x :: _ = _
      rw [a2]
      congr 1
      unfold absI
      split <;> omega

/-! ### Blocks -/
theorem good5 : goodB (icdfL 5) = true ∧ (icdfL 5).length = 17 := by decide +kernel

def blockV (b : List Nat) (s : St) : List Int × St := signV b (shareV b 4 (rdSym b (icdfL 5) s).1 (rdSym b (icdfL 5) s).2).1 (shareV b 4 (rdSym b (icdfL 5) s).1 (rdSym b (icdfL 5) s).2).2
def blockL (l : List Int) : List AV := avSym (icdfL 5) (sumP (l.map absI)) :: (shareL 4 (l.map absI) ++ signL l)

structure BlockP (l : List Int) : Prop where
  len : l.length = 16
  few : sumP (l.map absI) ≤ 16

theorem blockL_may {l : List Int} (h : BlockP l) : ∀ x ∈ blockL l, mayA x := fun x hx => by
  have hn := sumP_nonneg (abs_nonneg l)
  have hf := h.few
  unfold blockL at hx
  rcases List.mem_cons.1 hx with rfl | hx
  · exact avSym_may ⟨good5.1, hn, by rw [good5.2]; omega⟩
  · rcases List.mem_append.1 hx with hx | hx
    · exact shareL_may 4 _ (by rw [List.length_map, h.len]) (abs_nonneg l) (by omega) x hx
    · exact signL_may l x hx

theorem blockL_len {l : List Int} (h : BlockP l) : (blockL l).length ≤ 32 := by
  have h1 := shareL_len 4 (l.map absI)
  have h2 := signL_len l
  have h3 := h.len
  have h4 : 2 ^ 4 = 16 := by decide
  unfold blockL
  rw [List.length_cons, List.length_append]
  omega

theorem block_back {b : List Nat} {T : Int} {l : List Int} (hl : BlockP l) {m : List AV} {s : St} (h : AllRead b T ((blockL l ++ m).map wrA) s) : ∃ s', blockV b s = (l, s') ∧ AllRead b T (m.map wrA) s' ∧ s' = afterL b ((blockL l).map wrA) s := by
  unfold blockL at h
  obtain ⟨e1, _, _, _, h3⟩ := AllRead.head (x := avSym (icdfL 5) (sumP (l.map absI))) (l := (shareL 4 (l.map absI) ++ signL l) ++ m) h
  rw [readW_avSym, avSym_v] at e1
  rw [readW_avSym, List.append_assoc] at h3
  obtain ⟨sa, a1, a2, a3⟩ := share_back 4 (l.map absI) (signL l ++ m) _ (by rw [List.length_map, hl.len]) h3
  obtain ⟨sb, b1, b2, b3⟩ := sign_back l m sa a2
  refine ⟨sb, ?_, b2, ?_⟩
  · unfold blockV
    rw [e1, a1]
    exact b1
  · rw [b3, a3]
    unfold blockL
    show _ = afterL b ((shareL 4 (l.map absI) ++ signL l).map wrA) (readW b (wrA (avSym (icdfL 5) (sumP (l.map absI)))) s).2
    rw [readW_avSym, List.map_append, afterL_append]

theorem blockV_in {b : List Nat} (hb : Bytes b) {s : St} (hi : Inv s) : BlockP (blockV b s).1 ∧ Inv (blockV b s).2 ∧ tellZ s ≤ tellZ (blockV b s).2 := by
  obtain ⟨r1, r2, r3, r4⟩ := rdSym_in hb good5.1 hi
  rw [good5.2] at r2
  obtain ⟨a1, a2, a3, a4, a5⟩ := shareV_in hb 4 _ _ r1 r3
  obtain ⟨b1, b2, b3, b4⟩ := signV_in (b := b) _ _ a2 a4
  have r5 : (rdSym b (icdfL 5) s).1 < 17 := r2
  exact ⟨⟨by unfold blockV; rw [b1, a1], by unfold blockV; rw [b2, a3]; omega⟩, b3, by unfold blockV; omega⟩

def blocksV (b : List Nat) : Nat → St → List Int × St
  | 0, s => ([], s)
  | m + 1, s => ((blockV b s).1 ++ (blocksV b m (blockV b s).2).1, (blocksV b m (blockV b s).2).2)

def blocksL : Nat → List Int → List AV
  | 0, _ => []
  | m + 1, l => blockL (l.take 16) ++ blocksL m (l.drop 16)

def goodN : Nat → List Int → Prop
  | 0, l => l = []
  | m + 1, l => BlockP (l.take 16) ∧ goodN m (l.drop 16)

theorem goodN_len : ∀ (m : Nat) (l : List Int), goodN m l → l.length = 16 * m
  | 0, l, h => by have e : l = [] := h
                  rw [e]; rfl
  | m + 1, l, h => by
    have h1 := h.1.len
    have h2 := goodN_len m (l.drop 16) h.2
    rw [List.length_take] at h1
    rw [List.length_drop] at h2
    omega

theorem blocksL_may : ∀ (m : Nat) (l : List Int), goodN m l → ∀ x ∈ blocksL m l, mayA x
  | 0, _, _, x, hx => by cases hx
  | m + 1, l, h, x, hx => by
    rcases List.mem_append.1 hx with hx | hx
    · exact blockL_may h.1 x hx
    · exact blocksL_may m _ h.2 x hx

theorem blocksL_len : ∀ (m : Nat) (l : List Int), goodN m l → (blocksL m l).length ≤ 32 * m
  | 0, _, _ => Nat.le_refl _
  | m + 1, l, h => by
    have h1 := blockL_len h.1
    have h2 := blocksL_len m _ h.2
    show (blockL (l.take 16) ++ blocksL m (l.drop 16)).length ≤ _
    rw [List.length_append]
    omega

/-- Blocks that were written are read back. -/
theorem blocks_back {b : List Nat} {T : Int} : ∀ (m : Nat) (l : List Int) (r : List AV) (s : St), goodN m l → AllRead b T ((blocksL m l ++ r).map wrA) s →
    ∃ s', blocksV b m s = (l, s') ∧ AllRead b T (r.map wrA) s' ∧ s' = afterL b ((blocksL m l).map wrA) s
  | 0, l, r, s, hg, h => by
    have e : l = [] := hg
    subst e
    exact ⟨s, rfl, h, rfl⟩
  | m + 1, l, r, s, hg, h => by
    have h' : AllRead b T ((blockL (l.take 16) ++ (blocksL m (l.drop 16) ++ r)).map wrA) s := by rw [← List.append_assoc]; exact h
    obtain ⟨sa, a1, a2, a3⟩ := block_back hg.1 h'
    obtain ⟨sb, b1, b2, b3⟩ := blocks_back m (l.drop 16) r sa hg.2 a2
    refine ⟨sb, ?_, b2, ?_⟩
    · show ((blockV b s).1 ++ (blocksV b m (blockV b s).2).1, (blocksV b m (blockV b s).2).2) = _
      rw [a1]
      show (l.take 16 ++ (blocksV b m sa).1, (blocksV b m sa).2) = _
      rw [b1]
      show (l.take 16 ++ l.drop 16, sb) = _
      rw [List.take_append_drop]
    · rw [b3, a3]
      show _ = afterL b ((blockL (l.take 16) ++ blocksL m (l.drop 16)).map wrA) s
      rw [List.map_append, afterL_append]

theorem blocksV_in {b : List Nat} (hb : Bytes b) : ∀ (m : Nat) (s : St), Inv s → goodN m (blocksV b m s).1 ∧ Inv (blocksV b m s).2 ∧ tellZ s ≤ tellZ (blocksV b m s).2
  | 0, s, hi => ⟨rfl, hi, Int.le_refl _⟩
  | m + 1, s, hi => by
    obtain ⟨a1, a2, a3⟩ := blockV_in hb hi
    obtain ⟨b1, b2, b3⟩ := blocksV_in hb m _ a2
    refine ⟨⟨?_, ?_⟩, b2, by show tellZ s ≤ tellZ (blocksV b m (blockV b s).2).2; omega⟩
    · show BlockP (((blockV b s).1 ++ _).take 16)
      rw [List.take_append_of_le_length (by rw [a1.len]; exact Nat.le_refl _), List.take_of_length_le (by rw [a1.len]; exact Nat.le_refl _)]
      exact a1
    · show goodN m (((blockV b s).1 ++ _).drop 16)
      rw [List.drop_append_of_le_length (by rw [a1.len]; exact Nat.le_refl _), List.drop_of_length_le (by rw [a1.len]; exact Nat.le_refl _), List.nil_append]
      exact b1

/-! ### How far a reader has gone -/
theorem shareV_cnt (b : List Nat) : ∀ (d : Nat) (k : Int) (s : St), (shareV b d k s).2.cnt + 60 ≤ s.cnt + 60 * 2 ^ d
  | 0, _, s => by show s.cnt + 60 ≤ s.cnt + 60 * 1; omega
  | d + 1, k, s => by
    have h1 := rdUint_cnt b (k + 1) s
    have h2 := shareV_cnt b d (rdUint b (k + 1) s).1 (rdUint b (k + 1) s).2
    have h3 := shareV_cnt b d (k - (rdUint b (k + 1) s).1) (shareV b d (rdUint b (k + 1) s).1 (rdUint b (k + 1) s).2).2
    show (shareV b d (k - (rdUint b (k + 1) s).1) (shareV b d (rdUint b (k + 1) s).1 (rdUint b (k + 1) s).2).2).2.cnt + 60 ≤ _
    rw [Nat.pow_succ]
    omega

theorem signV_cnt (b : List Nat) : ∀ (l : List Int) (s : St), (signV b l s).2.cnt ≤ s.cnt + 60 * l.length
  | [], _ => Nat.le_refl _
  | x :: l, s => by
    rw [signV]
    split
    · have h1 := rdBits_cnt b 1 s
      have h2 := signV_cnt b l (rdBits b 1 s).2
      rw [List.length_cons]
      show (signV b l (rdBits b 1 s).2).2.cnt ≤ _
      omega
    · have h2 := signV_cnt b l s
      rw [List.length_cons]
      show (signV b l s).2.cnt ≤ _
      omega

theorem blockV_cnt {b : List Nat} (hb : Bytes b) {s : St} (hi : Inv s) : (blockV b s).2.cnt ≤ s.cnt + 1920 := by
  obtain ⟨r1, _, r3, _⟩ := rdSym_in hb good5.1 hi
  have h1 := rdSym_cnt b (icdfL 5) s
  have h2 := shareV_cnt b 4 (rdSym b (icdfL 5) s).1 (rdSym b (icdfL 5) s).2
  have h3 := signV_cnt b (shareV b 4 (rdSym b (icdfL 5) s).1 (rdSym b (icdfL 5) s).2).1 (shareV b 4 (rdSym b (icdfL 5) s).1 (rdSym b (icdfL 5) s).2).2
  have h4 := (shareV_in hb 4 _ _ r1 r3).1
  rw [h4] at h3
  have h5 : 2 ^ 4 = 16 := by decide
  unfold blockV
  omega

theorem blocksV_cnt {b : List Nat} (hb : Bytes b) : ∀ (m : Nat) (s : St), Inv s → (blocksV b m s).2.cnt ≤ s.cnt + 1920 * m
  | 0, _, _ => Nat.le_refl _
  | m + 1, s, hi => by
    have h1 := blockV_cnt hb hi
    have h2 := blocksV_cnt hb m _ (blockV_in hb hi).2.1
    show (blocksV b m (blockV b s).2).2.cnt ≤ _
    omega

end Go.Proofs.Ytdbgcbbfnjoebaa
