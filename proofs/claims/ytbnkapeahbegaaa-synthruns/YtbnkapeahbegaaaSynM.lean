/- A voice as plain numbers: what drives the filter, what comes out; parts cut in two, bounds, silence. The past stands with the newest first. Nothing here is of any program. -/
import Derived.Test.YtbnkapeahbegaaaFixA
namespace Go.Proofs.Ytbnkapeahbegaaa
open Go.RowKit

def keep24 (v : Int) : Int := clampI v (-16777216) 16777216
theorem keep24_in (v : Int) : -16777216 ≤ keep24 v ∧ keep24 v ≤ 16777216 := by
  unfold keep24 clampI
  split <;> (try split) <;> (try split) <;> omega
theorem keep24_same {v : Int} (h1 : -16777216 ≤ v) (h2 : v ≤ 16777216) : keep24 v = v := by
  unfold keep24 clampI
  rw [if_neg (by omega), if_neg (by omega), if_neg (by omega)]

/-- What was n samples ahead, n from 1 on. -/
def pastI (l : List Int) (n : Nat) : Int := l[n - 1]?.getD 0

structure PartP where
  loud : Int
  lag : Nat
  taps : List Int
  filt : List Int

/-- The first k taps' share, and the first k of the filter's. -/
def lagsN (p : PartP) (R : List Int) (b : Int) : Nat → Int
  | 0 => b
  | k + 1 => lagsN p R b k + mulI (p.taps[k]?.getD 0) (pastI R (p.lag - 2 + k)) 7
def filtN (p : PartP) (O : List Int) (b : Int) : Nat → Int
  | 0 => b
  | k + 1 => filtN p O b k + mulI (p.filt[k]?.getD 0) (pastI O (k + 1)) 12

def driveI (p : PartP) (x : Int) (R : List Int) : Int := keep24 (if p.lag = 0 then x * p.loud else lagsN p R (x * p.loud) 5)
def outI (p : PartP) (r : Int) (O : List Int) : Int := keep24 (filtN p O r p.filt.length)

/-- What comes out, what is kept of both. -/
def runS (p : PartP) : List Int → List Int → List Int → List Int × List Int × List Int
  | [], R, O => ([], R, O)
  | x :: l, R, O => (outI p (driveI p x R) O :: (runS p l (driveI p x R :: R) (outI p (driveI p x R) O :: O)).1, (runS p l (driveI p x R :: R) (outI p (driveI p x R) O :: O)).2)

theorem runS_append (p : PartP) : ∀ (l m R O : List Int), runS p (l ++ m) R O = ((runS p l R O).1 ++ (runS p m (runS p l R O).2.1 (runS p l R O).2.2).1, (runS p m (runS p l R O).2.1 (runS p l R O).2.2).2)
  | [], _, _, _ => rfl
  | x :: l, m, R, O => by
    show (_ :: (runS p (l ++ m) _ _).1, (runS p (l ++ m) _ _).2) = _
    rw [runS_append p l m (driveI p x R :: R) (outI p (driveI p x R) O :: O)]
    rfl

theorem runS_snoc (p : PartP) (l : List Int) (x : Int) (R O : List Int) : runS p (l ++ [x]) R O =
    ((runS p l R O).1 ++ [outI p (driveI p x (runS p l R O).2.1) (runS p l R O).2.2], driveI p x (runS p l R O).2.1 :: (runS p l R O).2.1, outI p (driveI p x (runS p l R O).2.1) (runS p l R O).2.2 :: (runS p l R O).2.2) := by
  rw [runS_append]
  rfl

theorem runS_len (p : PartP) : ∀ (l R O : List Int), (runS p l R O).1.length = l.length
  | [], _, _ => rfl
  | x :: l, R, O => by
    show (runS p l _ _).1.length + 1 = l.length + 1
    rw [runS_len p l]

/-- What comes out is kept too. -/
theorem runS_kept (p : PartP) : ∀ (l R O : List Int), (runS p l R O).2.2 = (runS p l R O).1.reverse ++ O
  | [], _, _ => rfl
  | x :: l, R, O => by
    show (runS p l _ _).2.2 = ((_ : Int) :: (runS p l _ _).1).reverse ++ O
    rw [runS_kept p l, List.reverse_cons, List.append_assoc]
    rfl

theorem runS_bounds (p : PartP) : ∀ (l R O : List Int), ∀ y ∈ (runS p l R O).1, -16777216 ≤ y ∧ y ≤ 16777216
  | [], _, _, y, h => by cases h
  | x :: l, R, O, y, h => by
    rcases List.mem_cons.1 h with rfl | h
    · exact keep24_in _
    · exact runS_bounds p l _ _ y h

/-! ### As much of the past as is asked for -/
def Alike (n : Nat) (l m : List Int) : Prop := ∀ i, i < n → l[i]?.getD 0 = m[i]?.getD 0
theorem Alike.refl (n : Nat) (l : List Int) : Alike n l l := fun _ _ => rfl
theorem Alike.symm {n : Nat} {l m : List Int} (h : Alike n l m) : Alike n m l := fun i hi => (h i hi).symm
theorem Alike.trans {n : Nat} {l m k : List Int} (h : Alike n l m) (g : Alike n m k) : Alike n l k := fun i hi => (h i hi).trans (g i hi)
theorem Alike.cons {n : Nat} {l m : List Int} (h : Alike n l m) (x : Int) : Alike n (x :: l) (x :: m) := fun i hi => by
  cases i with
  | zero => rfl
  | succ i => exact h i (by omega)
theorem Alike.take (n : Nat) (l : List Int) : Alike n (l.take n) l := fun i hi => by rw [List.getElem?_take_of_lt hi]

theorem lagsN_alike {p : PartP} (hp : p.lag ≤ 318) {R S : List Int} (h : Alike 320 R S) (b : Int) : ∀ k, k ≤ 5 → lagsN p R b k = lagsN p S b k
  | 0, _ => rfl
  | k + 1, hk => by
    show lagsN p R b k + mulI _ (R[p.lag - 2 + k - 1]?.getD 0) 7 = lagsN p S b k + mulI _ (S[p.lag - 2 + k - 1]?.getD 0) 7
    rw [lagsN_alike hp h b k (by omega), h (p.lag - 2 + k - 1) (by omega)]

theorem filtN_alike {p : PartP} {O S : List Int} (h : Alike 32 O S) (b : Int) : ∀ k, k ≤ 32 → filtN p O b k = filtN p S b k
  | 0, _ => rfl
  | k + 1, hk => by
    show filtN p O b k + mulI _ (O[k + 1 - 1]?.getD 0) 12 = filtN p S b k + mulI _ (S[k + 1 - 1]?.getD 0) 12
    rw [filtN_alike h b k (by omega), h (k + 1 - 1) (by omega)]

theorem runS_alike {p : PartP} (hp : p.lag ≤ 318) (hf : p.filt.length ≤ 32) : ∀ (l R R2 O O2 : List Int), Alike 320 R R2 → Alike 32 O O2 → (runS p l R O).1 = (runS p l R2 O2).1 ∧ Alike 320 (runS p l R O).2.1 (runS p l R2 O2).2.1 ∧ Alike 32 (runS p l R O).2.2 (runS p l R2 O2).2.2
  | [], _, _, _, _, h, g => ⟨rfl, h, g⟩
  | x :: l, R, R2, O, O2, h, g => by
    have e1 : driveI p x R = driveI p x R2 := by
      unfold driveI
      rw [lagsN_alike hp h _ 5 (Nat.le_refl _)]
    have e2 : outI p (driveI p x R2) O = outI p (driveI p x R2) O2 := by
      unfold outI
      rw [filtN_alike g _ _ hf]
    obtain ⟨a1, a2, a3⟩ := runS_alike hp hf l (driveI p x R :: R) (driveI p x R2 :: R2) (outI p (driveI p x R) O :: O) (outI p (driveI p x R2) O2 :: O2) (by rw [e1]; exact h.cons _) (by rw [e1, e2]; exact g.cons _)
    refine ⟨?_, a2, a3⟩
    show outI p (driveI p x R) O :: _ = outI p (driveI p x R2) O2 :: _
    rw [a1, e1, e2]

/-! ### Silence; no filter, no lag -/
theorem cf_nought : cf 0 = 0 := by unfold cf clampI; simp
theorem mulI_zero (a s : Int) : mulI a 0 s = 0 := by
  unfold mulI
  rw [cf_nought, Int.mul_zero]
  split
  · rfl
  · split
    · rfl
    · split
      · rfl
      · rw [Int.zero_add]
        have h1 : (0 : Int) ≤ 2 ^ (s.toNat - 1) := Int.le_of_lt (Int.pow_pos (by decide))
        have h2 : (2 : Int) ^ (s.toNat - 1) < 2 ^ s.toNat := by
          obtain ⟨k, hk⟩ : ∃ k, s.toNat = k + 1 := ⟨s.toNat - 1, by omega⟩
          rw [hk, Nat.add_sub_cancel, Int.pow_succ]
          have : (0 : Int) < 2 ^ k := Int.pow_pos (by decide)
          omega
        exact Int.ediv_eq_zero_of_lt h1 h2

def Nought (l : List Int) : Prop := ∀ i : Nat, l[i]?.getD 0 = 0
theorem Nought.nil : Nought [] := fun _ => rfl
theorem Nought.cons {l : List Int} (h : Nought l) : Nought (0 :: l) := fun i => by
  cases i with
  | zero => rfl
  | succ i => exact h i

theorem lagsN_nought {p : PartP} {R : List Int} (h : Nought R) : ∀ k, lagsN p R 0 k = 0
  | 0 => rfl
  | k + 1 => by
    show lagsN p R 0 k + mulI _ (R[p.lag - 2 + k - 1]?.getD 0) 7 = 0
    rw [lagsN_nought h k, h, mulI_zero]
    rfl
theorem filtN_nought {p : PartP} {O : List Int} (h : Nought O) : ∀ k, filtN p O 0 k = 0
  | 0 => rfl
  | k + 1 => by
    show filtN p O 0 k + mulI _ (O[k + 1 - 1]?.getD 0) 12 = 0
    rw [filtN_nought h k, h, mulI_zero]
    rfl

theorem runS_nought (p : PartP) : ∀ (n : Nat) (R O : List Int), Nought R → Nought O → (runS p (List.replicate n 0) R O).1 = List.replicate n 0
  | 0, _, _, _, _ => rfl
  | n + 1, R, O, h, g => by
    have e1 : driveI p 0 R = 0 := by
      unfold driveI
      rw [Int.zero_mul, lagsN_nought h]
      split <;> rfl
    have e2 : outI p 0 O = 0 := by
      unfold outI
      rw [filtN_nought g]
      rfl
    show outI p (driveI p 0 R) O :: (runS p (List.replicate n 0) (driveI p 0 R :: R) (outI p (driveI p 0 R) O :: O)).1 = 0 :: List.replicate n 0
    rw [e1, e2, runS_nought p n (0 :: R) (0 :: O) h.cons g.cons]

theorem runS_plain {p : PartP} (h1 : p.lag = 0) (h2 : p.filt = []) (hl0 : 0 ≤ p.loud) (hl : p.loud ≤ 262144) : ∀ (l R O : List Int), (∀ x ∈ l, -16 ≤ x ∧ x ≤ 16) → (runS p l R O).1 = l.map (· * p.loud)
  | [], _, _, _ => rfl
  | x :: l, R, O, h => by
    have hx := h x (by simp)
    have b1 : x * p.loud ≤ 16 * 262144 := Int.le_trans (Int.mul_le_mul_of_nonneg_right hx.2 hl0) (Int.mul_le_mul_of_nonneg_left hl (by decide))
    have b2 : -16 * 262144 ≤ x * p.loud := by
      have e1 : -16 * p.loud ≤ x * p.loud := Int.mul_le_mul_of_nonneg_right hx.1 hl0
      have e2 : -16 * 262144 ≤ -16 * p.loud := by omega
      exact Int.le_trans e2 e1
    have e1 : driveI p x R = x * p.loud := by
      unfold driveI
      rw [if_pos h1, keep24_same (by omega) (by omega)]
    have e2 : outI p (x * p.loud) O = x * p.loud := by
      unfold outI
      rw [h2]
      show keep24 (x * p.loud) = x * p.loud
      exact keep24_same (by omega) (by omega)
    show outI p (driveI p x R) O :: (runS p l _ _).1 = x * p.loud :: l.map (· * p.loud)
    rw [runS_plain h1 h2 hl0 hl l _ _ (fun y hy => h y (by simp [hy])), e1, e2]

end Go.Proofs.Ytbnkapeahbegaaa
