/- What Sum, Exp2, Cos and Sin of package fix answer, as whole numbers, and that the law's own examples hold. -/
import Derived.Test.YtklpicfeajmadaaFixB
import Derived.Lib.LaidTab
import Derived.Laws.Rows
namespace Go.Proofs.Ytklpicfeajmadaa
open Go.RowKit

/-! ### Sum -/
def sumStep (s a : Int) : Int := clampI (s + clampI a (-1099511627776) 1099511627776) (-72057594037927936) 72057594037927936
def sumI (l : List Int) : Int := l.foldl sumStep 0

theorem sumStep_in (s a : Int) : -72057594037927936 ≤ sumStep s a ∧ sumStep s a ≤ 72057594037927936 := clampI_in _ _ _ (by decide)

theorem fold_in (f : Int → Int → Int) (lo hi : Int) (hf : ∀ s a, lo ≤ f s a ∧ f s a ≤ hi) (s : Int) (hs : lo ≤ s ∧ s ≤ hi) : ∀ l : List Int, lo ≤ l.foldl f s ∧ l.foldl f s ≤ hi
  | [] => hs
  | a :: l => fold_in f lo hi hf (f s a) (hf s a) l

theorem sumI_in (l : List Int) : -72057594037927936 ≤ sumI l ∧ sumI l ≤ 72057594037927936 := fold_in sumStep _ _ sumStep_in 0 (by decide) l

theorem take_step (zs : List Int) (k : Nat) (h : k < zs.length) : zs.take (k + 1) = zs.take k ++ [zs[k]?.getD 0] := by
  rw [List.take_succ_eq_append_getElem h, List.getElem?_eq_getElem h]; rfl

/-! ### Cosines -/
theorem mul30_in (a b : Int) : -4294967297 ≤ mulI a b 30 ∧ mulI a b 30 ≤ 4294967297 := by
  have h := prod_in (cf_in a) (cf_in b)
  have e : mulI a b 30 = (cf a * cf b + 536870912) / 1073741824 := by
    rw [mulI, if_neg (by decide), if_neg (by decide), if_neg (by decide)]; rfl
  rw [e]
  omega

def serStep (z s v : Int) : Int := v + mulI z s 30
def serI (z : Int) (l : List Int) : Int := l.foldl (serStep z) 0

def serLow : List Int := [-296, 26631, -1491308, 44739243, -536870912, 1073741824]
def serHigh : List Int := [2959, -213044, 8947849, -178956971, 1073741824]

def quarterI (a : Int) : Int :=
  if a ≤ 8192 then mulI (serI (mulI (mulI a 1686629713 14) (mulI a 1686629713 14) 30) serLow) 1 15
  else mulI (mulI (mulI (16384 - a) 1686629713 14) (serI (mulI (mulI (16384 - a) 1686629713 14) (mulI (16384 - a) 1686629713 14) 30) serHigh) 30) 1 15

theorem at_list (P : Int → Prop) (h0 : P 0) : ∀ (l : List Int), (∀ x ∈ l, P x) → ∀ i : Nat, P (l[i]?.getD 0)
  | [], _, i => by simpa using h0
  | x :: l, h, 0 => by simpa using h x (by simp)
  | x :: l, h, i + 1 => by simpa using at_list P h0 l (fun y hy => h y (by simp [hy])) i

theorem mul15_in (a : Int) : -65537 ≤ mulI a 1 15 ∧ mulI a 1 15 ≤ 65537 := by
  have h := cf_in a
  have e : mulI a 1 15 = (cf a * cf 1 + 16384) / 32768 := by
    rw [mulI, if_neg (by decide), if_neg (by decide), if_neg (by decide)]; rfl
  have e1 : cf 1 = 1 := by decide
  rw [e, e1]
  omega

theorem quarterI_in (a : Int) : -65537 ≤ quarterI a ∧ quarterI a ≤ 65537 := by
  unfold quarterI
  split <;> exact mul15_in _

/-- The cosine of an angle from 0 to a half turn. -/
def halfI (a : Int) : Int := if 16384 < a then -(quarterI (32768 - a)) else quarterI a
def cosI (a : Int) : Int := halfI (if 32768 < a % 65536 then 65536 - a % 65536 else a % 65536)
def sinI (a : Int) : Int := cosI (a % 65536 - 16384)

/-! ### Exp2 -/
def rootsArr : Array Value := #[.int .i64 1518500250, .int .i64 1276901417, .int .i64 1170923762, .int .i64 1121280436, .int .i64 1097253708, .int .i64 1085434106, .int .i64 1079572136, .int .i64 1076653033]

def rootAt : Nat → Int
  | 0 => 1518500250
  | 1 => 1276901417
  | 2 => 1170923762
  | 3 => 1121280436
  | 4 => 1097253708
  | 5 => 1085434106
  | 6 => 1079572136
  | 7 => 1076653033
  | _ => 0

def expStep (q r : Int) (k : Nat) : Int := if q / 2 ^ (7 - k) % 2 = 1 then mulI r (rootAt k) 30 else r
def expIter (q : Int) : Nat → Int
  | 0 => 1073741824
  | k + 1 => expStep q (expIter q k) k
def exp2I (q : Int) : Int := mulI (expIter (clampI q 0 7935) 8) 1 (30 - clampI q 0 7935 / 256)

theorem and1 (n : Int) : bits .and .i64 n 1 = n % 2 := by
  have hm : (BitVec.ofInt 64 1).toNat = 2 ^ 1 - 1 := by decide
  have key : (BitVec.ofInt 64 n &&& BitVec.ofInt 64 1).toNat = (n % ((2 ^ 64 : Nat) : Int)).toNat % 2 ^ 1 := by
    rw [BitVec.toNat_and, BitVec.toNat_ofInt, hm, Nat.and_two_pow_sub_one_eq_mod]
  show IntKind.i64.wrap ((BitVec.ofInt 64 n &&& BitVec.ofInt 64 1).toNat : Nat) = n % 2
  rw [key, IntKind.wrap_i64]
  omega

theorem expIter_yes {q : Int} {k : Nat} (h : q / 2 ^ (7 - k) % 2 = 1) : expIter q (k + 1) = mulI (expIter q k) (rootAt k) 30 := by
  show expStep q (expIter q k) k = _
  rw [expStep, if_pos h]

theorem expIter_no {q : Int} {k : Nat} (h : ¬ q / 2 ^ (7 - k) % 2 = 1) : expIter q (k + 1) = expIter q k := by
  show expStep q (expIter q k) k = _
  rw [expStep, if_neg h]

end Go.Proofs.Ytklpicfeajmadaa
