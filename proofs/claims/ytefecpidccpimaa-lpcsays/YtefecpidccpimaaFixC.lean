/- What Sum, Exp2, Cos and Sin of package fix answer, as whole numbers, and that the law's own examples hold. -/
import Derived.Test.YtefecpidccpimaaFixB
import Derived.Lib.LaidTab
import Derived.Laws.Rows
namespace Go.Proofs.Ytefecpidccpimaa
open Go.RowKit

/-! ### Sum -/
def sumStep (s a : Int) : Int := clampI (s + clampI a (-1099511627776) 1099511627776) (-72057594037927936) 72057594037927936
def sumI (l : List Int) : Int := l.foldl sumStep 0

theorem sumStep_in (s a : Int) : -72057594037927936 ≤ sumStep s a ∧ sumStep s a ≤ 72057594037927936 := clampI_in _ _ _ (by decide)

theorem fold_in (f : Int → Int → Int) (lo hi : Int) (hf : ∀ s a, lo ≤ f s a ∧ f s a ≤ hi) (s : Int) (hs : lo ≤ s ∧ s ≤ hi) : ∀ l : List Int, lo ≤ l.foldl f s ∧ l.foldl f s ≤ hi
  | [] => hs
  | a :: l => fold_in f lo hi hf (f s a) (hf s a) l

theorem sumI_in (l : List Int) : -72057594037927936 ≤ sumI l ∧ sumI l ≤ 72057594037927936 := fold_in sumStep _ _ sumStep_in 0 (by decide) l

theorem take_step (zs : List Int) (k : Nat) (h : k < zs.length) : zs.take (k + 1) = zs.take k ++ [zs[k]?.getD 0] := by
  rw [List.take_succ_eq_append_getElem h, List.getElem?_eq_getElem h]; rfl

/-! ### Cosines -/
theorem mul30_in (a b : Int) : -4294967297 ≤ mulI a b 30 ∧ mulI a b 30 ≤ 4294967297 := by
  have h := prod_in (cf_in a) (cf_in b)
  have e : mulI a b 30 = (cf a * cf b + 536870912) / 1073741824 := by
    rw [mulI, if_neg (by decide), if_neg (by decide), if_neg (by decide)]; rfl
  rw [e]
  omega

def serStep (z s v : Int) : Int := v + mulI z s 30
def serI (z : Int) (l : List Int) : Int := l.foldl (serStep z) 0

theorem series_any (z : Int) (zs : List Int) (b off : Nat) (w : World) (hl : zs.length ≤ 9223372036854775807)
    (hc : ∀ i, i < zs.length → w.cell? ⟨b, off + i, none⟩ = some (.int .i64 (zs[i]?.getD 0))) (hz : ∀ i : Nat, -4294967296 ≤ zs[i]?.getD 0 ∧ zs[i]?.getD 0 ≤ 4294967296) (cap : Nat) :
    Calls Try.prog 49 #[.int .i64 z, .slice (some ⟨b, off, none⟩) zs.length cap] w fun e w' => e = .returned (.int .i64 (serI z zs)) ∧ w' = w := by
  go_enter Try.func49, Try.ntmps49
  go_wp2
  go_loop [5, 7, 10] (fun s _ i => ∃ k : Nat, k ≤ zs.length ∧ i = .int .i64 k ∧ s = .int .i64 (serI z (zs.take k))) (fun _ _ i => zs.length - (intOf i).toNat)
  case atStart => exact ⟨0, Nat.zero_le _, rfl, rfl⟩
  case round =>
    obtain ⟨k, hk, rfl, rfl⟩ := hrel
    by_cases hlt : k < zs.length
    · have hck := hc k hlt
      have hzk := hz k
      have hmi := mul30_in z (serI z (zs.take k))
      have HS : Hid (serI z (zs.take (k + 1)) = serStep z (serI z (zs.take k)) (zs[k]?.getD 0)) := by
        show serI z (zs.take (k + 1)) = _
        rw [take_step zs k hlt, serI, List.foldl_append]; rfl
      clear hc hz
      generalize zs[k]?.getD 0 = v at hck hzk HS
      go_wp2_with (go_at_call 25; refine (mul_any _ _ _ _).mono ?_; rintro e w' ⟨rfl, rfl⟩)
      go_round
      case rel => exact ⟨k + 1, by omega, by go_num, by rw [HS.out]; rfl⟩
      case measure => simp [intOf]; omega
    · go_wp2
      go_ret
      exact ⟨ret_int (by rw [List.take_of_length_le (by omega)]), rfl⟩

theorem arc_any (a : Int) (w : World) :
    Calls Try.prog 48 #[.int .i64 a] w fun e w' => e = .returned (.int .i64 (mulI a 1686629713 14)) ∧ w' = w := by
  go_enter Try.func48, Try.ntmps48
  go_wp2_with (go_at_call 25; refine (mul_any _ _ _ _).mono ?_; rintro e w' ⟨rfl, rfl⟩)
  go_ret
  exact ⟨rfl, rfl⟩

def serLow : List Int := [-296, 26631, -1491308, 44739243, -536870912, 1073741824]
def serHigh : List Int := [2959, -213044, 8947849, -178956971, 1073741824]

def quarterI (a : Int) : Int :=
  if a ≤ 8192 then mulI (serI (mulI (mulI a 1686629713 14) (mulI a 1686629713 14) 30) serLow) 1 15
  else mulI (mulI (mulI (16384 - a) 1686629713 14) (serI (mulI (mulI (16384 - a) 1686629713 14) (mulI (16384 - a) 1686629713 14) 30) serHigh) 30) 1 15

theorem at_list (P : Int → Prop) (h0 : P 0) : ∀ (l : List Int), (∀ x ∈ l, P x) → ∀ i : Nat, P (l[i]?.getD 0)
  | [], _, i => by simpa using h0
  | x :: l, h, 0 => by simpa using h x (by simp)
  | x :: l, h, i + 1 => by simpa using at_list P h0 l (fun y hy => h y (by simp [hy])) i

theorem ser_low (z : Int) (w : World) :
    Calls Try.prog 49 #[.int .i64 z, .slice (some ⟨w.heap.size, 0, none⟩) 6 6] (w.alloc (.cells #[.int .i64 (-296), .int .i64 26631, .int .i64 (-1491308), .int .i64 44739243, .int .i64 (-536870912), .int .i64 1073741824] 2)) fun e w' => e = .returned (.int .i64 (serI z serLow)) ∧ w' = (w.alloc (.cells #[.int .i64 (-296), .int .i64 26631, .int .i64 (-1491308), .int .i64 44739243, .int .i64 (-536870912), .int .i64 1073741824] 2)) :=
  series_any z serLow w.heap.size 0 _ (by decide) (fun i hi => by
    rw [World.cell?_alloc_new]
    have h : i = 0 ∨ i = 1 ∨ i = 2 ∨ i = 3 ∨ i = 4 ∨ i = 5 := by simp [serLow] at hi; omega
    rcases h with rfl | rfl | rfl | rfl | rfl | rfl <;> rfl)
    (at_list (fun x => -4294967296 ≤ x ∧ x ≤ 4294967296) (by decide) serLow (by decide)) 6

theorem ser_high (z : Int) (w : World) :
    Calls Try.prog 49 #[.int .i64 z, .slice (some ⟨w.heap.size, 0, none⟩) 5 5] (w.alloc (.cells #[.int .i64 2959, .int .i64 (-213044), .int .i64 8947849, .int .i64 (-178956971), .int .i64 1073741824] 2)) fun e w' => e = .returned (.int .i64 (serI z serHigh)) ∧ w' = (w.alloc (.cells #[.int .i64 2959, .int .i64 (-213044), .int .i64 8947849, .int .i64 (-178956971), .int .i64 1073741824] 2)) :=
  series_any z serHigh w.heap.size 0 _ (by decide) (fun i hi => by
    rw [World.cell?_alloc_new]
    have h : i = 0 ∨ i = 1 ∨ i = 2 ∨ i = 3 ∨ i = 4 := by simp [serHigh] at hi; omega
    rcases h with rfl | rfl | rfl | rfl | rfl <;> rfl)
    (at_list (fun x => -4294967296 ≤ x ∧ x ≤ 4294967296) (by decide) serHigh (by decide)) 5

theorem quarter_any (a : Int) (w : World) (h0 : 0 ≤ a) (h1 : a ≤ 16384) :
    Calls Try.prog 44 #[.int .i64 a] w fun e w' => e = .returned (.int .i64 (quarterI a)) ∧ Below w.heap.size w w' := by
  by_cases hc : a ≤ 8192
  · have e : quarterI a = mulI (serI (mulI (mulI a 1686629713 14) (mulI a 1686629713 14) 30) serLow) 1 15 := by rw [quarterI, if_pos hc]
    rw [e]; clear e
    go_enter Try.func44, Try.ntmps44
    go_wp2_with (first
      | (go_at_call 48; refine (arc_any _ _).mono ?_; rintro e w' ⟨rfl, rfl⟩)
      | (go_at_call 49; refine (ser_low _ _).mono ?_; rintro e w' ⟨rfl, rfl⟩)
      | (go_at_call 25; refine (mul_any _ _ _ _).mono ?_; rintro e w' ⟨rfl, rfl⟩))
    go_ret
    exact ⟨rfl, (Below.refl _ _).alloc (Nat.le_refl _) _⟩
  · have e : quarterI a = mulI (mulI (mulI (16384 - a) 1686629713 14) (serI (mulI (mulI (16384 - a) 1686629713 14) (mulI (16384 - a) 1686629713 14) 30) serHigh) 30) 1 15 := by rw [quarterI, if_neg hc]
    rw [e]; clear e
    go_enter Try.func44, Try.ntmps44
    go_wp2_with (first
      | (go_at_call 48; refine (arc_any _ _).mono ?_; rintro e w' ⟨rfl, rfl⟩)
      | (go_at_call 49; refine (ser_high _ _).mono ?_; rintro e w' ⟨rfl, rfl⟩)
      | (go_at_call 25; refine (mul_any _ _ _ _).mono ?_; rintro e w' ⟨rfl, rfl⟩))
    go_ret
    exact ⟨rfl, (Below.refl _ _).alloc (Nat.le_refl _) _⟩

theorem mul15_in (a : Int) : -65537 ≤ mulI a 1 15 ∧ mulI a 1 15 ≤ 65537 := by
  have h := cf_in a
  have e : mulI a 1 15 = (cf a * cf 1 + 16384) / 32768 := by
    rw [mulI, if_neg (by decide), if_neg (by decide), if_neg (by decide)]; rfl
  have e1 : cf 1 = 1 := by decide
  rw [e, e1]
  omega

theorem quarterI_in (a : Int) : -65537 ≤ quarterI a ∧ quarterI a ≤ 65537 := by
  unfold quarterI
  split <;> exact mul15_in _

/-- The cosine of an angle from 0 to a half turn. -/
def halfI (a : Int) : Int := if 16384 < a then -(quarterI (32768 - a)) else quarterI a
def cosI (a : Int) : Int := halfI (if 32768 < a % 65536 then 65536 - a % 65536 else a % 65536)
def sinI (a : Int) : Int := cosI (a % 65536 - 16384)

theorem cos_any (a : Int) (w : World) :
    Calls Try.prog 37 #[.int .i64 a] w fun e w' => e = .returned (.int .i64 (cosI a)) ∧ Below w.heap.size w w' := by
  have hm : 0 ≤ a % 65536 ∧ a % 65536 < 65536 := by omega
  unfold cosI halfI
  generalize hq : a % 65536 = q at *
  have hq' : Hid (a % 65536 = q) := hq
  clear hq
  by_cases h1 : 32768 < q
  · rw [if_pos h1]
    by_cases h2 : 16384 < 65536 - q
    · rw [if_pos h2]
      have hb := quarterI_in (32768 - (65536 - q))
      go_enter Try.func37, Try.ntmps37
      go_wp2_with (first
        | (go_at_call 43; refine (wrap_any _ _).mono ?_; rw [hq'.out]; rintro e w' ⟨rfl, rfl⟩)
        | (go_at_call 44; refine (quarter_any _ _ (by omega) (by omega)).mono ?_; rintro e w1 ⟨rfl, hw1⟩))
      go_ret
      exact ⟨rfl, hw1⟩
    · rw [if_neg h2]
      go_enter Try.func37, Try.ntmps37
      go_wp2_with (first
        | (go_at_call 43; refine (wrap_any _ _).mono ?_; rw [hq'.out]; rintro e w' ⟨rfl, rfl⟩)
        | (go_at_call 44; refine (quarter_any _ _ (by omega) (by omega)).mono ?_; rintro e w1 ⟨rfl, hw1⟩))
      go_ret
      exact ⟨rfl, hw1⟩
  · rw [if_neg h1]
    by_cases h2 : 16384 < q
    · rw [if_pos h2]
      have hb := quarterI_in (32768 - q)
      go_enter Try.func37, Try.ntmps37
      go_wp2_with (first
        | (go_at_call 43; refine (wrap_any _ _).mono ?_; rw [hq'.out]; rintro e w' ⟨rfl, rfl⟩)
        | (go_at_call 44; refine (quarter_any _ _ (by omega) (by omega)).mono ?_; rintro e w1 ⟨rfl, hw1⟩))
      go_ret
      exact ⟨rfl, hw1⟩
    · rw [if_neg h2]
      go_enter Try.func37, Try.ntmps37
      go_wp2_with (first
        | (go_at_call 43; refine (wrap_any _ _).mono ?_; rw [hq'.out]; rintro e w' ⟨rfl, rfl⟩)
        | (go_at_call 44; refine (quarter_any _ _ (by omega) (by omega)).mono ?_; rintro e w1 ⟨rfl, hw1⟩))
      go_ret
      exact ⟨rfl, hw1⟩

/-! ### Exp2 -/
def rootsArr : Array Value := #[.int .i64 1518500250, .int .i64 1276901417, .int .i64 1170923762, .int .i64 1121280436, .int .i64 1097253708, .int .i64 1085434106, .int .i64 1079572136, .int .i64 1076653033]

def rootAt : Nat → Int
  | 0 => 1518500250
  | 1 => 1276901417
  | 2 => 1170923762
  | 3 => 1121280436
  | 4 => 1097253708
  | 5 => 1085434106
  | 6 => 1079572136
  | 7 => 1076653033
  | _ => 0

def expStep (q r : Int) (k : Nat) : Int := if q / 2 ^ (7 - k) % 2 = 1 then mulI r (rootAt k) 30 else r
def expIter (q : Int) : Nat → Int
  | 0 => 1073741824
  | k + 1 => expStep q (expIter q k) k
def exp2I (q : Int) : Int := mulI (expIter (clampI q 0 7935) 8) 1 (30 - clampI q 0 7935 / 256)

theorem and1 (n : Int) : bits .and .i64 n 1 = n % 2 := by
  have hm : (BitVec.ofInt 64 1).toNat = 2 ^ 1 - 1 := by decide
  have key : (BitVec.ofInt 64 n &&& BitVec.ofInt 64 1).toNat = (n % ((2 ^ 64 : Nat) : Int)).toNat % 2 ^ 1 := by
    rw [BitVec.toNat_and, BitVec.toNat_ofInt, hm, Nat.and_two_pow_sub_one_eq_mod]
  show IntKind.i64.wrap ((BitVec.ofInt 64 n &&& BitVec.ofInt 64 1).toNat : Nat) = n % 2
  rw [key, IntKind.wrap_i64]
  omega

theorem expIter_yes {q : Int} {k : Nat} (h : q / 2 ^ (7 - k) % 2 = 1) : expIter q (k + 1) = mulI (expIter q k) (rootAt k) 30 := by
  show expStep q (expIter q k) k = _
  rw [expStep, if_pos h]

theorem expIter_no {q : Int} {k : Nat} (h : ¬ q / 2 ^ (7 - k) % 2 = 1) : expIter q (k + 1) = expIter q k := by
  show expStep q (expIter q k) k = _
  rw [expStep, if_neg h]

end Go.Proofs.Ytefecpidccpimaa
