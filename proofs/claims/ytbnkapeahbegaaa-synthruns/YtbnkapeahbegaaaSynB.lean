/- Whether a part may be: the program's word. (By wip/mkgood10.py.) -/
import Derived.Test.YtbnkapeahbegaaaSynA
namespace Go.Proofs.Ytbnkapeahbegaaa
open Go.RowKit
set_option linter.unusedVariables false

def lagB (lag : Int) : Bool := decide (lag = 0 ∨ 3 ≤ lag ∧ lag ≤ 318)
def goodB (l : List Int) (loud lag : Int) (t f : List Int) : Bool :=
  decide (1 ≤ l.length) && (decide (l.length ≤ 480) && (withinB 16 l && (decide (0 ≤ loud) && (decide (loud ≤ 262144) && (lagB lag && (withinB 128 t && (decide (f.length ≤ 32) && withinB 131072 f)))))))

/-- The taps within a part that lies in a block of its own. -/
theorem taps_zs (w : World) (u0 u1 u2 u8 : Value) (t0 t1 t2 t3 t4 : Int) (T : TypeId) : Zs (w.alloc (.cells #[u0, u1, u2, .int .i64 t0, .int .i64 t1, .int .i64 t2, .int .i64 t3, .int .i64 t4, u8] T)) (some ⟨w.heap.size, 3, none⟩) 5 [t0, t1, t2, t3, t4] :=
  ⟨rfl, fun _ => ⟨w.heap.size, 3, rfl, by simp, fun i hi => by
    rw [cell_of_row _ _ _ _ _ (0, 0) (heap_alloc_new w _)]
    match i, hi with
    | 0, _ => rfl
    | 1, _ => rfl
    | 2, _ => rfl
    | 3, _ => rfl
    | 4, _ => rfl⟩⟩

set_option maxRecDepth 100000 in
set_option maxHeartbeats 1000000 in
theorem good_no0 (a : Option Addr) (n cap : Nat) (l : List Int) (loud lag t0 t1 t2 t3 t4 : Int) (fa : Option Addr) (fn fcap : Nat) (f : List Int) (w : World) (hz : Zs w a n l) (hf : Zs w fa fn f) (hn : n ≤ 9223372036854775807) (hfn : fn ≤ 9223372036854775807) (c1 : (n : Int) < 1) :
    Calls Try.prog 14 #[.agg #[.slice a n cap, .int .i64 loud, .int .i64 lag, .int .i64 t0, .int .i64 t1, .int .i64 t2, .int .i64 t3, .int .i64 t4, .slice fa fn fcap]] w fun e w' => e = .returned (.bool false) ∧ Below w.heap.size w w' := by
  have hB : Hid (Below w.heap.size w (w.alloc (.cells #[.slice a n cap, .int .i64 loud, .int .i64 lag, .int .i64 t0, .int .i64 t1, .int .i64 t2, .int .i64 t3, .int .i64 t4, .slice fa fn fcap] 31))) := (Below.refl _ _).alloc (Nat.le_refl _) _
  clear hz hf 
  go_enter Try.func14, Try.ntmps14
  go_wp2
  go_ret
  exact ⟨rfl, hB.out⟩

set_option maxRecDepth 100000 in
set_option maxHeartbeats 1000000 in
theorem good_no1 (a : Option Addr) (n cap : Nat) (l : List Int) (loud lag t0 t1 t2 t3 t4 : Int) (fa : Option Addr) (fn fcap : Nat) (f : List Int) (w : World) (hz : Zs w a n l) (hf : Zs w fa fn f) (hn : n ≤ 9223372036854775807) (hfn : fn ≤ 9223372036854775807) (c1 : (1 : Int) ≤ n) (c2 : (480 : Int) < n) :
    Calls Try.prog 14 #[.agg #[.slice a n cap, .int .i64 loud, .int .i64 lag, .int .i64 t0, .int .i64 t1, .int .i64 t2, .int .i64 t3, .int .i64 t4, .slice fa fn fcap]] w fun e w' => e = .returned (.bool false) ∧ Below w.heap.size w w' := by
  have hB : Hid (Below w.heap.size w (w.alloc (.cells #[.slice a n cap, .int .i64 loud, .int .i64 lag, .int .i64 t0, .int .i64 t1, .int .i64 t2, .int .i64 t3, .int .i64 t4, .slice fa fn fcap] 31))) := (Below.refl _ _).alloc (Nat.le_refl _) _
  clear hz hf 
  go_enter Try.func14, Try.ntmps14
  go_wp2
  go_ret
  exact ⟨rfl, hB.out⟩

set_option maxRecDepth 100000 in
set_option maxHeartbeats 1000000 in
theorem good_no2 (a : Option Addr) (n cap : Nat) (l : List Int) (loud lag t0 t1 t2 t3 t4 : Int) (fa : Option Addr) (fn fcap : Nat) (f : List Int) (w : World) (hz : Zs w a n l) (hf : Zs w fa fn f) (hn : n ≤ 9223372036854775807) (hfn : fn ≤ 9223372036854775807) (c1 : (1 : Int) ≤ n) (c2 : (n : Int) ≤ 480) (hb1 : withinB 16 l = false) :
    Calls Try.prog 14 #[.agg #[.slice a n cap, .int .i64 loud, .int .i64 lag, .int .i64 t0, .int .i64 t1, .int .i64 t2, .int .i64 t3, .int .i64 t4, .slice fa fn fcap]] w fun e w' => e = .returned (.bool false) ∧ Below w.heap.size w w' := by
  have hB : Hid (Below w.heap.size w (w.alloc (.cells #[.slice a n cap, .int .i64 loud, .int .i64 lag, .int .i64 t0, .int .i64 t1, .int .i64 t2, .int .i64 t3, .int .i64 t4, .slice fa fn fcap] 31))) := (Below.refl _ _).alloc (Nat.le_refl _) _
  have h1 : Hid (Calls Try.prog 26 #[.slice a n cap, .int .i64 16] (w.alloc (.cells #[.slice a n cap, .int .i64 loud, .int .i64 lag, .int .i64 t0, .int .i64 t1, .int .i64 t2, .int .i64 t3, .int .i64 t4, .slice fa fn fcap] 31)) fun e w' => e = .returned (.bool false) ∧ w' = w.alloc (.cells #[.slice a n cap, .int .i64 loud, .int .i64 lag, .int .i64 t0, .int .i64 t1, .int .i64 t2, .int .i64 t3, .int .i64 t4, .slice fa fn fcap] 31)) := by rw [← hb1]; exact allWithin_any a n cap l 16 _ (hz.alloc _) hn (by decide) (by decide)
  have y1 : Hid True := trivial
  clear hz hf hb1
  go_enter Try.func14, Try.ntmps14
  go_wp2_with (first | (go_at_call 26; clear y1; refine h1.out.mono ?_; rintro e w' ⟨rfl, rfl⟩))
  go_ret
  exact ⟨rfl, hB.out⟩

set_option maxRecDepth 100000 in
set_option maxHeartbeats 1000000 in
theorem good_no3 (a : Option Addr) (n cap : Nat) (l : List Int) (loud lag t0 t1 t2 t3 t4 : Int) (fa : Option Addr) (fn fcap : Nat) (f : List Int) (w : World) (hz : Zs w a n l) (hf : Zs w fa fn f) (hn : n ≤ 9223372036854775807) (hfn : fn ≤ 9223372036854775807) (c1 : (1 : Int) ≤ n) (c2 : (n : Int) ≤ 480) (hb1 : withinB 16 l = true) (c4 : loud < 0) :
    Calls Try.prog 14 #[.agg #[.slice a n cap, .int .i64 loud, .int .i64 lag, .int .i64 t0, .int .i64 t1, .int .i64 t2, .int .i64 t3, .int .i64 t4, .slice fa fn fcap]] w fun e w' => e = .returned (.bool false) ∧ Below w.heap.size w w' := by
  have hB : Hid (Below w.heap.size w (w.alloc (.cells #[.slice a n cap, .int .i64 loud, .int .i64 lag, .int .i64 t0, .int .i64 t1, .int .i64 t2, .int .i64 t3, .int .i64 t4, .slice fa fn fcap] 31))) := (Below.refl _ _).alloc (Nat.le_refl _) _
  have h1 : Hid (Calls Try.prog 26 #[.slice a n cap, .int .i64 16] (w.alloc (.cells #[.slice a n cap, .int .i64 loud, .int .i64 lag, .int .i64 t0, .int .i64 t1, .int .i64 t2, .int .i64 t3, .int .i64 t4, .slice fa fn fcap] 31)) fun e w' => e = .returned (.bool true) ∧ w' = w.alloc (.cells #[.slice a n cap, .int .i64 loud, .int .i64 lag, .int .i64 t0, .int .i64 t1, .int .i64 t2, .int .i64 t3, .int .i64 t4, .slice fa fn fcap] 31)) := by rw [← hb1]; exact allWithin_any a n cap l 16 _ (hz.alloc _) hn (by decide) (by decide)
  have y1 : Hid True := trivial
  clear hz hf hb1
  go_enter Try.func14, Try.ntmps14
  go_wp2_with (first | (go_at_call 26; clear y1; refine h1.out.mono ?_; rintro e w' ⟨rfl, rfl⟩))
  go_ret
  exact ⟨rfl, hB.out⟩

set_option maxRecDepth 100000 in
set_option maxHeartbeats 1000000 in
theorem good_no4 (a : Option Addr) (n cap : Nat) (l : List Int) (loud lag t0 t1 t2 t3 t4 : Int) (fa : Option Addr) (fn fcap : Nat) (f : List Int) (w : World) (hz : Zs w a n l) (hf : Zs w fa fn f) (hn : n ≤ 9223372036854775807) (hfn : fn ≤ 9223372036854775807) (c1 : (1 : Int) ≤ n) (c2 : (n : Int) ≤ 480) (hb1 : withinB 16 l = true) (c4 : 0 ≤ loud) (c5 : 262144 < loud) :
    Calls Try.prog 14 #[.agg #[.slice a n cap, .int .i64 loud, .int .i64 lag, .int .i64 t0, .int .i64 t1, .int .i64 t2, .int .i64 t3, .int .i64 t4, .slice fa fn fcap]] w fun e w' => e = .returned (.bool false) ∧ Below w.heap.size w w' := by
  have hB : Hid (Below w.heap.size w (w.alloc (.cells #[.slice a n cap, .int .i64 loud, .int .i64 lag, .int .i64 t0, .int .i64 t1, .int .i64 t2, .int .i64 t3, .int .i64 t4, .slice fa fn fcap] 31))) := (Below.refl _ _).alloc (Nat.le_refl _) _
  have h1 : Hid (Calls Try.prog 26 #[.slice a n cap, .int .i64 16] (w.alloc (.cells #[.slice a n cap, .int .i64 loud, .int .i64 lag, .int .i64 t0, .int .i64 t1, .int .i64 t2, .int .i64 t3, .int .i64 t4, .slice fa fn fcap] 31)) fun e w' => e = .returned (.bool true) ∧ w' = w.alloc (.cells #[.slice a n cap, .int .i64 loud, .int .i64 lag, .int .i64 t0, .int .i64 t1, .int .i64 t2, .int .i64 t3, .int .i64 t4, .slice fa fn fcap] 31)) := by rw [← hb1]; exact allWithin_any a n cap l 16 _ (hz.alloc _) hn (by decide) (by decide)
  have y1 : Hid True := trivial
  clear hz hf hb1
  go_enter Try.func14, Try.ntmps14
  go_wp2_with (first | (go_at_call 26; clear y1; refine h1.out.mono ?_; rintro e w' ⟨rfl, rfl⟩))
  go_ret
  exact ⟨rfl, hB.out⟩

set_option maxRecDepth 100000 in
set_option maxHeartbeats 1000000 in
theorem good_no5x (a : Option Addr) (n cap : Nat) (l : List Int) (loud lag t0 t1 t2 t3 t4 : Int) (fa : Option Addr) (fn fcap : Nat) (f : List Int) (w : World) (hz : Zs w a n l) (hf : Zs w fa fn f) (hn : n ≤ 9223372036854775807) (hfn : fn ≤ 9223372036854775807) (c1 : (1 : Int) ≤ n) (c2 : (n : Int) ≤ 480) (hb1 : withinB 16 l = true) (c4 : 0 ≤ loud) (c5 : loud ≤ 262144) (hgz : (lag == 0) = false) (hg3 : lag < 3) :
    Calls Try.prog 14 #[.agg #[.slice a n cap, .int .i64 loud, .int .i64 lag, .int .i64 t0, .int .i64 t1, .int .i64 t2, .int .i64 t3, .int .i64 t4, .slice fa fn fcap]] w fun e w' => e = .returned (.bool false) ∧ Below w.heap.size w w' := by
  have hB : Hid (Below w.heap.size w (w.alloc (.cells #[.slice a n cap, .int .i64 loud, .int .i64 lag, .int .i64 t0, .int .i64 t1, .int .i64 t2, .int .i64 t3, .int .i64 t4, .slice fa fn fcap] 31))) := (Below.refl _ _).alloc (Nat.le_refl _) _
  have h1 : Hid (Calls Try.prog 26 #[.slice a n cap, .int .i64 16] (w.alloc (.cells #[.slice a n cap, .int .i64 loud, .int .i64 lag, .int .i64 t0, .int .i64 t1, .int .i64 t2, .int .i64 t3, .int .i64 t4, .slice fa fn fcap] 31)) fun e w' => e = .returned (.bool true) ∧ w' = w.alloc (.cells #[.slice a n cap, .int .i64 loud, .int .i64 lag, .int .i64 t0, .int .i64 t1, .int .i64 t2, .int .i64 t3, .int .i64 t4, .slice fa fn fcap] 31)) := by rw [← hb1]; exact allWithin_any a n cap l 16 _ (hz.alloc _) hn (by decide) (by decide)
  have y1 : Hid True := trivial
  clear hz hf hb1
  go_enter Try.func14, Try.ntmps14
  go_wp2_with (first | (go_at_call 26; clear y1; refine h1.out.mono ?_; rintro e w' ⟨rfl, rfl⟩))
  go_ret
  exact ⟨rfl, hB.out⟩

set_option maxRecDepth 100000 in
set_option maxHeartbeats 1000000 in
theorem good_no5w (a : Option Addr) (n cap : Nat) (l : List Int) (loud lag t0 t1 t2 t3 t4 : Int) (fa : Option Addr) (fn fcap : Nat) (f : List Int) (w : World) (hz : Zs w a n l) (hf : Zs w fa fn f) (hn : n ≤ 9223372036854775807) (hfn : fn ≤ 9223372036854775807) (c1 : (1 : Int) ≤ n) (c2 : (n : Int) ≤ 480) (hb1 : withinB 16 l = true) (c4 : 0 ≤ loud) (c5 : loud ≤ 262144) (hgz : (lag == 0) = false) (hg3 : 3 ≤ lag) (hg318 : 318 < lag) :
    Calls Try.prog 14 #[.agg #[.slice a n cap, .int .i64 loud, .int .i64 lag, .int .i64 t0, .int .i64 t1, .int .i64 t2, .int .i64 t3, .int .i64 t4, .slice fa fn fcap]] w fun e w' => e = .returned (.bool false) ∧ Below w.heap.size w w' := by
  have hB : Hid (Below w.heap.size w (w.alloc (.cells #[.slice a n cap, .int .i64 loud, .int .i64 lag, .int .i64 t0, .int .i64 t1, .int .i64 t2, .int .i64 t3, .int .i64 t4, .slice fa fn fcap] 31))) := (Below.refl _ _).alloc (Nat.le_refl _) _
  have h1 : Hid (Calls Try.prog 26 #[.slice a n cap, .int .i64 16] (w.alloc (.cells #[.slice a n cap, .int .i64 loud, .int .i64 lag, .int .i64 t0, .int .i64 t1, .int .i64 t2, .int .i64 t3, .int .i64 t4, .slice fa fn fcap] 31)) fun e w' => e = .returned (.bool true) ∧ w' = w.alloc (.cells #[.slice a n cap, .int .i64 loud, .int .i64 lag, .int .i64 t0, .int .i64 t1, .int .i64 t2, .int .i64 t3, .int .i64 t4, .slice fa fn fcap] 31)) := by rw [← hb1]; exact allWithin_any a n cap l 16 _ (hz.alloc _) hn (by decide) (by decide)
  have y1 : Hid True := trivial
  clear hz hf hb1
  go_enter Try.func14, Try.ntmps14
  go_wp2_with (first | (go_at_call 26; clear y1; refine h1.out.mono ?_; rintro e w' ⟨rfl, rfl⟩))
  go_ret
  exact ⟨rfl, hB.out⟩

set_option maxRecDepth 100000 in
set_option maxHeartbeats 1000000 in
theorem good_no6z (a : Option Addr) (n cap : Nat) (l : List Int) (loud lag t0 t1 t2 t3 t4 : Int) (fa : Option Addr) (fn fcap : Nat) (f : List Int) (w : World) (hz : Zs w a n l) (hf : Zs w fa fn f) (hn : n ≤ 9223372036854775807) (hfn : fn ≤ 9223372036854775807) (c1 : (1 : Int) ≤ n) (c2 : (n : Int) ≤ 480) (hb1 : withinB 16 l = true) (c4 : 0 ≤ loud) (c5 : loud ≤ 262144) (hgz : (lag == 0) = true) (hb2 : withinB 128 [t0, t1, t2, t3, t4] = false) :
    Calls Try.prog 14 #[.agg #[.slice a n cap, .int .i64 loud, .int .i64 lag, .int .i64 t0, .int .i64 t1, .int .i64 t2, .int .i64 t3, .int .i64 t4, .slice fa fn fcap]] w fun e w' => e = .returned (.bool false) ∧ Below w.heap.size w w' := by
  have hB : Hid (Below w.heap.size w (w.alloc (.cells #[.slice a n cap, .int .i64 loud, .int .i64 lag, .int .i64 t0, .int .i64 t1, .int .i64 t2, .int .i64 t3, .int .i64 t4, .slice fa fn fcap] 31))) := (Below.refl _ _).alloc (Nat.le_refl _) _
  have h1 : Hid (Calls Try.prog 26 #[.slice a n cap, .int .i64 16] (w.alloc (.cells #[.slice a n cap, .int .i64 loud, .int .i64 lag, .int .i64 t0, .int .i64 t1, .int .i64 t2, .int .i64 t3, .int .i64 t4, .slice fa fn fcap] 31)) fun e w' => e = .returned (.bool true) ∧ w' = w.alloc (.cells #[.slice a n cap, .int .i64 loud, .int .i64 lag, .int .i64 t0, .int .i64 t1, .int .i64 t2, .int .i64 t3, .int .i64 t4, .slice fa fn fcap] 31)) := by rw [← hb1]; exact allWithin_any a n cap l 16 _ (hz.alloc _) hn (by decide) (by decide)
  have y1 : Hid True := trivial
  have h2 : Hid (Calls Try.prog 26 #[.slice (some ⟨w.heap.size, 3, none⟩) 5 5, .int .i64 128] (w.alloc (.cells #[.slice a n cap, .int .i64 loud, .int .i64 lag, .int .i64 t0, .int .i64 t1, .int .i64 t2, .int .i64 t3, .int .i64 t4, .slice fa fn fcap] 31)) fun e w' => e = .returned (.bool false) ∧ w' = w.alloc (.cells #[.slice a n cap, .int .i64 loud, .int .i64 lag, .int .i64 t0, .int .i64 t1, .int .i64 t2, .int .i64 t3, .int .i64 t4, .slice fa fn fcap] 31)) := by rw [← hb2]; exact allWithin_any _ 5 5 _ 128 _ (taps_zs w _ _ _ _ t0 t1 t2 t3 t4 _) (by decide) (by decide) (by decide)
  have y2 : Hid True := trivial
  clear hz hf hb1 hb2
  go_enter Try.func14, Try.ntmps14
  go_wp2_with (first | (go_at_call 26; clear y1; refine h1.out.mono ?_; rintro e w' ⟨rfl, rfl⟩) | (go_at_call 26; clear y2; refine h2.out.mono ?_; rintro e w' ⟨rfl, rfl⟩))
  go_ret
  exact ⟨rfl, hB.out⟩

set_option maxRecDepth 100000 in
set_option maxHeartbeats 1000000 in
theorem good_no6y (a : Option Addr) (n cap : Nat) (l : List Int) (loud lag t0 t1 t2 t3 t4 : Int) (fa : Option Addr) (fn fcap : Nat) (f : List Int) (w : World) (hz : Zs w a n l) (hf : Zs w fa fn f) (hn : n ≤ 9223372036854775807) (hfn : fn ≤ 9223372036854775807) (c1 : (1 : Int) ≤ n) (c2 : (n : Int) ≤ 480) (hb1 : withinB 16 l = true) (c4 : 0 ≤ loud) (c5 : loud ≤ 262144) (hgz : (lag == 0) = false) (hg3 : 3 ≤ lag) (hg318 : lag ≤ 318) (hb2 : withinB 128 [t0, t1, t2, t3, t4] = false) :
    Calls Try.prog 14 #[.agg #[.slice a n cap, .int .i64 loud, .int .i64 lag, .int .i64 t0, .int .i64 t1, .int .i64 t2, .int .i64 t3, .int .i64 t4, .slice fa fn fcap]] w fun e w' => e = .returned (.bool false) ∧ Below w.heap.size w w' := by
  have hB : Hid (Below w.heap.size w (w.alloc (.cells #[.slice a n cap, .int .i64 loud, .int .i64 lag, .int .i64 t0, .int .i64 t1, .int .i64 t2, .int .i64 t3, .int .i64 t4, .slice fa fn fcap] 31))) := (Below.refl _ _).alloc (Nat.le_refl _) _
  have h1 : Hid (Calls Try.prog 26 #[.slice a n cap, .int .i64 16] (w.alloc (.cells #[.slice a n cap, .int .i64 loud, .int .i64 lag, .int .i64 t0, .int .i64 t1, .int .i64 t2, .int .i64 t3, .int .i64 t4, .slice fa fn fcap] 31)) fun e w' => e = .returned (.bool true) ∧ w' = w.alloc (.cells #[.slice a n cap, .int .i64 loud, .int .i64 lag, .int .i64 t0, .int .i64 t1, .int .i64 t2, .int .i64 t3, .int .i64 t4, .slice fa fn fcap] 31)) := by rw [← hb1]; exact allWithin_any a n cap l 16 _ (hz.alloc _) hn (by decide) (by decide)
  have y1 : Hid True := trivial
  have h2 : Hid (Calls Try.prog 26 #[.slice (some ⟨w.heap.size, 3, none⟩) 5 5, .int .i64 128] (w.alloc (.cells #[.slice a n cap, .int .i64 loud, .int .i64 lag, .int .i64 t0, .int .i64 t1, .int .i64 t2, .int .i64 t3, .int .i64 t4, .slice fa fn fcap] 31)) fun e w' => e = .returned (.bool false) ∧ w' = w.alloc (.cells #[.slice a n cap, .int .i64 loud, .int .i64 lag, .int .i64 t0, .int .i64 t1, .int .i64 t2, .int .i64 t3, .int .i64 t4, .slice fa fn fcap] 31)) := by rw [← hb2]; exact allWithin_any _ 5 5 _ 128 _ (taps_zs w _ _ _ _ t0 t1 t2 t3 t4 _) (by decide) (by decide) (by decide)
  have y2 : Hid True := trivial
  clear hz hf hb1 hb2
  go_enter Try.func14, Try.ntmps14
  go_wp2_with (first | (go_at_call 26; clear y1; refine h1.out.mono ?_; rintro e w' ⟨rfl, rfl⟩) | (go_at_call 26; clear y2; refine h2.out.mono ?_; rintro e w' ⟨rfl, rfl⟩))
  go_ret
  exact ⟨rfl, hB.out⟩

set_option maxRecDepth 100000 in
set_option maxHeartbeats 1000000 in
theorem good_no7z (a : Option Addr) (n cap : Nat) (l : List Int) (loud lag t0 t1 t2 t3 t4 : Int) (fa : Option Addr) (fn fcap : Nat) (f : List Int) (w : World) (hz : Zs w a n l) (hf : Zs w fa fn f) (hn : n ≤ 9223372036854775807) (hfn : fn ≤ 9223372036854775807) (c1 : (1 : Int) ≤ n) (c2 : (n : Int) ≤ 480) (hb1 : withinB 16 l = true) (c4 : 0 ≤ loud) (c5 : loud ≤ 262144) (hgz : (lag == 0) = true) (hb2 : withinB 128 [t0, t1, t2, t3, t4] = true) (c8 : (32 : Int) < fn) :
    Calls Try.prog 14 #[.agg #[.slice a n cap, .int .i64 loud, .int .i64 lag, .int .i64 t0, .int .i64 t1, .int .i64 t2, .int .i64 t3, .int .i64 t4, .slice fa fn fcap]] w fun e w' => e = .returned (.bool false) ∧ Below w.heap.size w w' := by
  have hB : Hid (Below w.heap.size w (w.alloc (.cells #[.slice a n cap, .int .i64 loud, .int .i64 lag, .int .i64 t0, .int .i64 t1, .int .i64 t2, .int .i64 t3, .int .i64 t4, .slice fa fn fcap] 31))) := (Below.refl _ _).alloc (Nat.le_refl _) _
  have h1 : Hid (Calls Try.prog 26 #[.slice a n cap, .int .i64 16] (w.alloc (.cells #[.slice a n cap, .int .i64 loud, .int .i64 lag, .int .i64 t0, .int .i64 t1, .int .i64 t2, .int .i64 t3, .int .i64 t4, .slice fa fn fcap] 31)) fun e w' => e = .returned (.bool true) ∧ w' = w.alloc (.cells #[.slice a n cap, .int .i64 loud, .int .i64 lag, .int .i64 t0, .int .i64 t1, .int .i64 t2, .int .i64 t3, .int .i64 t4, .slice fa fn fcap] 31)) := by rw [← hb1]; exact allWithin_any a n cap l 16 _ (hz.alloc _) hn (by decide) (by decide)
  have y1 : Hid True := trivial
  have h2 : Hid (Calls Try.prog 26 #[.slice (some ⟨w.heap.size, 3, none⟩) 5 5, .int .i64 128] (w.alloc (.cells #[.slice a n cap, .int .i64 loud, .int .i64 lag, .int .i64 t0, .int .i64 t1, .int .i64 t2, .int .i64 t3, .int .i64 t4, .slice fa fn fcap] 31)) fun e w' => e = .returned (.bool true) ∧ w' = w.alloc (.cells #[.slice a n cap, .int .i64 loud, .int .i64 lag, .int .i64 t0, .int .i64 t1, .int .i64 t2, .int .i64 t3, .int .i64 t4, .slice fa fn fcap] 31)) := by rw [← hb2]; exact allWithin_any _ 5 5 _ 128 _ (taps_zs w _ _ _ _ t0 t1 t2 t3 t4 _) (by decide) (by decide) (by decide)
  have y2 : Hid True := trivial
  clear hz hf hb1 hb2
  go_enter Try.func14, Try.ntmps14
  go_wp2_with (first | (go_at_call 26; clear y1; refine h1.out.mono ?_; rintro e w' ⟨rfl, rfl⟩) | (go_at_call 26; clear y2; refine h2.out.mono ?_; rintro e w' ⟨rfl, rfl⟩))
  go_ret
  exact ⟨rfl, hB.out⟩

set_option maxRecDepth 100000 in
set_option maxHeartbeats 1000000 in
theorem good_no7y (a : Option Addr) (n cap : Nat) (l : List Int) (loud lag t0 t1 t2 t3 t4 : Int) (fa : Option Addr) (fn fcap : Nat) (f : List Int) (w : World) (hz : Zs w a n l) (hf : Zs w fa fn f) (hn : n ≤ 9223372036854775807) (hfn : fn ≤ 9223372036854775807) (c1 : (1 : Int) ≤ n) (c2 : (n : Int) ≤ 480) (hb1 : withinB 16 l = true) (c4 : 0 ≤ loud) (c5 : loud ≤ 262144) (hgz : (lag == 0) = false) (hg3 : 3 ≤ lag) (hg318 : lag ≤ 318) (hb2 : withinB 128 [t0, t1, t2, t3, t4] = true) (c8 : (32 : Int) < fn) :
    Calls Try.prog 14 #[.agg #[.slice a n cap, .int .i64 loud, .int .i64 lag, .int .i64 t0, .int .i64 t1, .int .i64 t2, .int .i64 t3, .int .i64 t4, .slice fa fn fcap]] w fun e w' => e = .returned (.bool false) ∧ Below w.heap.size w w' := by
  have hB : Hid (Below w.heap.size w (w.alloc (.cells #[.slice a n cap, .int .i64 loud, .int .i64 lag, .int .i64 t0, .int .i64 t1, .int .i64 t2, .int .i64 t3, .int .i64 t4, .slice fa fn fcap] 31))) := (Below.refl _ _).alloc (Nat.le_refl _) _
  have h1 : Hid (Calls Try.prog 26 #[.slice a n cap, .int .i64 16] (w.alloc (.cells #[.slice a n cap, .int .i64 loud, .int .i64 lag, .int .i64 t0, .int .i64 t1, .int .i64 t2, .int .i64 t3, .int .i64 t4, .slice fa fn fcap] 31)) fun e w' => e = .returned (.bool true) ∧ w' = w.alloc (.cells #[.slice a n cap, .int .i64 loud, .int .i64 lag, .int .i64 t0, .int .i64 t1, .int .i64 t2, .int .i64 t3, .int .i64 t4, .slice fa fn fcap] 31)) := by rw [← hb1]; exact allWithin_any a n cap l 16 _ (hz.alloc _) hn (by decide) (by decide)
  have y1 : Hid True := trivial
  have h2 : Hid (Calls Try.prog 26 #[.slice (some ⟨w.heap.size, 3, none⟩) 5 5, .int .i64 128] (w.alloc (.cells #[.slice a n cap, .int .i64 loud, .int .i64 lag, .int .i64 t0, .int .i64 t1, .int .i64 t2, .int .i64 t3, .int .i64 t4, .slice fa fn fcap] 31)) fun e w' => e = .returned (.bool true) ∧ w' = w.alloc (.cells #[.slice a n cap, .int .i64 loud, .int .i64 lag, .int .i64 t0, .int .i64 t1, .int .i64 t2, .int .i64 t3, .int .i64 t4, .slice fa fn fcap] 31)) := by rw [← hb2]; exact allWithin_any _ 5 5 _ 128 _ (taps_zs w _ _ _ _ t0 t1 t2 t3 t4 _) (by decide) (by decide) (by decide)
  have y2 : Hid True := trivial
  clear hz hf hb1 hb2
  go_enter Try.func14, Try.ntmps14
  go_wp2_with (first | (go_at_call 26; clear y1; refine h1.out.mono ?_; rintro e w' ⟨rfl, rfl⟩) | (go_at_call 26; clear y2; refine h2.out.mono ?_; rintro e w' ⟨rfl, rfl⟩))
  go_ret
  exact ⟨rfl, hB.out⟩

set_option maxRecDepth 100000 in
set_option maxHeartbeats 1000000 in
theorem good_no8z (a : Option Addr) (n cap : Nat) (l : List Int) (loud lag t0 t1 t2 t3 t4 : Int) (fa : Option Addr) (fn fcap : Nat) (f : List Int) (w : World) (hz : Zs w a n l) (hf : Zs w fa fn f) (hn : n ≤ 9223372036854775807) (hfn : fn ≤ 9223372036854775807) (c1 : (1 : Int) ≤ n) (c2 : (n : Int) ≤ 480) (hb1 : withinB 16 l = true) (c4 : 0 ≤ loud) (c5 : loud ≤ 262144) (hgz : (lag == 0) = true) (hb2 : withinB 128 [t0, t1, t2, t3, t4] = true) (c8 : (fn : Int) ≤ 32) (hb3 : withinB 131072 f = false) :
    Calls Try.prog 14 #[.agg #[.slice a n cap, .int .i64 loud, .int .i64 lag, .int .i64 t0, .int .i64 t1, .int .i64 t2, .int .i64 t3, .int .i64 t4, .slice fa fn fcap]] w fun e w' => e = .returned (.bool false) ∧ Below w.heap.size w w' := by
  have hB : Hid (Below w.heap.size w (w.alloc (.cells #[.slice a n cap, .int .i64 loud, .int .i64 lag, .int .i64 t0, .int .i64 t1, .int .i64 t2, .int .i64 t3, .int .i64 t4, .slice fa fn fcap] 31))) := (Below.refl _ _).alloc (Nat.le_refl _) _
  have h1 : Hid (Calls Try.prog 26 #[.slice a n cap, .int .i64 16] (w.alloc (.cells #[.slice a n cap, .int .i64 loud, .int .i64 lag, .int .i64 t0, .int .i64 t1, .int .i64 t2, .int .i64 t3, .int .i64 t4, .slice fa fn fcap] 31)) fun e w' => e = .returned (.bool true) ∧ w' = w.alloc (.cells #[.slice a n cap, .int .i64 loud, .int .i64 lag, .int .i64 t0, .int .i64 t1, .int .i64 t2, .int .i64 t3, .int .i64 t4, .slice fa fn fcap] 31)) := by rw [← hb1]; exact allWithin_any a n cap l 16 _ (hz.alloc _) hn (by decide) (by decide)
  have y1 : Hid True := trivial
  have h2 : Hid (Calls Try.prog 26 #[.slice (some ⟨w.heap.size, 3, none⟩) 5 5, .int .i64 128] (w.alloc (.cells #[.slice a n cap, .int .i64 loud, .int .i64 lag, .int .i64 t0, .int .i64 t1, .int .i64 t2, .int .i64 t3, .int .i64 t4, .slice fa fn fcap] 31)) fun e w' => e = .returned (.bool true) ∧ w' = w.alloc (.cells #[.slice a n cap, .int .i64 loud, .int .i64 lag, .int .i64 t0, .int .i64 t1, .int .i64 t2, .int .i64 t3, .int .i64 t4, .slice fa fn fcap] 31)) := by rw [← hb2]; exact allWithin_any _ 5 5 _ 128 _ (taps_zs w _ _ _ _ t0 t1 t2 t3 t4 _) (by decide) (by decide) (by decide)
  have y2 : Hid True := trivial
  have h3 : Hid (Calls Try.prog 26 #[.slice fa fn fcap, .int .i64 131072] (w.alloc (.cells #[.slice a n cap, .int .i64 loud, .int .i64 lag, .int .i64 t0, .int .i64 t1, .int .i64 t2, .int .i64 t3, .int .i64 t4, .slice fa fn fcap] 31)) fun e w' => e = .returned (.bool false) ∧ w' = w.alloc (.cells #[.slice a n cap, .int .i64 loud, .int .i64 lag, .int .i64 t0, .int .i64 t1, .int .i64 t2, .int .i64 t3, .int .i64 t4, .slice fa fn fcap] 31)) := by rw [← hb3]; exact allWithin_any fa fn fcap f 131072 _ (hf.alloc _) hfn (by decide) (by decide)
  clear hz hf hb1 hb2 hb3
  go_enter Try.func14, Try.ntmps14
  go_wp2_with (first | (go_at_call 26; clear y1; refine h1.out.mono ?_; rintro e w' ⟨rfl, rfl⟩) | (go_at_call 26; clear y2; refine h2.out.mono ?_; rintro e w' ⟨rfl, rfl⟩) | (go_at_call 26; refine h3.out.mono ?_; rintro e w' ⟨rfl, rfl⟩))
  go_ret
  exact ⟨rfl, hB.out⟩

set_option maxRecDepth 100000 in
set_option maxHeartbeats 1000000 in
theorem good_no8y (a : Option Addr) (n cap : Nat) (l : List Int) (loud lag t0 t1 t2 t3 t4 : Int) (fa : Option Addr) (fn fcap : Nat) (f : List Int) (w : World) (hz : Zs w a n l) (hf : Zs w fa fn f) (hn : n ≤ 9223372036854775807) (hfn : fn ≤ 9223372036854775807) (c1 : (1 : Int) ≤ n) (c2 : (n : Int) ≤ 480) (hb1 : withinB 16 l = true) (c4 : 0 ≤ loud) (c5 : loud ≤ 262144) (hgz : (lag == 0) = false) (hg3 : 3 ≤ lag) (hg318 : lag ≤ 318) (hb2 : withinB 128 [t0, t1, t2, t3, t4] = true) (c8 : (fn : Int) ≤ 32) (hb3 : withinB 131072 f = false) :
    Calls Try.prog 14 #[.agg #[.slice a n cap, .int .i64 loud, .int .i64 lag, .int .i64 t0, .int .i64 t1, .int .i64 t2, .int .i64 t3, .int .i64 t4, .slice fa fn fcap]] w fun e w' => e = .returned (.bool false) ∧ Below w.heap.size w w' := by
  have hB : Hid (Below w.heap.size w (w.alloc (.cells #[.slice a n cap, .int .i64 loud, .int .i64 lag, .int .i64 t0, .int .i64 t1, .int .i64 t2, .int .i64 t3, .int .i64 t4, .slice fa fn fcap] 31))) := (Below.refl _ _).alloc (Nat.le_refl _) _
  have h1 : Hid (Calls Try.prog 26 #[.slice a n cap, .int .i64 16] (w.alloc (.cells #[.slice a n cap, .int .i64 loud, .int .i64 lag, .int .i64 t0, .int .i64 t1, .int .i64 t2, .int .i64 t3, .int .i64 t4, .slice fa fn fcap] 31)) fun e w' => e = .returned (.bool true) ∧ w' = w.alloc (.cells #[.slice a n cap, .int .i64 loud, .int .i64 lag, .int .i64 t0, .int .i64 t1, .int .i64 t2, .int .i64 t3, .int .i64 t4, .slice fa fn fcap] 31)) := by rw [← hb1]; exact allWithin_any a n cap l 16 _ (hz.alloc _) hn (by decide) (by decide)
  have y1 : Hid True := trivial
  have h2 : Hid (Calls Try.prog 26 #[.slice (some ⟨w.heap.size, 3, none⟩) 5 5, .int .i64 128] (w.alloc (.cells #[.slice a n cap, .int .i64 loud, .int .i64 lag, .int .i64 t0, .int .i64 t1, .int .i64 t2, .int .i64 t3, .int .i64 t4, .slice fa fn fcap] 31)) fun e w' => e = .returned (.bool true) ∧ w' = w.alloc (.cells #[.slice a n cap, .int .i64 loud, .int .i64 lag, .int .i64 t0, .int .i64 t1, .int .i64 t2, .int .i64 t3, .int .i64 t4, .slice fa fn fcap] 31)) := by rw [← hb2]; exact allWithin_any _ 5 5 _ 128 _ (taps_zs w _ _ _ _ t0 t1 t2 t3 t4 _) (by decide) (by decide) (by decide)
  have y2 : Hid True := trivial
  have h3 : Hid (Calls Try.prog 26 #[.slice fa fn fcap, .int .i64 131072] (w.alloc (.cells #[.slice a n cap, .int .i64 loud, .int .i64 lag, .int .i64 t0, .int .i64 t1, .int .i64 t2, .int .i64 t3, .int .i64 t4, .slice fa fn fcap] 31)) fun e w' => e = .returned (.bool false) ∧ w' = w.alloc (.cells #[.slice a n cap, .int .i64 loud, .int .i64 lag, .int .i64 t0, .int .i64 t1, .int .i64 t2, .int .i64 t3, .int .i64 t4, .slice fa fn fcap] 31)) := by rw [← hb3]; exact allWithin_any fa fn fcap f 131072 _ (hf.alloc _) hfn (by decide) (by decide)
  clear hz hf hb1 hb2 hb3
  go_enter Try.func14, Try.ntmps14
  go_wp2_with (first | (go_at_call 26; clear y1; refine h1.out.mono ?_; rintro e w' ⟨rfl, rfl⟩) | (go_at_call 26; clear y2; refine h2.out.mono ?_; rintro e w' ⟨rfl, rfl⟩) | (go_at_call 26; refine h3.out.mono ?_; rintro e w' ⟨rfl, rfl⟩))
  go_ret
  exact ⟨rfl, hB.out⟩

set_option maxRecDepth 100000 in
set_option maxHeartbeats 1000000 in
theorem good_yesz (a : Option Addr) (n cap : Nat) (l : List Int) (loud lag t0 t1 t2 t3 t4 : Int) (fa : Option Addr) (fn fcap : Nat) (f : List Int) (w : World) (hz : Zs w a n l) (hf : Zs w fa fn f) (hn : n ≤ 9223372036854775807) (hfn : fn ≤ 9223372036854775807) (c1 : (1 : Int) ≤ n) (c2 : (n : Int) ≤ 480) (hb1 : withinB 16 l = true) (c4 : 0 ≤ loud) (c5 : loud ≤ 262144) (hgz : (lag == 0) = true) (hb2 : withinB 128 [t0, t1, t2, t3, t4] = true) (c8 : (fn : Int) ≤ 32) (hb3 : withinB 131072 f = true) :
    Calls Try.prog 14 #[.agg #[.slice a n cap, .int .i64 loud, .int .i64 lag, .int .i64 t0, .int .i64 t1, .int .i64 t2, .int .i64 t3, .int .i64 t4, .slice fa fn fcap]] w fun e w' => e = .returned (.bool true) ∧ Below w.heap.size w w' := by
  have hB : Hid (Below w.heap.size w (w.alloc (.cells #[.slice a n cap, .int .i64 loud, .int .i64 lag, .int .i64 t0, .int .i64 t1, .int .i64 t2, .int .i64 t3, .int .i64 t4, .slice fa fn fcap] 31))) := (Below.refl _ _).alloc (Nat.le_refl _) _
  have h1 : Hid (Calls Try.prog 26 #[.slice a n cap, .int .i64 16] (w.alloc (.cells #[.slice a n cap, .int .i64 loud, .int .i64 lag, .int .i64 t0, .int .i64 t1, .int .i64 t2, .int .i64 t3, .int .i64 t4, .slice fa fn fcap] 31)) fun e w' => e = .returned (.bool true) ∧ w' = w.alloc (.cells #[.slice a n cap, .int .i64 loud, .int .i64 lag, .int .i64 t0, .int .i64 t1, .int .i64 t2, .int .i64 t3, .int .i64 t4, .slice fa fn fcap] 31)) := by rw [← hb1]; exact allWithin_any a n cap l 16 _ (hz.alloc _) hn (by decide) (by decide)
  have y1 : Hid True := trivial
  have h2 : Hid (Calls Try.prog 26 #[.slice (some ⟨w.heap.size, 3, none⟩) 5 5, .int .i64 128] (w.alloc (.cells #[.slice a n cap, .int .i64 loud, .int .i64 lag, .int .i64 t0, .int .i64 t1, .int .i64 t2, .int .i64 t3, .int .i64 t4, .slice fa fn fcap] 31)) fun e w' => e = .returned (.bool true) ∧ w' = w.alloc (.cells #[.slice a n cap, .int .i64 loud, .int .i64 lag, .int .i64 t0, .int .i64 t1, .int .i64 t2, .int .i64 t3, .int .i64 t4, .slice fa fn fcap] 31)) := by rw [← hb2]; exact allWithin_any _ 5 5 _ 128 _ (taps_zs w _ _ _ _ t0 t1 t2 t3 t4 _) (by decide) (by decide) (by decide)
  have y2 : Hid True := trivial
  have h3 : Hid (Calls Try.prog 26 #[.slice fa fn fcap, .int .i64 131072] (w.alloc (.cells #[.slice a n cap, .int .i64 loud, .int .i64 lag, .int .i64 t0, .int .i64 t1, .int .i64 t2, .int .i64 t3, .int .i64 t4, .slice fa fn fcap] 31)) fun e w' => e = .returned (.bool true) ∧ w' = w.alloc (.cells #[.slice a n cap, .int .i64 loud, .int .i64 lag, .int .i64 t0, .int .i64 t1, .int .i64 t2, .int .i64 t3, .int .i64 t4, .slice fa fn fcap] 31)) := by rw [← hb3]; exact allWithin_any fa fn fcap f 131072 _ (hf.alloc _) hfn (by decide) (by decide)
  clear hz hf hb1 hb2 hb3
  go_enter Try.func14, Try.ntmps14
  go_wp2_with (first | (go_at_call 26; clear y1; refine h1.out.mono ?_; rintro e w' ⟨rfl, rfl⟩) | (go_at_call 26; clear y2; refine h2.out.mono ?_; rintro e w' ⟨rfl, rfl⟩) | (go_at_call 26; refine h3.out.mono ?_; rintro e w' ⟨rfl, rfl⟩))
  go_ret
  exact ⟨rfl, hB.out⟩

set_option maxRecDepth 100000 in
set_option maxHeartbeats 1000000 in
theorem good_yesy (a : Option Addr) (n cap : Nat) (l : List Int) (loud lag t0 t1 t2 t3 t4 : Int) (fa : Option Addr) (fn fcap : Nat) (f : List Int) (w : World) (hz : Zs w a n l) (hf : Zs w fa fn f) (hn : n ≤ 9223372036854775807) (hfn : fn ≤ 9223372036854775807) (c1 : (1 : Int) ≤ n) (c2 : (n : Int) ≤ 480) (hb1 : withinB 16 l = true) (c4 : 0 ≤ loud) (c5 : loud ≤ 262144) (hgz : (lag == 0) = false) (hg3 : 3 ≤ lag) (hg318 : lag ≤ 318) (hb2 : withinB 128 [t0, t1, t2, t3, t4] = true) (c8 : (fn : Int) ≤ 32) (hb3 : withinB 131072 f = true) :
    Calls Try.prog 14 #[.agg #[.slice a n cap, .int .i64 loud, .int .i64 lag, .int .i64 t0, .int .i64 t1, .int .i64 t2, .int .i64 t3, .int .i64 t4, .slice fa fn fcap]] w fun e w' => e = .returned (.bool true) ∧ Below w.heap.size w w' := by
  have hB : Hid (Below w.heap.size w (w.alloc (.cells #[.slice a n cap, .int .i64 loud, .int .i64 lag, .int .i64 t0, .int .i64 t1, .int .i64 t2, .int .i64 t3, .int .i64 t4, .slice fa fn fcap] 31))) := (Below.refl _ _).alloc (Nat.le_refl _) _
  have h1 : Hid (Calls Try.prog 26 #[.slice a n cap, .int .i64 16] (w.alloc (.cells #[.slice a n cap, .int .i64 loud, .int .i64 lag, .int .i64 t0, .int .i64 t1, .int .i64 t2, .int .i64 t3, .int .i64 t4, .slice fa fn fcap] 31)) fun e w' => e = .returned (.bool true) ∧ w' = w.alloc (.cells #[.slice a n cap, .int .i64 loud, .int .i64 lag, .int .i64 t0, .int .i64 t1, .int .i64 t2, .int .i64 t3, .int .i64 t4, .slice fa fn fcap] 31)) := by rw [← hb1]; exact allWithin_any a n cap l 16 _ (hz.alloc _) hn (by decide) (by decide)
  have y1 : Hid True := trivial
  have h2 : Hid (Calls Try.prog 26 #[.slice (some ⟨w.heap.size, 3, none⟩) 5 5, .int .i64 128] (w.alloc (.cells #[.slice a n cap, .int .i64 loud, .int .i64 lag, .int .i64 t0, .int .i64 t1, .int .i64 t2, .int .i64 t3, .int .i64 t4, .slice fa fn fcap] 31)) fun e w' => e = .returned (.bool true) ∧ w' = w.alloc (.cells #[.slice a n cap, .int .i64 loud, .int .i64 lag, .int .i64 t0, .int .i64 t1, .int .i64 t2, .int .i64 t3, .int .i64 t4, .slice fa fn fcap] 31)) := by rw [← hb2]; exact allWithin_any _ 5 5 _ 128 _ (taps_zs w _ _ _ _ t0 t1 t2 t3 t4 _) (by decide) (by decide) (by decide)
  have y2 : Hid True := trivial
  have h3 : Hid (Calls Try.prog 26 #[.slice fa fn fcap, .int .i64 131072] (w.alloc (.cells #[.slice a n cap, .int .i64 loud, .int .i64 lag, .int .i64 t0, .int .i64 t1, .int .i64 t2, .int .i64 t3, .int .i64 t4, .slice fa fn fcap] 31)) fun e w' => e = .returned (.bool true) ∧ w' = w.alloc (.cells #[.slice a n cap, .int .i64 loud, .int .i64 lag, .int .i64 t0, .int .i64 t1, .int .i64 t2, .int .i64 t3, .int .i64 t4, .slice fa fn fcap] 31)) := by rw [← hb3]; exact allWithin_any fa fn fcap f 131072 _ (hf.alloc _) hfn (by decide) (by decide)
  clear hz hf hb1 hb2 hb3
  go_enter Try.func14, Try.ntmps14
  go_wp2_with (first | (go_at_call 26; clear y1; refine h1.out.mono ?_; rintro e w' ⟨rfl, rfl⟩) | (go_at_call 26; clear y2; refine h2.out.mono ?_; rintro e w' ⟨rfl, rfl⟩) | (go_at_call 26; refine h3.out.mono ?_; rintro e w' ⟨rfl, rfl⟩))
  go_ret
  exact ⟨rfl, hB.out⟩

theorem beq0 {v : Int} : (v == 0) = true ↔ v = 0 := by simp
theorem good_any (a : Option Addr) (n cap : Nat) (l : List Int) (loud lag t0 t1 t2 t3 t4 : Int) (fa : Option Addr) (fn fcap : Nat) (f : List Int) (w : World) (hz : Zs w a n l) (hf : Zs w fa fn f) (hn : n ≤ 9223372036854775807) (hfn : fn ≤ 9223372036854775807) :
    Calls Try.prog 14 #[.agg #[.slice a n cap, .int .i64 loud, .int .i64 lag, .int .i64 t0, .int .i64 t1, .int .i64 t2, .int .i64 t3, .int .i64 t4, .slice fa fn fcap]] w fun e w' => e = .returned (.bool (goodB l loud lag [t0, t1, t2, t3, t4] f)) ∧ Below w.heap.size w w' := by
  obtain ⟨G, hG⟩ : ∃ G, goodB l loud lag [t0, t1, t2, t3, t4] f = G := ⟨_, rfl⟩
  have hl := hz.len
  have hfl := hf.len
  have e := hG
  unfold goodB lagB at e
  rw [hl, hfl] at e
  rw [hG]
  clear hG
  by_cases c1 : 1 ≤ n
  · rw [decide_eq_true c1, Bool.true_and] at e
    by_cases c2 : n ≤ 480
    · rw [decide_eq_true c2, Bool.true_and] at e
      cases hb1 : withinB 16 l with
      | true =>
        rw [hb1, Bool.true_and] at e
        by_cases c4 : 0 ≤ loud
        · rw [decide_eq_true c4, Bool.true_and] at e
          by_cases c5 : loud ≤ 262144
          · rw [decide_eq_true c5, Bool.true_and] at e
            by_cases c6 : lag = 0 ∨ 3 ≤ lag ∧ lag ≤ 318
            · rw [decide_eq_true c6, Bool.true_and] at e
              cases hb2 : withinB 128 [t0, t1, t2, t3, t4] with
              | true =>
                rw [hb2, Bool.true_and] at e
                by_cases c8 : fn ≤ 32
                · rw [decide_eq_true c8, Bool.true_and] at e
                  cases hb3 : withinB 131072 f with
                  | true =>
                    rw [hb3] at e
                    subst e
                    rcases Decidable.em (lag = 0) with hg | hg
                    · exact good_yesz a n cap l loud lag t0 t1 t2 t3 t4 fa fn fcap f w hz hf hn hfn (by omega) (by omega) hb1 c4 c5 (beq0.2 hg) hb2 (by omega) hb3
                    · exact good_yesy a n cap l loud lag t0 t1 t2 t3 t4 fa fn fcap f w hz hf hn hfn (by omega) (by omega) hb1 c4 c5 (beq_eq_false_iff_ne.2 hg) (by omega) (by omega) hb2 (by omega) hb3
                  | false =>
                    rw [hb3] at e
                    subst e
                    rcases Decidable.em (lag = 0) with hg | hg
                    · exact good_no8z a n cap l loud lag t0 t1 t2 t3 t4 fa fn fcap f w hz hf hn hfn (by omega) (by omega) hb1 c4 c5 (beq0.2 hg) hb2 (by omega) hb3
                    · exact good_no8y a n cap l loud lag t0 t1 t2 t3 t4 fa fn fcap f w hz hf hn hfn (by omega) (by omega) hb1 c4 c5 (beq_eq_false_iff_ne.2 hg) (by omega) (by omega) hb2 (by omega) hb3
                · rw [decide_eq_false c8, Bool.false_and] at e
                  subst e
                  rcases Decidable.em (lag = 0) with hg | hg
                  · exact good_no7z a n cap l loud lag t0 t1 t2 t3 t4 fa fn fcap f w hz hf hn hfn (by omega) (by omega) hb1 c4 c5 (beq0.2 hg) hb2 (by omega)
                  · exact good_no7y a n cap l loud lag t0 t1 t2 t3 t4 fa fn fcap f w hz hf hn hfn (by omega) (by omega) hb1 c4 c5 (beq_eq_false_iff_ne.2 hg) (by omega) (by omega) hb2 (by omega)
              | false =>
                rw [hb2, Bool.false_and] at e
                subst e
                rcases Decidable.em (lag = 0) with hg | hg
                · exact good_no6z a n cap l loud lag t0 t1 t2 t3 t4 fa fn fcap f w hz hf hn hfn (by omega) (by omega) hb1 c4 c5 (beq0.2 hg) hb2
                · exact good_no6y a n cap l loud lag t0 t1 t2 t3 t4 fa fn fcap f w hz hf hn hfn (by omega) (by omega) hb1 c4 c5 (beq_eq_false_iff_ne.2 hg) (by omega) (by omega) hb2
            · rw [decide_eq_false c6, Bool.false_and] at e
              subst e
              have hg : ¬ lag = 0 := fun h => c6 (.inl h)
              by_cases h3 : lag < 3
              · exact good_no5x a n cap l loud lag t0 t1 t2 t3 t4 fa fn fcap f w hz hf hn hfn (by omega) (by omega) hb1 c4 c5 (beq_eq_false_iff_ne.2 hg) h3
              · exact good_no5w a n cap l loud lag t0 t1 t2 t3 t4 fa fn fcap f w hz hf hn hfn (by omega) (by omega) hb1 c4 c5 (beq_eq_false_iff_ne.2 hg) (by omega) (by omega)
          · rw [decide_eq_false c5, Bool.false_and] at e
            subst e
            exact good_no4 a n cap l loud lag t0 t1 t2 t3 t4 fa fn fcap f w hz hf hn hfn (by omega) (by omega) hb1 c4 (by omega)
        · rw [decide_eq_false c4, Bool.false_and] at e
          subst e
          exact good_no3 a n cap l loud lag t0 t1 t2 t3 t4 fa fn fcap f w hz hf hn hfn (by omega) (by omega) hb1 (by omega)
      | false =>
        rw [hb1, Bool.false_and] at e
        subst e
        exact good_no2 a n cap l loud lag t0 t1 t2 t3 t4 fa fn fcap f w hz hf hn hfn (by omega) (by omega) hb1
    · rw [decide_eq_false c2, Bool.false_and] at e
      subst e
      exact good_no1 a n cap l loud lag t0 t1 t2 t3 t4 fa fn fcap f w hz hf hn hfn (by omega) (by omega)
  · rw [decide_eq_false c1, Bool.false_and] at e
    subst e
    exact good_no0 a n cap l loud lag t0 t1 t2 t3 t4 fa fn fcap f w hz hf hn hfn (by omega)

end Go.Proofs.Ytbnkapeahbegaaa
