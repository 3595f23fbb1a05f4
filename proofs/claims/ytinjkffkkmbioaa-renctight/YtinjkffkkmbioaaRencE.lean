/- The laws' own call that asks whether a writing is read by the document's own reader. -/
import Derived.Test.YtinjkffkkmbioaaRencD
namespace Go.Proofs.Ytinjkffkkmbioaa
open Go.RowKit

/-- It is read, and the reader has gone on. -/
def ReadSo (p g : Nat) (bs : List Nat) (s2 : St) (w : World) (e : Ending) (w' : World) : Prop :=
  e = .returned (.bool true) ∧ Rr p g bs s2 w' ∧ Went (fun k => k = p) w (fun k => k = p) w'

theorem Rr.alloc {p g : Nat} {bs : List Nat} {s : St} {w : World} (h : Rr p g bs s w) (hg : bs ≠ [] → g < w.heap.size) (o : Obj) : Rr p g bs s (w.alloc o) :=
  h.of_blocks (Below.heap_alloc w o p h.lt) (fun h0 => Below.heap_alloc w o g (hg h0))

theorem went_read {p : Nat} {w w' : World} (o : Obj) (hb : But p (w.alloc o) w') : Went (fun k => k = p) w (fun k => k = p) w' :=
  ((Went.refl _ w).alloc o).trans (.of_but hb rfl)

theorem Asked.at0 {w : World} {op v n m : Int} {a : Option Addr} {len cap : Nat} {t : List Int} (h : Asked w op v n m a len cap t) (o : Obj) : RowAt (w.alloc o) a len t := h.row.keep ((Below.refl _ _).alloc (Nat.le_refl _) o) (Nat.le_refl _)

set_option maxRecDepth 100000 in
set_option maxHeartbeats 1600000 in
theorem reads_sym (v n m z : Int) (a : Option Addr) (len cap : Nat) (t : List Int) (p g : Nat) (bs : List Nat) (s : St) (w : World) (h : Rr p g bs s w) (hi : Inv s) (hc : s.cnt ≤ 100000000000000) (hg : bs ≠ [] → g < w.heap.size)
    (hx : Asked w 0 v n m a len cap t) (hap : ∀ b off, a = some ⟨b, off, none⟩ → 0 < len → b ≠ p) (hz : (((symS bs t s).1 : Nat) : Int) = z) :
    Calls Try.prog 23 #[.pointer (some ⟨p, 0, none⟩), .agg #[.int .i64 0, .int .i64 v, .int .i64 n, .int .i64 m, .slice a len cap], .int .i64 z] w fun e w' => ReadSo p g bs (symS bs t s).2 w e w' := by
  have HC : Hid (∀ o, Calls Try.prog 42 #[.pointer (some ⟨p, 0, none⟩), .slice a len cap] (w.alloc o) fun e w' => e = .returned (.int .i64 z) ∧ Rr p g bs (symS bs t s).2 w' ∧ But p (w.alloc o) w') := fun o => by
    rw [← hz]
    exact rsymbol_any p g bs s a len cap t _ (h.alloc hg o) hi (by omega) (hx.at0 o) (by have := hx.size; omega) hap
  clear h hi hc hx hap hz hg
  go_enter Try.func23, Try.ntmps23
  go_wp2_with (go_at_call 42; go_loud (refine (HC.out _).mono ?_; rintro e w1 ⟨rfl, hr, hb1⟩))
  go_ret
  exact ⟨rfl, hr, went_read _ hb1⟩

set_option maxRecDepth 100000 in
set_option maxHeartbeats 1600000 in
theorem reads_flag (v n m z : Int) (a : Option Addr) (len cap : Nat) (p g : Nat) (bs : List Nat) (s : St) (w : World) (h : Rr p g bs s w) (hi : Inv s) (hc : s.cnt ≤ 100000000000000) (hg : bs ≠ [] → g < w.heap.size)
    (hz : (if (flagS bs n s).1 then (1 : Int) else 0) = z) :
    Calls Try.prog 23 #[.pointer (some ⟨p, 0, none⟩), .agg #[.int .i64 1, .int .i64 v, .int .i64 n, .int .i64 m, .slice a len cap], .int .i64 z] w fun e w' => ReadSo p g bs (flagS bs n s).2 w e w' := by
  cases hF : (flagS bs n s).1
  · rw [hF] at hz
    obtain rfl : z = 0 := by rw [← hz]; rfl
    have HC : Hid (∀ o, Calls Try.prog 43 #[.pointer (some ⟨p, 0, none⟩), .int .i64 n] (w.alloc o) fun e w' => e = .returned (.bool false) ∧ Rr p g bs (flagS bs n s).2 w' ∧ But p (w.alloc o) w') := fun o => by
      rw [← hF]
      exact rflag_any p g bs s n _ (h.alloc hg o) hi (by omega)
    clear h hi hc hz hg hF
    go_enter Try.func23, Try.ntmps23
    go_wp2_with (go_at_call 43; go_loud (refine (HC.out _).mono ?_; rintro e w1 ⟨rfl, hr, hb1⟩))
    go_ret
    exact ⟨rfl, hr, went_read _ hb1⟩
  · rw [hF] at hz
    obtain rfl : z = 1 := by rw [← hz]; rfl
    have HC : Hid (∀ o, Calls Try.prog 43 #[.pointer (some ⟨p, 0, none⟩), .int .i64 n] (w.alloc o) fun e w' => e = .returned (.bool true) ∧ Rr p g bs (flagS bs n s).2 w' ∧ But p (w.alloc o) w') := fun o => by
      rw [← hF]
      exact rflag_any p g bs s n _ (h.alloc hg o) hi (by omega)
    clear h hi hc hz hg hF
    go_enter Try.func23, Try.ntmps23
    go_wp2_with (go_at_call 43; go_loud (refine (HC.out _).mono ?_; rintro e w1 ⟨rfl, hr, hb1⟩))
    go_ret
    exact ⟨rfl, hr, went_read _ hb1⟩

set_option maxRecDepth 100000 in
set_option maxHeartbeats 1600000 in
theorem reads_bits (v n m z : Int) (a : Option Addr) (len cap : Nat) (p g : Nat) (bs : List Nat) (s : St) (w : World) (h : Rr p g bs s w) (hi : Inv s) (hc : s.cnt ≤ 100000000000000) (hg : bs ≠ [] → g < w.heap.size)
    (hz : (((bitsS bs n s).1 : Nat) : Int) = z) :
    Calls Try.prog 23 #[.pointer (some ⟨p, 0, none⟩), .agg #[.int .i64 2, .int .i64 v, .int .i64 n, .int .i64 m, .slice a len cap], .int .i64 z] w fun e w' => ReadSo p g bs (bitsS bs n s).2 w e w' := by
  have HC : Hid (∀ o, Calls Try.prog 44 #[.pointer (some ⟨p, 0, none⟩), .int .i64 n] (w.alloc o) fun e w' => e = .returned (.int .i64 z) ∧ Rr p g bs (bitsS bs n s).2 w' ∧ But p (w.alloc o) w') := fun o => by
    rw [← hz]
    exact rbits_any p g bs s n _ (h.alloc hg o) hi (by omega)
  clear h hi hc hz hg
  go_enter Try.func23, Try.ntmps23
  go_wp2_with (go_at_call 44; go_loud (refine (HC.out _).mono ?_; rintro e w1 ⟨rfl, hr, hb1⟩))
  go_ret
  exact ⟨rfl, hr, went_read _ hb1⟩

set_option maxRecDepth 100000 in
set_option maxHeartbeats 1600000 in
theorem reads_uint (v n m z : Int) (a : Option Addr) (len cap : Nat) (p g : Nat) (bs : List Nat) (s : St) (w : World) (h : Rr p g bs s w) (hi : Inv s) (hc : s.cnt ≤ 100000000000000) (hg : bs ≠ [] → g < w.heap.size)
    (hz : (((uintS bs n s).1 : Nat) : Int) = z) :
    Calls Try.prog 23 #[.pointer (some ⟨p, 0, none⟩), .agg #[.int .i64 3, .int .i64 v, .int .i64 n, .int .i64 m, .slice a len cap], .int .i64 z] w fun e w' => ReadSo p g bs (uintS bs n s).2 w e w' := by
  have HC : Hid (∀ o, Calls Try.prog 45 #[.pointer (some ⟨p, 0, none⟩), .int .i64 n] (w.alloc o) fun e w' => e = .returned (.int .i64 z) ∧ Rr p g bs (uintS bs n s).2 w' ∧ But p (w.alloc o) w') := fun o => by
    rw [← hz]
    exact ruint_any p g bs s n _ (h.alloc hg o) hi (by omega)
  clear h hi hc hz hg
  go_enter Try.func23, Try.ntmps23
  go_wp2_with (go_at_call 45; go_loud (refine (HC.out _).mono ?_; rintro e w1 ⟨rfl, hr, hb1⟩))
  go_ret
  exact ⟨rfl, hr, went_read _ hb1⟩

set_option maxRecDepth 100000 in
set_option maxHeartbeats 1600000 in
theorem reads_lap (v n m z : Int) (a : Option Addr) (len cap : Nat) (p g : Nat) (bs : List Nat) (s : St) (w : World) (h : Rr p g bs s w) (hi : Inv s) (hc : s.cnt ≤ 100000000000000) (hg : bs ≠ [] → g < w.heap.size)
    (hz : (lapS bs n m s).1 = z) :
    Calls Try.prog 23 #[.pointer (some ⟨p, 0, none⟩), .agg #[.int .i64 4, .int .i64 v, .int .i64 n, .int .i64 m, .slice a len cap], .int .i64 z] w fun e w' => ReadSo p g bs (lapS bs n m s).2 w e w' := by
  have HC : Hid (∀ o, Calls Try.prog 46 #[.pointer (some ⟨p, 0, none⟩), .int .i64 n, .int .i64 m] (w.alloc o) fun e w' => e = .returned (.int .i64 z) ∧ Rr p g bs (lapS bs n m s).2 w' ∧ But p (w.alloc o) w') := fun o => by
    rw [← hz]
    exact rlap_any p g bs s n m _ (h.alloc hg o) hi (by omega)
  clear h hi hc hz hg
  go_enter Try.func23, Try.ntmps23
  go_wp2_with (go_at_call 46; go_loud (refine (HC.out _).mono ?_; rintro e w1 ⟨rfl, hr, hb1⟩))
  go_ret
  exact ⟨rfl, hr, went_read _ hb1⟩

set_option maxRecDepth 100000 in
set_option maxHeartbeats 1600000 in
theorem reads_icdf (op v n m z : Int) (a : Option Addr) (len cap : Nat) (p g : Nat) (bs : List Nat) (s : St) (w : World) (h : Rr p g bs s w) (hi : Inv s) (hc : s.cnt ≤ 100000000000000) (hg : bs ≠ [] → g < w.heap.size)
    (hop : op ≠ 0 ∧ op ≠ 1 ∧ op ≠ 2 ∧ op ≠ 3 ∧ op ≠ 4) (hz : (((symS bs (icdfL n) s).1 : Nat) : Int) = z) :
    Calls Try.prog 23 #[.pointer (some ⟨p, 0, none⟩), .agg #[.int .i64 op, .int .i64 v, .int .i64 n, .int .i64 m, .slice a len cap], .int .i64 z] w fun e w' => ReadSo p g bs (symS bs (icdfL n) s).2 w e w' := by
  have HC : Hid (∀ W xo k c, Went (fun k => k = p) w (fun k => k = p) W → Rr p g bs s W → RowAt W xo k (icdfL n) → k ≤ 17 → (∀ b off, xo = some ⟨b, off, none⟩ → 0 < k → b ≠ p) →
      Calls Try.prog 42 #[.pointer (some ⟨p, 0, none⟩), .slice xo k c] W fun e w' => e = .returned (.int .i64 z) ∧ Rr p g bs (symS bs (icdfL n) s).2 w' ∧ Went (fun k => k = p) w (fun k => k = p) w') := fun W xo k c hw hr ht hk hap => by
    refine (rsymbol_any p g bs s xo k c (icdfL n) W hr hi (by omega) ht (by omega) hap).mono fun e w' h => ⟨?_, h.2.1, hw.trans (.of_but h.2.2 rfl)⟩
    rw [← hz]
    exact h.1
  have hr0 : Rr p g bs s (w.alloc (.cells #[.int .i64 op, .int .i64 v, .int .i64 n, .int .i64 m, .slice a len cap] 40)) := h.alloc hg _
  have hw0 := (Went.refl (fun k => k = p) w).alloc (.cells #[.int .i64 op, .int .i64 v, .int .i64 n, .int .i64 m, .slice a len cap] 40)
  have HP : Hid (p < (w.alloc (.cells #[.int .i64 op, .int .i64 v, .int .i64 n, .int .i64 m, .slice a len cap] 40)).heap.size) := hr0.lt
  have HG : Hid (bs ≠ [] → g < (w.alloc (.cells #[.int .i64 op, .int .i64 v, .int .i64 n, .int .i64 m, .slice a len cap] 40)).heap.size) := fun h0 => by
    have := hg h0
    show g < (w.alloc _).heap.size
    simp; omega
  have n0 : (op == 0) = false := beq_eq_false_iff_ne.2 hop.1
  have n1 : (op == 1) = false := beq_eq_false_iff_ne.2 hop.2.1
  have n2 : (op == 2) = false := beq_eq_false_iff_ne.2 hop.2.2.1
  have n3 : (op == 3) = false := beq_eq_false_iff_ne.2 hop.2.2.2.1
  have n4 : (op == 4) = false := beq_eq_false_iff_ne.2 hop.2.2.2.2
  clear h hi hc hz hg hop
  go_enter Try.func23, Try.ntmps23
  go_wp2_with (first
    | (go_at_call 17; go_loud (refine (ricdf_row n _).mono ?_; rintro e w1 ⟨a1, m1, cap1, rfl, ht1, hat1, hm1, hb1⟩; have hr1 := hr0.below hb1 HP.out HG.out; have hw1 := hw0.keep hb1; have hap1 : ∀ b off, a1 = some ⟨b, off, none⟩ → 0 < m1 → b ≠ p := (fun b off h1 h2 h3 => (by have := hat1 b off h1 h2; have := HP.out; omega)); clear hat1 hb1))
    | (go_at_call 42; go_loud (refine (HC.out _ _ _ _ hw1 hr1 ht1 hm1 hap1).mono ?_; rintro e w2 ⟨rfl, hr2, hw2⟩)))
  go_ret
  exact ⟨rfl, hr2, hw2⟩

/-- Whatever was asked for: it is read where the reader's own answer is what was written. -/
theorem reads_any (op v n m z : Int) (a : Option Addr) (len cap : Nat) (t : List Int) (p g : Nat) (bs : List Nat) (s : St) (w : World) (h : Rr p g bs s w) (hi : Inv s) (hc : s.cnt ≤ 100000000000000) (hg : bs ≠ [] → g < w.heap.size)
    (hx : Asked w op v n m a len cap t) (hap : ∀ b off, a = some ⟨b, off, none⟩ → 0 < len → b ≠ p) (hz : (readW bs (wrA ⟨op, v, n, m, t⟩) s).1 = z) :
    Calls Try.prog 23 #[.pointer (some ⟨p, 0, none⟩), .agg #[.int .i64 op, .int .i64 v, .int .i64 n, .int .i64 m, .slice a len cap], .int .i64 z] w fun e w' => ReadSo p g bs (readW bs (wrA ⟨op, v, n, m, t⟩) s).2 w e w' := by
  have e0 : (wrA ⟨op, v, n, m, t⟩).op = op := rfl
  have e1 : (wrA ⟨op, v, n, m, t⟩).n = n := rfl
  have e2 : (wrA ⟨op, v, n, m, t⟩).m = m := rfl
  have e3 : (wrA ⟨op, v, n, m, t⟩).t = t := rfl
  generalize wrA ⟨op, v, n, m, t⟩ = x at *
  unfold readW at hz ⊢
  rw [e0] at hz ⊢
  by_cases h0 : op = 0
  · rw [if_pos h0] at hz ⊢
    subst h0
    rw [e3] at hz ⊢
    exact reads_sym v n m z a len cap t p g bs s w h hi hc hg hx hap hz
  rw [if_neg h0] at hz ⊢
  by_cases h1 : op = 1
  · rw [if_pos h1] at hz ⊢
    subst h1
    rw [e1] at hz ⊢
    exact reads_flag v n m z a len cap p g bs s w h hi hc hg hz
  rw [if_neg h1] at hz ⊢
  by_cases h2 : op = 2
  · rw [if_pos h2] at hz ⊢
    subst h2
    rw [e1] at hz ⊢
    exact reads_bits v n m z a len cap p g bs s w h hi hc hg hz
  rw [if_neg h2] at hz ⊢
  by_cases h3 : op = 3
  · rw [if_pos h3] at hz ⊢
    subst h3
    rw [e1] at hz ⊢
    exact reads_uint v n m z a len cap p g bs s w h hi hc hg hz
  rw [if_neg h3] at hz ⊢
  by_cases h4 : op = 4
  · rw [if_pos h4] at hz ⊢
    subst h4
    rw [e1, e2] at hz ⊢
    exact reads_lap v n m z a len cap p g bs s w h hi hc hg hz
  · rw [if_neg h4] at hz ⊢
    rw [e1] at hz ⊢
    exact reads_icdf op v n m z a len cap p g bs s w h hi hc hg ⟨h0, h1, h2, h3, h4⟩ hz

end Go.Proofs.Ytinjkffkkmbioaa
