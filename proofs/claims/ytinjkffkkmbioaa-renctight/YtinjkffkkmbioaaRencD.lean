/- The laws' own call that asks whether a writing may be. -/
import Derived.Test.YtinjkffkkmbioaaRencC
namespace Go.Proofs.Ytinjkffkkmbioaa
open Go.RowKit

theorem icdf_good : ∀ k : Nat, k ≤ 8 → goodB (icdfT k) = true := by decide +kernel

theorem symOk_icdf {n v : Int} : symOk (icdfL n) v ↔ (0 ≤ n ∧ n ≤ 8 ∧ 0 ≤ v ∧ v < (icdfL n).length) := by
  constructor
  · rintro ⟨h1, h2, h3⟩
    by_cases hn : 0 ≤ n ∧ n ≤ 8
    · exact ⟨hn.1, hn.2, h2, h3⟩
    · rw [icdfL_far (by omega)] at h3
      simp at h3
      omega
  · rintro ⟨h1, h2, h3, h4⟩
    refine ⟨?_, h3, h4⟩
    unfold icdfL
    rw [if_neg (by omega)]
    exact icdf_good n.toNat (by omega)

/-- What the call answers. -/
def MaySo (q : Prop) (w : World) (e : Ending) (w' : World) : Prop := (∃ b : Bool, e = .returned (.bool b) ∧ (b = true ↔ q)) ∧ Below w.heap.size w w'

theorem MaySo.no {q : Prop} (hq : ¬ q) {w w' : World} {e : Ending} (he : e = .returned (.bool false)) (hb : Below w.heap.size w w') : MaySo q w e w' := ⟨⟨false, he, ⟨fun h => (by cases h), fun h => absurd h hq⟩⟩, hb⟩
theorem MaySo.last {q c : Prop} [Decidable c] (hq : q ↔ c) {w w' : World} {e : Ending} (he : e = .returned (.bool (decide c))) (hb : Below w.heap.size w w') : MaySo q w e w' := ⟨⟨_, he, decide_eq_true_iff.trans hq.symm⟩, hb⟩

set_option maxRecDepth 100000 in
set_option maxHeartbeats 1600000 in
theorem may_sym (v n m : Int) (a : Option Addr) (len cap : Nat) (t : List Int) (w : World) (hx : Asked w 0 v n m a len cap t) :
    Calls Try.prog 21 #[.agg #[.int .i64 0, .int .i64 v, .int .i64 n, .int .i64 m, .slice a len cap]] w fun e w' => MaySo (symOk t v) w e w' := by
  have HR : Hid (∀ o, RowAt (w.alloc o) a len t) := fun o => hx.row.keep ((Below.refl _ _).alloc (Nat.le_refl _) o) (Nat.le_refl _)
  have hlen : len ≤ 9223372036854775807 := by have := hx.size; omega
  have HL : Hid (t.length = len) := hx.row.1
  have hb := (Below.refl w.heap.size w).alloc (Nat.le_refl _) (.cells #[.int .i64 0, .int .i64 v, .int .i64 n, .int .i64 m, .slice a len cap] 40)
  clear hx
  by_cases hg : goodB t = true
  · have HG : Hid (goodB t = true) := hg
    clear hg
    by_cases c1 : 0 ≤ v
    · have HQ : Hid (symOk t v ↔ v < (len : Int)) := ⟨fun h => by have := h.2.2; rw [HL.out] at this; exact this, fun h => ⟨HG.out, c1, by rw [HL.out]; exact h⟩⟩
      go_enter Try.func21, Try.ntmps21
      go_wp2_with (go_at_call 39; refine (rgood_row t len a cap _ (HR.out _) hlen).mono ?_; rw [HG.out]; rintro e w' ⟨rfl, rfl⟩)
      go_ret
      exact MaySo.last HQ.out rfl hb
    · have HQ : Hid (¬ symOk t v) := fun h => c1 h.2.1
      go_enter Try.func21, Try.ntmps21
      go_wp2_with (go_at_call 39; refine (rgood_row t len a cap _ (HR.out _) hlen).mono ?_; rw [HG.out]; rintro e w' ⟨rfl, rfl⟩)
      go_ret
      exact MaySo.no HQ.out rfl hb
  · have HG : Hid (goodB t = false) := by cases h : goodB t; rfl; exact absurd h hg
    have HQ : Hid (¬ symOk t v) := fun h => hg h.1
    clear hg
    go_enter Try.func21, Try.ntmps21
    go_wp2_with (go_at_call 39; refine (rgood_row t len a cap _ (HR.out _) hlen).mono ?_; rw [HG.out]; rintro e w' ⟨rfl, rfl⟩)
    go_ret
    exact MaySo.no HQ.out rfl hb

set_option maxRecDepth 100000 in
set_option maxHeartbeats 1600000 in
theorem may_flag (v n m : Int) (a : Option Addr) (len cap : Nat) (w : World) :
    Calls Try.prog 21 #[.agg #[.int .i64 1, .int .i64 v, .int .i64 n, .int .i64 m, .slice a len cap]] w fun e w' => MaySo (1 ≤ n ∧ n ≤ 15) w e w' := by
  have hb := (Below.refl w.heap.size w).alloc (Nat.le_refl _) (.cells #[.int .i64 1, .int .i64 v, .int .i64 n, .int .i64 m, .slice a len cap] 40)
  obtain ⟨q, hq⟩ : ∃ q : Prop, q = (1 ≤ n ∧ n ≤ 15) := ⟨_, rfl⟩
  rw [← hq]
  by_cases c0 : 1 ≤ n
  · have HQ : Hid (q ↔ n ≤ 15) := by rw [hq]; exact ⟨fun h => by omega, fun h => by omega⟩
    clear hq
    go_enter Try.func21, Try.ntmps21
    go_wp2
    go_ret
    exact MaySo.last HQ.out rfl hb
  · have HQ : Hid (¬ q) := by rw [hq]; intro h; omega
    clear hq
    go_enter Try.func21, Try.ntmps21
    go_wp2
    go_ret
    exact MaySo.no HQ.out rfl hb

set_option maxRecDepth 100000 in
set_option maxHeartbeats 1600000 in
theorem may_bits (v n m : Int) (a : Option Addr) (len cap : Nat) (w : World) :
    Calls Try.prog 21 #[.agg #[.int .i64 2, .int .i64 v, .int .i64 n, .int .i64 m, .slice a len cap]] w fun e w' => MaySo (0 ≤ n ∧ n ≤ 24 ∧ 0 ≤ v ∧ v.toNat < 2 ^ n.toNat) w e w' := by
  have hb := (Below.refl w.heap.size w).alloc (Nat.le_refl _) (.cells #[.int .i64 2, .int .i64 v, .int .i64 n, .int .i64 m, .slice a len cap] 40)
  obtain ⟨q, hq⟩ : ∃ q : Prop, q = (0 ≤ n ∧ n ≤ 24 ∧ 0 ≤ v ∧ v.toNat < 2 ^ n.toNat) := ⟨_, rfl⟩
  rw [← hq]
  by_cases c1 : 0 ≤ n
  · by_cases c2 : n ≤ 24
    · by_cases c3 : 0 ≤ v
      · obtain ⟨k, rfl⟩ := Int.eq_ofNat_of_zero_le c1
        have hp := two_pow_24 k (by omega)
        rw [Int.toNat_natCast] at hq
        have HQ : Hid (q ↔ v < (2 : Int) ^ k) := by
          rw [hq, ← pow_cast]
          exact ⟨fun h => by omega, fun h => ⟨c1, c2, c3, by omega⟩⟩
        clear hq
        go_enter Try.func21, Try.ntmps21
        go_wp2
        go_ret
        exact MaySo.last HQ.out rfl hb
      · have HQ : Hid (¬ q) := by rw [hq]; intro h; omega
        clear hq
        go_enter Try.func21, Try.ntmps21
        go_wp2
        go_ret
        exact MaySo.no HQ.out rfl hb
    · have HQ : Hid (¬ q) := by rw [hq]; intro h; omega
      clear hq
      go_enter Try.func21, Try.ntmps21
      go_wp2
      go_ret
      exact MaySo.no HQ.out rfl hb
  · have HQ : Hid (¬ q) := by rw [hq]; intro h; omega
    clear hq
    go_enter Try.func21, Try.ntmps21
    go_wp2
    go_ret
    exact MaySo.no HQ.out rfl hb

set_option maxRecDepth 100000 in
set_option maxHeartbeats 1600000 in
theorem may_uint (v n m : Int) (a : Option Addr) (len cap : Nat) (w : World) :
    Calls Try.prog 21 #[.agg #[.int .i64 3, .int .i64 v, .int .i64 n, .int .i64 m, .slice a len cap]] w fun e w' => MaySo (1 ≤ n ∧ n ≤ 4294967295 ∧ 0 ≤ v ∧ v < n) w e w' := by
  have hb := (Below.refl w.heap.size w).alloc (Nat.le_refl _) (.cells #[.int .i64 3, .int .i64 v, .int .i64 n, .int .i64 m, .slice a len cap] 40)
  obtain ⟨q, hq⟩ : ∃ q : Prop, q = (1 ≤ n ∧ n ≤ 4294967295 ∧ 0 ≤ v ∧ v < n) := ⟨_, rfl⟩
  rw [← hq]
  by_cases c0 : 1 ≤ n
  · by_cases c1 : n ≤ 4294967295
    · by_cases c2 : 0 ≤ v
      · have HQ : Hid (q ↔ v < n) := by rw [hq]; exact ⟨fun h => by omega, fun h => by omega⟩
        clear hq
        go_enter Try.func21, Try.ntmps21
        go_wp2
        go_ret
        exact MaySo.last HQ.out rfl hb
      · have HQ : Hid (¬ q) := by rw [hq]; intro h; omega
        clear hq
        go_enter Try.func21, Try.ntmps21
        go_wp2
        go_ret
        exact MaySo.no HQ.out rfl hb
    · have HQ : Hid (¬ q) := by rw [hq]; intro h; omega
      clear hq
      go_enter Try.func21, Try.ntmps21
      go_wp2
      go_ret
      exact MaySo.no HQ.out rfl hb
  · have HQ : Hid (¬ q) := by rw [hq]; intro h; omega
    clear hq
    go_enter Try.func21, Try.ntmps21
    go_wp2
    go_ret
    exact MaySo.no HQ.out rfl hb

set_option maxRecDepth 100000 in
set_option maxHeartbeats 1600000 in
theorem may_lap (v n m : Int) (a : Option Addr) (len cap : Nat) (w : World) :
    Calls Try.prog 21 #[.agg #[.int .i64 4, .int .i64 v, .int .i64 n, .int .i64 m, .slice a len cap]] w fun e w' => MaySo (256 ≤ n ∧ n ≤ 28000 ∧ 0 ≤ m ∧ m ≤ 16000) w e w' := by
  have hb := (Below.refl w.heap.size w).alloc (Nat.le_refl _) (.cells #[.int .i64 4, .int .i64 v, .int .i64 n, .int .i64 m, .slice a len cap] 40)
  obtain ⟨q, hq⟩ : ∃ q : Prop, q = (256 ≤ n ∧ n ≤ 28000 ∧ 0 ≤ m ∧ m ≤ 16000) := ⟨_, rfl⟩
  rw [← hq]
  by_cases c0 : 256 ≤ n
  · by_cases c1 : n ≤ 28000
    · by_cases c2 : 0 ≤ m
      · have HQ : Hid (q ↔ m ≤ 16000) := by rw [hq]; exact ⟨fun h => by omega, fun h => by omega⟩
        clear hq
        go_enter Try.func21, Try.ntmps21
        go_wp2
        go_ret
        exact MaySo.last HQ.out rfl hb
      · have HQ : Hid (¬ q) := by rw [hq]; intro h; omega
        clear hq
        go_enter Try.func21, Try.ntmps21
        go_wp2
        go_ret
        exact MaySo.no HQ.out rfl hb
    · have HQ : Hid (¬ q) := by rw [hq]; intro h; omega
      clear hq
      go_enter Try.func21, Try.ntmps21
      go_wp2
      go_ret
      exact MaySo.no HQ.out rfl hb
  · have HQ : Hid (¬ q) := by rw [hq]; intro h; omega
    clear hq
    go_enter Try.func21, Try.ntmps21
    go_wp2
    go_ret
    exact MaySo.no HQ.out rfl hb

set_option maxRecDepth 100000 in
set_option maxHeartbeats 1600000 in
theorem may_icdf (op v n m : Int) (a : Option Addr) (len cap : Nat) (w : World) (hop : op ≠ 0 ∧ op ≠ 1 ∧ op ≠ 2 ∧ op ≠ 3 ∧ op ≠ 4) :
    Calls Try.prog 21 #[.agg #[.int .i64 op, .int .i64 v, .int .i64 n, .int .i64 m, .slice a len cap]] w fun e w' => MaySo (symOk (icdfL n) v) w e w' := by
  have hb0 := (Below.refl w.heap.size w).alloc (Nat.le_refl _) (.cells #[.int .i64 op, .int .i64 v, .int .i64 n, .int .i64 m, .slice a len cap] 40)
  have hb := ((Below.refl w.heap.size w).alloc (Nat.le_refl _) (.cells #[.int .i64 op, .int .i64 v, .int .i64 n, .int .i64 m, .slice a len cap] 40)).drew
  have HSZ : Hid (w.heap.size < (w.alloc (.cells #[.int .i64 op, .int .i64 v, .int .i64 n, .int .i64 m, .slice a len cap] 40)).drew.heap.size) := by show w.heap.size < (w.alloc _).heap.size; simp
  have hS1 : (w.alloc (.cells #[.int .i64 op, .int .i64 v, .int .i64 n, .int .i64 m, .slice a len cap] 40)).drew.cell? ⟨w.heap.size, 1, none⟩ = some (.int .i64 v) := by show (w.alloc _).cell? _ = _; rw [World.cell?_alloc_new]; rfl
  have hS2 : (w.alloc (.cells #[.int .i64 op, .int .i64 v, .int .i64 n, .int .i64 m, .slice a len cap] 40)).drew.cell? ⟨w.heap.size, 2, none⟩ = some (.int .i64 n) := by show (w.alloc _).cell? _ = _; rw [World.cell?_alloc_new]; rfl
  have n0 : (op == 0) = false := beq_eq_false_iff_ne.2 hop.1
  have n1 : (op == 1) = false := beq_eq_false_iff_ne.2 hop.2.1
  have n2 : (op == 2) = false := beq_eq_false_iff_ne.2 hop.2.2.1
  have n3 : (op == 3) = false := beq_eq_false_iff_ne.2 hop.2.2.2.1
  have n4 : (op == 4) = false := beq_eq_false_iff_ne.2 hop.2.2.2.2
  clear hop
  obtain ⟨L, hL⟩ : ∃ L, (icdfL n).length = L := ⟨_, rfl⟩
  have HL : Hid (∀ a k w, RowAt w a k (icdfL n) → L = k) := fun a k w h => by rw [← hL]; exact h.1
  obtain ⟨q, hq⟩ : ∃ q : Prop, q = symOk (icdfL n) v := ⟨_, rfl⟩
  rw [← hq]
  rw [symOk_icdf, hL] at hq
  clear hL
  by_cases c1 : 0 ≤ n
  · by_cases c2 : n ≤ 8
    · by_cases c3 : 0 ≤ v
      · have HQ : Hid (q ↔ v < (L : Int)) := by rw [hq]; exact ⟨fun h => by omega, fun h => by omega⟩
        clear hq
        go_enter Try.func21, Try.ntmps21
        go_wp2
        go_region_held3 (fun W => W.cell? ⟨w.heap.size, 1, none⟩ = some (.int .i64 v) ∧ W.cell? ⟨w.heap.size, 2, none⟩ = some (.int .i64 n)) (first | (exact ⟨by assumption, by assumption⟩) | go_keep) (first
          | (go_at_call 17; go_loud (refine (ricdf_row n _).mono ?_; rintro e w1 ⟨a1, m1, cap1, rfl, ht1, _, hm1, hb1⟩; obtain rfl : L = m1 := HL.out _ _ _ ht1; have hS1 := (hb1.cell (p := ⟨w.heap.size, 1, none⟩) (by simp)).trans hS1; have hS2 := (hb1.cell (p := ⟨w.heap.size, 2, none⟩) (by simp)).trans hS2; replace hb := hb.trans (hb1.mono (Nat.le_of_lt HSZ.out)); clear hb1 ht1)))
        all_goals
          go_wp2
          go_ret
          exact MaySo.last HQ.out rfl hb
      · have HQ : Hid (¬ q) := by rw [hq]; intro h; omega
        replace c3 : (0 ≤ v) = False := eq_false c3
        clear hq
        go_enter Try.func21, Try.ntmps21
        go_wp2
        go_quiet (fail)
        go_wp2
        go_ret
        exact MaySo.no HQ.out rfl (by first | exact Below.drewN hb0 _ | exact Below.drewN hb _)
    · have HQ : Hid (¬ q) := by rw [hq]; intro h; omega
      replace c2 : (n ≤ 8) = False := eq_false c2
      clear hq
      go_enter Try.func21, Try.ntmps21
      go_wp2
      go_quiet (fail)
      go_wp2
      go_ret
      exact MaySo.no HQ.out rfl (by first | exact Below.drewN hb0 _ | exact Below.drewN hb _)
  · have HQ : Hid (¬ q) := by rw [hq]; intro h; omega
    replace c1 : (0 ≤ n) = False := eq_false c1
    clear hq
    go_enter Try.func21, Try.ntmps21
    go_wp2
    go_quiet (fail)
    go_wp2
    go_ret
    exact MaySo.no HQ.out rfl (by first | exact Below.drewN hb0 _ | exact Below.drewN hb _)

theorem MaySo.congr {q r : Prop} (h : q = r) {w w' : World} {e : Ending} (hm : MaySo q w e w') : MaySo r w e w' := h ▸ hm

theorem may_any (op v n m : Int) (a : Option Addr) (len cap : Nat) (t : List Int) (w : World) (hx : Asked w op v n m a len cap t) :
    Calls Try.prog 21 #[.agg #[.int .i64 op, .int .i64 v, .int .i64 n, .int .i64 m, .slice a len cap]] w fun e w' => MaySo (mayA ⟨op, v, n, m, t⟩) w e w' := by
  by_cases h0 : op = 0
  · subst h0
    exact (may_sym v n m a len cap t w hx).mono fun e w' h => h.congr (by unfold mayA; simp)
  by_cases h1 : op = 1
  · subst h1
    exact (may_flag v n m a len cap w).mono fun e w' h => h.congr (by unfold mayA; simp)
  by_cases h2 : op = 2
  · subst h2
    exact (may_bits v n m a len cap w).mono fun e w' h => h.congr (by unfold mayA; simp)
  by_cases h3 : op = 3
  · subst h3
    exact (may_uint v n m a len cap w).mono fun e w' h => h.congr (by unfold mayA; simp)
  by_cases h4 : op = 4
  · subst h4
    exact (may_lap v n m a len cap w).mono fun e w' h => h.congr (by unfold mayA; simp)
  · exact (may_icdf op v n m a len cap w ⟨h0, h1, h2, h3, h4⟩).mono fun e w' h => h.congr (by unfold mayA; simp only [if_neg h0, if_neg h1, if_neg h2, if_neg h3, if_neg h4])

end Go.Proofs.Ytinjkffkkmbioaa
