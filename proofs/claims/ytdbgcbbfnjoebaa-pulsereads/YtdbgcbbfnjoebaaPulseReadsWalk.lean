/- Pulses are read out of any bytes as the document says: whatever is handed in. -/
import Derived.Test.YtdbgcbbfnjoebaaPulseV
import Derived.Test.YtdbgcbbfnjoebaaRcI
namespace Go.Proofs.Ytdbgcbbfnjoebaa
open Go.RowKit

set_option maxRecDepth 100000 in
set_option maxHeartbeats 1600000 in
theorem pulseReads.noLength (g0 : Nat) (a0 : Option Addr) (n0 cap0 : Nat) (bs : List Nat) (n : Int) (w : World) (h0 : ArgIn w g0 a0 n0 cap0 bs) (k0 : n0 ≤ 1000) (hn : lenB n = false) (hw1 : -9223372036854775808 ≤ n) (hw2 : n ≤ 9223372036854775807) :
    Calls Try.prog 4 #[.slice a0 n0 cap0, .int .i64 n] w fun e w' => e = .returned (.bool true) ∧ Below w.heap.size w w' := by
  have hb := Below.refl w.heap.size w
  have A0 : Hid (∀ W, Below w.heap.size w W → ArgIn W g0 a0 n0 cap0 bs) := fun W hW => h0.keep hW
  have HN : Hid (lenB n = false) := hn
  have HT : Hid (∀ p q W, Rd p q bs (initS bs) W → Calls Try.prog 17 #[.pointer (some ⟨p, 0, none⟩)] W fun e w' => e = .returned (.int .i64 1) ∧ ∃ k, w' = W.drewN k) := fun p q W h => by
    have := tell_any p q bs (initS bs) W h (initS_inv h0.bytes.2.1) (by rw [init_cnt]; decide)
    rw [initS_tell] at this
    exact this
  have hk : (n0 : Int) ≤ 1000 := by omega
  have hnn : ¬ (16 ≤ n ∧ n ≤ 480 ∧ n % 16 = 0) := fun hc => by
    have := decide_eq_true hc
    unfold lenB at hn
    rw [hn] at this
    cases this
  clear h0 k0 hn
  by_cases h1 : n < 16
  · clear hnn
    go_enter Try.func4, Try.ntmps4
    go_wp2_with (first
      | (go_at_call 9; refine (awake_any _).mono ?_; rintro e w1 ⟨rfl, hb1⟩; replace hb := hb.trans (hb1.mono hb.size); clear hb1)
      | (go_at_call 11; go_loud (refine (new_any g0 a0 n0 cap0 bs _ (A0.out _ hb)).mono ?_; rintro e w1 ⟨pd, qd, rfl, hd, hqd, hpd, hb1⟩; replace hb := hb.trans (hb1.mono hb.size); clear hb1))
      | (go_at_call 10; go_loud (refine (read_bad pd n _ HN.out).mono ?_; rintro e w2 ⟨rfl, rfl⟩))
      | (go_at_call 17; go_loud (refine (HT.out pd qd _ hd).mono ?_; rintro e w2 ⟨rfl, k, rfl⟩; replace hb := below_drewN hb k)))
    go_ret
    exact ⟨rfl, hb⟩
  · by_cases h2 : 480 < n
    · clear hnn
      go_enter Try.func4, Try.ntmps4
      go_wp2_with (first
        | (go_at_call 9; refine (awake_any _).mono ?_; rintro e w1 ⟨rfl, hb1⟩; replace hb := hb.trans (hb1.mono hb.size); clear hb1)
        | (go_at_call 11; go_loud (refine (new_any g0 a0 n0 cap0 bs _ (A0.out _ hb)).mono ?_; rintro e w1 ⟨pd, qd, rfl, hd, hqd, hpd, hb1⟩; replace hb := hb.trans (hb1.mono hb.size); clear hb1))
        | (go_at_call 10; go_loud (refine (read_bad pd n _ HN.out).mono ?_; rintro e w2 ⟨rfl, rfl⟩))
        | (go_at_call 17; go_loud (refine (HT.out pd qd _ hd).mono ?_; rintro e w2 ⟨rfl, k, rfl⟩; replace hb := below_drewN hb k)))
      go_ret
      exact ⟨rfl, hb⟩
    · have h3 : (n % 16 == 0) = false := beq_eq_false_iff_ne.2 (fun e => hnn ⟨by omega, by omega, e⟩)
      have h4 : (n % 16 != 0) = true := bne_iff_ne.2 (fun e => hnn ⟨by omega, by omega, e⟩)
      have h7 : (16 : Int) ≤ n := by omega
      have h8 : n ≤ 480 := by omega
      have h5 : (n < 16) = False := eq_false h1
      have h6 : (480 < n) = False := eq_false h2
      clear hnn h1 h2
      go_enter Try.func4, Try.ntmps4
      go_wp2_with (first
        | (go_at_call 9; refine (awake_any _).mono ?_; rintro e w1 ⟨rfl, hb1⟩; replace hb := hb.trans (hb1.mono hb.size); clear hb1)
        | (go_at_call 11; go_loud (refine (new_any g0 a0 n0 cap0 bs _ (A0.out _ hb)).mono ?_; rintro e w1 ⟨pd, qd, rfl, hd, hqd, hpd, hb1⟩; replace hb := hb.trans (hb1.mono hb.size); clear hb1))
        | (go_at_call 10; go_loud (refine (read_bad pd n _ HN.out).mono ?_; rintro e w2 ⟨rfl, rfl⟩))
        | (go_at_call 17; go_loud (refine (HT.out pd qd _ hd).mono ?_; rintro e w2 ⟨rfl, k, rfl⟩; replace hb := below_drewN hb k)))
      go_ret
      exact ⟨rfl, hb⟩

set_option maxRecDepth 100000 in
set_option maxHeartbeats 3200000 in
theorem pulseReads.anyLength (g0 : Nat) (a0 : Option Addr) (n0 cap0 : Nat) (bs : List Nat) (m n : Nat) (w : World) (h0 : ArgIn w g0 a0 n0 cap0 bs) (hg0 : 0 < n0 → g0 < w.heap.size) (k0 : n0 ≤ 1000) (hn : n = 16 * m) (hm1 : 1 ≤ m) (hm : m ≤ 30) :
    Calls Try.prog 4 #[.slice a0 n0 cap0, .int .i64 n] w fun e w' => e = .returned (.bool true) ∧ Below w.heap.size w w' := by
  have hb := Below.refl w.heap.size w
  have A0 : Hid (∀ W, Below w.heap.size w W → ArgIn W g0 a0 n0 cap0 bs) := fun W hW => h0.keep hW
  have HGL : Hid (∀ p, bs ≠ [] → homeOf n0 g0 p < w.heap.size) := fun p hne => by
    have hn : 0 < n0 := by
      have := h0.bytes.1
      rcases Nat.eq_zero_or_pos n0 with e | e
      · exact absurd (List.eq_nil_of_length_eq_zero (by omega)) hne
      · exact e
    rw [homeOf, if_pos hn]
    exact hg0 hn
  have hbs := h0.bytes.2.1
  obtain ⟨s0, hs0⟩ : ∃ s, initS bs = s := ⟨_, rfl⟩
  have I0 : Inv s0 := by rw [← hs0]; exact initS_inv hbs
  have C0 : s0.cnt ≤ 1000 := by rw [← hs0, init_cnt]; decide
  obtain ⟨V, s1, eV⟩ : ∃ V s1, blocksV bs m s0 = (V, s1) := pair_is _
  obtain ⟨v1, v2, _⟩ := blocksV_in hbs m s0 I0
  have v3 := blocksV_cnt hbs m s0 I0
  rw [eV] at v1 v2 v3
  have v1 : goodN m V := v1
  have vl := goodN_len m V v1
  have HS : Hid (V.length = n ∧ goodL V = true ∧ n ≤ 480 ∧ 0 < n) := ⟨by omega, goodL_iff.2 ⟨m, hm1, hm, v1⟩, by omega, by omega⟩
  have HNW : Hid (∀ p q W, Rd p q bs (initS bs) W → Rd p q bs s0 W) := fun p q W h => by rw [← hs0]; exact h
  have HNR : Hid (∀ p q W, Rr p q bs (initS bs) W → Rr p q bs s0 W) := fun p q W h => by rw [← hs0]; exact h
  have HRD : Hid (∀ p q W, Rd p q bs s0 W → Calls Try.prog 10 #[.pointer (some ⟨p, 0, none⟩), .int .i64 n] W fun e w' => ∃ g, e = .returned (.tuple #[.slice (some ⟨g, 0, none⟩) n n, .int .i64 0]) ∧ NewRow 2 W.heap.size w' (some ⟨g, 0, none⟩) V ∧ Rd p q bs s1 w' ∧ Went (fun k => k = p) W (fun k => k = p) w') := fun p q W hW => by
    have := read_any p q bs s0 m n W hW I0 (by omega) hn hm1 hm
    rw [eV] at this
    exact this
  have HRP : Hid (∀ p q W, Rr p q bs s0 W → (bs ≠ [] → q < W.heap.size) → Calls Try.prog 19 #[.pointer (some ⟨p, 0, none⟩), .int .i64 n] W fun e w' => ∃ a cap, e = .returned (.slice a n cap) ∧ NewRow 2 W.heap.size w' a V ∧ Rr p q bs s1 w' ∧ Went (fun k => k = p) W (fun k => k = p) w') := fun p q W hW hq => by
    have := rpulses_any p q bs s0 m n W hW hq I0 (by omega) hn hm1 hm
    rw [eV] at this
    exact this
  obtain ⟨T, hT⟩ : ∃ T, tellZ s1 = T := ⟨_, rfl⟩
  have v3 : s1.cnt ≤ s0.cnt + 1920 * m := v3
  have HTD : Hid (∀ p q W, Rd p q bs s1 W → Calls Try.prog 17 #[.pointer (some ⟨p, 0, none⟩)] W fun e w' => e = .returned (.int .i64 T) ∧ ∃ k, w' = W.drewN k) := fun p q W h => by
    have := tell_any p q bs s1 W h v2 (by omega)
    rw [hT] at this
    exact this
  have HTR : Hid (∀ p q W, Rr p q bs s1 W → Calls Try.prog 21 #[.pointer (some ⟨p, 0, none⟩)] W fun e w' => e = .returned (.int .i64 T) ∧ ∃ k, w' = W.drewN k) := fun p q W h => by
    have := rtell_any p q bs s1 W h v2 (by omega)
    rw [hT] at this
    exact this
  have hk : (n0 : Int) ≤ 1000 := by omega
  have hnI : (16 : Int) ≤ n := by omega
  have hnI2 : (n : Int) ≤ 480 := by omega
  have h4 : (((n : Int) % 16) != 0) = false := by rw [show (n : Int) % 16 = 0 by omega]; rfl
  have h5 : ((n : Int) < 16) = False := eq_false (by omega)
  have h6 : ((480 : Int) < n) = False := eq_false (by omega)
  clear h0 hg0 k0 hn hm1 hm hbs hs0 I0 C0 eV v1 v2 v3 vl hT
  go_enter Try.func4, Try.ntmps4
  go_wp2_with (first
    | (go_at_call 9; refine (awake_any _).mono ?_; rintro e w1 ⟨rfl, hb1⟩; replace hb := hb.trans (hb1.mono hb.size); clear hb1)
    | (go_at_call 11; go_loud (refine (new_any g0 a0 n0 cap0 bs _ (A0.out _ hb)).mono ?_; rintro e w2 ⟨pd, qd, rfl, hd, hqd, hpd, hb1⟩; replace hd := HNW.out _ _ _ hd; have hqB := Nat.le_trans hb.size hqd; have hpB := Nat.le_trans hqB hpd; replace hb := hb.trans (hb1.mono hb.size); clear hb1 hqd))
    | (go_at_call 10; go_loud (refine (HRD.out pd qd _ hd).mono ?_; rintro e w3 ⟨g3, rfl, hr3, hd3, hw3⟩; obtain ⟨hg3, hg3'⟩ := hr3.ge (by have := HS.out; omega); have hb3 := hb.trans (hw3.below (fun k hk => hk ▸ hpB) hb.size); have hpd3 := hd3.lt; have hne3 : pd < g3 := (by have := hd.lt; omega); clear hd hw3))
    | (go_at_call 18; go_loud (refine (rnew_any g0 a0 n0 cap0 bs _ (A0.out _ hb3)).mono ?_; rintro e w4 ⟨pe, rfl, hr, hpe, hb1⟩; replace hr := HNR.out _ _ _ hr; have hd4 := hd3.keep hb1; have hr4 := hr3.keep hb1; have hb4 := hb3.trans (hb1.mono hb3.size); have hge : bs ≠ [] → homeOf n0 g0 pe < w4.heap.size := (fun h => Nat.lt_of_lt_of_le (HGL.out pe h) hb4.size); have hpeB := Nat.le_trans hb3.size hpe; have hgl := HGL.out pe; generalize homeOf n0 g0 pe = ge at *; clear hb1 hd3 hr3))
    | (go_at_call 19; go_loud (refine (HRP.out pe ge _ hr hge).mono ?_; rintro e w5 ⟨a5, cap5, rfl, hr5, hre5, hw5⟩; have hd5 : Rd pd qd bs s1 w5 := hd4.went hw5 (by omega) (fun _ => by omega); have hr45 := hr4.same (w' := w5) (fun b hb => hw5.block b (by cases hb; have := hr.lt; omega) (by cases hb; omega)); have hb5 := hb4.trans (hw5.below (fun k hk => hk ▸ hpeB) hb4.size); clear hd4 hr4 hr hw5))
    | (go_at_call 20; go_loud (refine (zsame_any _ _ n n cap5 V _ (Zs.of_new hr45 HS.out.1) (Zs.of_new hr5 HS.out.1) (by have := HS.out.2.2.1; omega)).mono ?_; rintro e w6 ⟨rfl, k6, rfl⟩; have hb6 := below_drewN hb5 k6; have hd6 := hd5.drewN k6; have hre6 := hre5.drewN k6; have hr6 := hr45.drewN k6))
    | (go_at_call 17; go_loud (refine (HTD.out pd qd _ hd6).mono ?_; rintro e w7 ⟨rfl, k7, rfl⟩; have hb7 := below_drewN hb6 k7; have hre7 := hre6.drewN k7; have hr7 := hr6.drewN k7; (try rw [World.drewN_drewN] at hb7 hre7 hr7)))
    | (go_at_call 21; go_loud (refine (HTR.out pe ge _ hre7).mono ?_; rintro e w8 ⟨rfl, k8, rfl⟩; have hb8 := below_drewN hb7 k8; have hr8 := hr7.drewN k8; (try rw [World.drewN_drewN] at hb8 hr8)))
    | (go_at_call 13; go_loud (refine (pgood_any _ n n V _ (Zs.of_new hr8 HS.out.1) (Nat.le_refl _)).mono ?_; rw [HS.out.2.1]; rintro e w9 ⟨rfl, rfl⟩)))
  go_ret
  exact ⟨rfl, hb8⟩

theorem pulseReads.walk (a0 : Option Addr) (n0 cap0 : Nat) (z0 : List Int) (n : Int) (w : World) (h0 : IsRow .u8 w a0 n0 cap0 z0) (w1 : (Lit.int .i64 n).wf = true) :
    Calls Try.prog 4 #[.slice a0 n0 cap0, .int .i64 n] w fun e w' => e = .returned (.bool true) ∧ Below w.heap.size w w' := by
  have hv := bounds_i64 w1
  by_cases k0 : n0 ≤ 1000
  · obtain ⟨g0, A0, hg0⟩ := arg_of_row h0 (by omega)
    cases hn : lenB n with
    | false => exact pulseReads.noLength g0 a0 n0 cap0 _ n w A0 k0 hn hv.1 hv.2
    | true =>
      obtain ⟨h1, h2, h3⟩ := of_decide_eq_true hn
      obtain ⟨N, rfl⟩ := Int.eq_ofNat_of_zero_le (show 0 ≤ n by omega)
      exact pulseReads.anyLength g0 a0 n0 cap0 _ (N / 16) N w A0 hg0 k0 (by omega) (by omega) (by omega)
  · have hb := Below.refl w.heap.size w
    have hl := row_len h0
    clear h0
    go_enter Try.func4, Try.ntmps4
    go_wp2_with (go_at_call 9; refine (awake_any _).mono ?_; rintro e w1 ⟨rfl, hb1⟩; replace hb := hb.trans (hb1.mono hb.size); clear hb1)
    go_ret
    exact ⟨rfl, hb⟩

end Go.Proofs.Ytdbgcbbfnjoebaa
