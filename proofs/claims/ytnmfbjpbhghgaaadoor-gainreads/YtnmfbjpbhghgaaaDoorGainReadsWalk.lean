/- Loudness, and what repeats, are read out of any bytes as the document says. -/
import Derived.Test.YtnmfbjpbhghgaaaDoorGainK
namespace Go.Proofs.YtnmfbjpbhghgaaaDoor
open Go.RowKit

set_option maxRecDepth 100000 in
set_option maxHeartbeats 6400000 in
theorem gainReads.withLag (g0 : Nat) (a0 : Option Addr) (n0 cap0 : Nat) (bs : List Nat) (was rate g v : Int) (w : World) (h0 : ArgIn w g0 a0 n0 cap0 bs) (k0 : n0 ≤ 200) (hg0 : 0 < n0 → g0 < w.heap.size) (hv : -9223372036854775808 ≤ v ∧ v ≤ 9223372036854775807) (hr : RootsAt w) (hM : 0 < mostI rate) :
    Calls Tryd.prog 4 #[.slice a0 n0 cap0, .int .i64 was, .int .i64 rate, .int .i64 g, .int .i64 v] w fun e w' => e = .returned (.bool true) ∧ Below w.heap.size w w' := by
  have hb := Below.refl w.heap.size w
  have HR : Hid (∀ W, Below w.heap.size w W → RootsAt W) := fun W hW => hr.below hW hr.size
  have A0 : Hid (∀ W, Below w.heap.size w W → ArgIn W g0 a0 n0 cap0 bs) := fun W hW => h0.keep hW
  have B0 : Hid (Bytes bs) := h0.bytes.2.1
  have HGL : Hid (∀ p, bs ≠ [] → homeOf n0 g0 p < w.heap.size) := fun p hne => by
    have hn : 0 < n0 := by
      have := h0.bytes.1
      rcases Nat.eq_zero_or_pos n0 with e | e
      · exact absurd (List.eq_nil_of_length_eq_zero (by omega)) hne
      · exact e
    rw [homeOf, if_pos hn]
    exact hg0 hn
  obtain ⟨hl0, hl1, hl2, hl3⟩ := lagsZ rate
  have hbs := h0.bytes.2.1
  obtain ⟨s0, hs0⟩ : ∃ s, initS bs = s := ⟨_, rfl⟩
  have I0 : Inv s0 := by rw [← hs0]; exact initS_inv hbs
  have C0 : s0.cnt ≤ 1000 := by rw [← hs0, init_cnt]; decide
  obtain ⟨k1, sA, SA⟩ := sym_to hbs (icdfL_len 1) I0
  obtain ⟨k2, s1, SB⟩ := uint_to hbs (n := 8) (by decide) SA.inv
  obtain ⟨k3, s2, SC⟩ := sym_to hbs (icdfL_len 2) SB.inv
  have F1 := first_to SA SB
  have F2 := next_to SC
  have I2 := SC.inv
  have r1 := SA.few
  have r2 := SB.less
  have r3 := SC.few
  have CA := SA.cnt
  have C1 := SB.cnt
  have C2 := SC.cnt
  obtain ⟨M, hMM⟩ : ∃ M, mostI rate = M := ⟨_, rfl⟩
  obtain ⟨L, hLL⟩ : ∃ L, leastI rate = L := ⟨_, rfl⟩
  rw [hMM] at hM hl1 hl2
  rw [hLL] at hl0 hl1
  obtain ⟨k4, sC, SD⟩ := uint_to hbs (n := M - L + 1) (by omega) I2
  obtain ⟨k5, s3, SE⟩ := sym_to hbs (icdfL_len 6) SD.inv
  have F3 := ltp_to SD SE
  have r4 := SD.less
  have CD := SD.cnt
  have C3 := SE.cnt
  have HLT : Hid (∀ p q W, Rd p q bs s2 W → Calls Tryd.prog 15 #[.pointer (some ⟨p, 0, none⟩), .int .i64 rate] W fun e w' => e = .returned (.agg #[.int .i64 (L + (k4 : Int)), .int .i64 (k5 : Int)]) ∧ Rd p q bs s3 w' ∧ Went (fun k => k = p) W (fun k => k = p) w') := fun p q W hW =>
    readLtp_all p q bs s2 rate W hW I2 (by omega) _ _ s3 (fun _ => by
      rw [hMM, hLL, F3.1, F3.2.1, F3.2.2]
      exact ⟨rfl, rfl, rfl⟩) (fun h => absurd (by rw [hMM]; exact hM) h)
  have HLG : Hid (∀ W, Calls Tryd.prog 10 #[.int .i64 rate] W fun e w' => e = .returned (.tuple #[.int .i64 L, .int .i64 M]) ∧ w' = W) := fun W => by have := lags_any rate W; rw [hMM, hLL] at this; exact this
  have HLR : Hid (∀ W, Calls Tryd.prog 24 #[.int .i64 rate] W fun e w' => e = .returned (.tuple #[.int .i64 L, .int .i64 M]) ∧ w' = W) := fun W => by have := rlags_any rate W; rw [hMM, hLL] at this; exact this
  have HS2 : Hid (UintTo bs (M - L + 1) s2 k4 sC) := SD
  have HS3 : Hid (SymTo bs (icdfL 6) sC k5 s3) := SE
  have HK1 : Hid (SymTo bs (icdfL 1) s0 k1 sA) := SA
  have HK2 : Hid (UintTo bs 8 sA k2 s1) := SB
  have HK3 : Hid (SymTo bs (icdfL 2) s1 k3 s2) := SC
  have HIV : Hid (Inv s0 ∧ Inv sA ∧ Inv s1 ∧ Inv s2 ∧ Inv sC ∧ Inv s3) := ⟨I0, SA.inv, SB.inv, SC.inv, SD.inv, SE.inv⟩
  have HCN : Hid (s0.cnt ≤ 1000 ∧ sA.cnt ≤ 2000 ∧ s1.cnt ≤ 3000 ∧ s2.cnt ≤ 4000 ∧ sC.cnt ≤ 5000 ∧ s3.cnt ≤ 6000) := by exact ⟨by omega, by omega, by omega, by omega, by omega, by omega⟩
  have HS0 : Hid ((∀ p q W, Rd p q bs (initS bs) W → Rd p q bs s0 W) ∧ (∀ p q W, Rr p q bs (initS bs) W → Rr p q bs s0 W)) := ⟨fun p q W h => by rw [← hs0]; exact h, fun p q W h => by rw [← hs0]; exact h⟩
  have HRF : Hid (∀ p q W, Rd p q bs s0 W → Calls Tryd.prog 21 #[.pointer (some ⟨p, 0, none⟩)] W fun e w' => e = .returned (.int .i64 (8 * (k1 : Int) + (k2 : Int))) ∧ Rd p q bs s1 w' ∧ Went (fun k => k = p) W (fun k => k = p) w') := fun p q W hW => by
    have := readFirst_any p q bs s0 W hW I0 (by omega)
    rw [F1.1, F1.2] at this
    exact this
  have HN : Hid (∀ x, nextI was x = clampI (clampI was 0 63 + x - 8) 0 63) := fun _ => rfl
  obtain ⟨NX, hNX⟩ : ∃ n, nextI was k3 = n := ⟨_, rfl⟩
  have HNX : Hid (clampI (clampI was 0 63 + (k3 : Int) - 8) 0 63 = NX) := hNX
  have HRN : Hid (∀ p q W, Rd p q bs s1 W → Calls Tryd.prog 23 #[.pointer (some ⟨p, 0, none⟩), .int .i64 was] W fun e w' => e = .returned (.int .i64 NX) ∧ Rd p q bs s2 w' ∧ Went (fun k => k = p) W (fun k => k = p) w') := fun p q W hW => by
    have := readNext_any p q bs s1 was W hW SB.inv (by omega)
    rw [F2.1, F2.2, hNX] at this
    exact this
  have cw := clampI_in was 0 63 (by decide)
  obtain ⟨Q, hQ⟩ : ∃ Q, clampI was 0 63 = Q := ⟨_, rfl⟩
  have HQ : Hid (clampI was 0 63 = Q) := hQ
  rw [hQ] at cw
  have HNQ : Hid (clampI (Q + (k3 : Int) - 8) 0 63 = NX) := by have := HNX.out; rw [hQ] at this; exact this
  obtain ⟨TL, hTL⟩ : ∃ z, tellZ s3 = z := ⟨_, rfl⟩
  have HTL : Hid (tellZ s3 = TL) := hTL
  have LG : Hid (∀ W, RootsAt W → Calls Tryd.prog 11 #[.int .i64 g] W fun e w' => e = .returned (.int .i64 (loudI g)) ∧ w' = W) := fun W hW => loud_any g W hW
  have LN : Hid (∀ W, RootsAt W → Calls Tryd.prog 28 #[.int .i64 v] W fun e w' => e = .returned (.int .i64 (nearestI v)) ∧ w' = W) := fun W hW => nearest_any v W hW
  have LGR : Hid (∀ W, Calls Tryd.prog 27 #[.int .i64 g] W fun e w' => e = .returned (.int .i64 (loudI g)) ∧ Below W.heap.size W w') := fun W => rloud_any g W
  have LNR : Hid (∀ W, Calls Tryd.prog 29 #[.int .i64 v] W fun e w' => e = .returned (.int .i64 (nearestI v)) ∧ Below W.heap.size W w') := fun W => rnearest_any v W hv
  generalize loudI g = LGv at *
  generalize nearestI v = LNv at *
  have i1 : Hid True := trivial
  have i2 : Hid True := trivial
  have c1 : Hid True := trivial
  have t1 : Hid True := trivial
  have t2 : Hid True := trivial
  have t3 : Hid True := trivial
  clear hr h0 hg0 hs0 SA SB SC CA C1 C2 I2 F1 F2 I0 C0 hNX hQ hTL HN HNX hbs hl3 hMM hLL SD SE F3 CD C3
  go_enter Tryd.func4, Tryd.ntmps4
  go_wp2_with (first
    | (go_at_call 8; refine (awake_any _ (HR.out _ hb)).mono ?_; rintro e w1 ⟨rfl, hb1⟩; replace hb := hb.trans (hb1.mono hb.size); clear hb1)
    | (go_at_call 16; go_loud (refine (new_any g0 a0 n0 cap0 bs _ (A0.out _ hb)).mono ?_; rintro e w1 ⟨pd, qd, rfl, hd, hqd, hpd, hb1⟩; replace hd := HS0.out.1 _ _ _ hd; have hqB := Nat.le_trans hb.size (Nat.le_trans hqd hpd); replace hb := hb.trans (hb1.mono hb.size); clear hb1 hqd))
    | (go_at_call 17; go_loud (refine (rnew_any g0 a0 n0 cap0 bs _ (A0.out _ hb)).mono ?_; rintro e w1 ⟨pe, rfl, hr, hpe, hb1⟩; replace hr := HS0.out.2 _ _ _ hr; have hdu : Duo w.heap.size pd qd pe (homeOf n0 g0 pe) bs s0 s0 w1 := ⟨hd.keep hb1, hr, Nat.lt_of_lt_of_le hd.lt hpe, hpd, hqB, HGL.out pe⟩; have hpeB : w.heap.size ≤ pe := Nat.le_trans hqB (Nat.le_of_lt hdu.ne); replace hb := hb.trans (hb1.mono hb.size); generalize homeOf n0 g0 pe = ge at *; clear hb1 hd hr hpe hpd))
    | (go_at_call 19; clear i1; go_loud (refine (ricdf_row 1 _).mono ?_; rintro e w1 ⟨a1, m1, cap1, rfl, ht1, hn1, hm1, hb1⟩; have hx1 := hdu.size; replace hn1 := fun b off e0 e1 => (Nat.ne_of_gt (Nat.lt_of_lt_of_le hx1 (hn1 b off e0 e1)) : b ≠ pe); replace hdu := hdu.keep hb1; replace hb := hb.trans (hb1.mono hb.size); clear hb1 hx1))
    | (go_at_call 18; clear t1; go_loud (refine (rsymbol_any pe ge bs s0 a1 m1 cap1 (icdfL 1) _ hdu.r HIV.out.1 (by have := HCN.out.1; omega) ht1 (by omega) hn1).mono ?_; rw [HK1.out.val, HK1.out.to]; rintro e w1 ⟨rfl, hr1, hw1⟩; replace hdu := hdu.refd hr1 hw1; replace hb := hb.trans (hw1.below hpeB); clear hr1 hw1 ht1 hn1 hm1))
    | (go_at_call 20; clear t2; go_loud (refine (ruint_any pe ge bs sA 8 _ hdu.r HIV.out.2.1 (by have := HCN.out.2.1; omega)).mono ?_; rw [HK2.out.val, HK2.out.to]; rintro e w1 ⟨rfl, hr1, hw1⟩; replace hdu := hdu.refd hr1 hw1; replace hb := hb.trans (hw1.below hpeB); clear hr1 hw1))
    | (go_at_call 21; go_loud (refine (HRF.out _ _ _ hdu.d).mono ?_; rintro e w1 ⟨rfl, hd1, hw1⟩; replace hdu := hdu.read hd1 hw1; replace hb := hb.trans (hw1.below (fun k hk => hk ▸ hqB) hb.size); clear hd1 hw1))
    | (go_at_call 22; clear c1; go_loud (refine (rclamp_any was 0 63 _).mono ?_; rw [HQ.out]; rintro e w9 ⟨rfl, rfl⟩))
    | (go_at_call 19; clear i2; go_loud (refine (ricdf_row 2 _).mono ?_; rintro e w1 ⟨a1, m1, cap1, rfl, ht1, hn1, hm1, hb1⟩; have hx1 := hdu.size; replace hn1 := fun b off e0 e1 => (Nat.ne_of_gt (Nat.lt_of_lt_of_le hx1 (hn1 b off e0 e1)) : b ≠ pe); replace hdu := hdu.keep hb1; replace hb := hb.trans (hb1.mono hb.size); clear hb1 hx1))
    | (go_at_call 18; clear t3; go_loud (refine (rsymbol_any pe ge bs s1 a1 m1 cap1 (icdfL 2) _ hdu.r HIV.out.2.2.1 (by have := HCN.out.2.2.1; omega) ht1 (by omega) hn1).mono ?_; rw [HK3.out.val, HK3.out.to]; rintro e w1 ⟨rfl, hr1, hw1⟩; replace hdu := hdu.refd hr1 hw1; replace hb := hb.trans (hw1.below hpeB); clear hr1 hw1 ht1 hn1 hm1))
    | (go_at_call 22; go_loud (refine (rclamp_any (Q + (k3 : Int) - 8) 0 63 _).mono ?_; rw [HNQ.out]; rintro e w9 ⟨rfl, rfl⟩))
    | (go_at_call 23; go_loud (refine (HRN.out _ _ _ hdu.d).mono ?_; rintro e w1 ⟨rfl, hd1, hw1⟩; replace hdu := hdu.read hd1 hw1; replace hb := hb.trans (hw1.below (fun k hk => hk ▸ hqB) hb.size); clear hd1 hw1; have hdB := hdu.keep ((Below.refl _ _).alloc (Nat.le_refl _) (.cells #[.int .i64 0, .int .i64 0] 32)); have hP := Pair.new w1 (.int .i64 0) (.int .i64 0); have hbB := hb.alloc hb.size (.cells #[.int .i64 0, .int .i64 0] 32)))
    | (go_at_call 24; go_loud (refine (HLR.out _).mono ?_; rintro e w9 ⟨rfl, rfl⟩))
    | (go_at_call 10; go_loud (refine (HLG.out _).mono ?_; rintro e w9 ⟨rfl, rfl⟩))
    | (go_at_call 20; go_loud (refine (ruint_any pe ge bs s2 (M - L + 1) _ hdB.r HIV.out.2.2.2.1 (by have := HCN.out.2.2.2.1; omega)).mono ?_; rw [HS2.out.val, HS2.out.to]; rintro e w2 ⟨rfl, hr1, hw1⟩; have hlb := hdu.size; have hP2 := hP.but hw1 (by omega); have hd2 := hdB.refd hr1 hw1; have hb2 := hbB.trans (hw1.below hpeB); obtain ⟨x0, x1⟩ := hP2.cells; have xf := hP2.frozen; have hd3 := hd2.set hlb 0 (.int .i64 (L + (k4 : Int))); have hP3 := hP2.set0 (.int .i64 (L + (k4 : Int))); have hb3 := hb2.setCell (p := ⟨w1.heap.size, 0, none⟩) hb.size (.int .i64 (L + (k4 : Int))); clear hr1 hw1 hdB hP hbB hd2 hb2))
    | (go_at_call 19; go_loud (refine (ricdf_row 6 _).mono ?_; rintro e w3 ⟨a6, m6, cap6, rfl, ht6, hn6, hm6, hb6⟩; have hx6 := hd3.size; replace hn6 := fun b off e0 e1 => (Nat.ne_of_gt (Nat.lt_of_lt_of_le hx6 (hn6 b off e0 e1)) : b ≠ pe); have hd4 := hd3.keep hb6; have hP4 := hP3.keep hb6; have hb4 := hb3.trans (hb6.mono hb3.size); clear hb6 hx6 hd3 hP3 hb3 x0 x1 xf hP2))
    | (go_at_call 18; go_loud (refine (rsymbol_any pe ge bs sC a6 m6 cap6 (icdfL 6) _ hd4.r HIV.out.2.2.2.2.1 (by have := HCN.out.2.2.2.2.1; omega) ht6 (by omega) hn6).mono ?_; rw [HS3.out.val, HS3.out.to]; rintro e w4 ⟨rfl, hr1, hw1⟩; have hP5 := hP4.but hw1 (by omega); have hd5 := hd4.refd hr1 hw1; have hb5 := hb4.trans (hw1.below hpeB); obtain ⟨x0, x1⟩ := hP5.cells; have xf := hP5.frozen; have hdB := hd5.set hlb 1 (.int .i64 (k5 : Int)); have hP := hP5.set1 (.int .i64 (k5 : Int)); have hbB := hb5.setCell (p := ⟨w1.heap.size, 1, none⟩) hb.size (.int .i64 (k5 : Int)); clear hr1 hw1 hd4 hP4 hb4 hd5 hb5 ht6 hn6 hm6)))
  have hlb := hdu.size
  have hne := hdu.ne
  clear hdu hb
  generalize w1.heap.size = lb at *
  replace hdB := hdB.drew
  replace hP := hP.drewN 1
  replace hbB := hbB.drew
  obtain ⟨y0, y1⟩ := hP.cells
  go_region_held3 (fun W => W.cell? ⟨lb, 0, none⟩ = some (.int .i64 (L + (k4 : Int))) ∧ W.cell? ⟨lb, 1, none⟩ = some (.int .i64 (k5 : Int))) (first | (exact ⟨by assumption, by assumption⟩) | go_keep) (first
    | (go_at_call 15; go_loud (refine (HLT.out _ _ _ hdB.d).mono ?_; rintro e w5 ⟨rfl, hd1, hw1⟩; replace hP := hP.went hw1 (by omega); obtain ⟨y0, y1⟩ := hP.cells; replace hdB := hdB.read hd1 hw1; replace hbB := hbB.trans (hw1.below (fun k hk => hk ▸ hqB) hbB.size); clear hd1 hw1))
    | (go_at_call 25; go_loud (refine (tell_any pd qd bs s3 _ hdB.d HIV.out.2.2.2.2.2 (by have := HCN.out.2.2.2.2.2; omega)).mono ?_; rw [HTL.out]; rintro e w6 ⟨rfl, k, rfl⟩; replace hP := hP.drewN k; obtain ⟨y0, y1⟩ := hP.cells; replace hdB := hdB.drewN k; replace hbB := Below.drewN hbB k))
    | (go_at_call 26; go_loud (refine (rtell_any pe ge bs s3 _ hdB.r HIV.out.2.2.2.2.2 (by have := HCN.out.2.2.2.2.2; omega)).mono ?_; rw [HTL.out]; rintro e w6 ⟨rfl, k, rfl⟩; replace hP := hP.drewN k; obtain ⟨y0, y1⟩ := hP.cells; replace hdB := hdB.drewN k; replace hbB := Below.drewN hbB k; (try rw [World.drewN_drewN] at hP hdB hbB y0 y1)))
    | (go_at_call 11; go_loud (refine (LG.out _ (HR.out _ hbB)).mono ?_; rintro e w7 ⟨rfl, rfl⟩))
    | (go_at_call 27; go_loud (refine (LGR.out _).mono ?_; rintro e w8 ⟨rfl, hb8⟩; replace hP := hP.keep hb8; obtain ⟨y0, y1⟩ := hP.cells; replace hbB := hbB.trans (hb8.mono hbB.size); clear hb8))
    | (go_at_call 28; go_loud (refine (LN.out _ (HR.out _ hbB)).mono ?_; rintro e w7 ⟨rfl, rfl⟩))
    | (go_at_call 29; go_loud (refine (LNR.out _).mono ?_; rintro e w8 ⟨rfl, hb8⟩; replace hP := hP.keep hb8; obtain ⟨y0, y1⟩ := hP.cells; replace hbB := hbB.trans (hb8.mono hbB.size); clear hb8)))
  go_wp2
  go_ret
  exact ⟨rfl, hbB⟩

set_option maxRecDepth 100000 in
set_option maxHeartbeats 6400000 in
theorem gainReads.noLag (g0 : Nat) (a0 : Option Addr) (n0 cap0 : Nat) (bs : List Nat) (was rate g v : Int) (w : World) (h0 : ArgIn w g0 a0 n0 cap0 bs) (k0 : n0 ≤ 200) (hg0 : 0 < n0 → g0 < w.heap.size) (hv : -9223372036854775808 ≤ v ∧ v ≤ 9223372036854775807) (hr : RootsAt w) (hM : ¬ 0 < mostI rate) :
    Calls Tryd.prog 4 #[.slice a0 n0 cap0, .int .i64 was, .int .i64 rate, .int .i64 g, .int .i64 v] w fun e w' => e = .returned (.bool true) ∧ Below w.heap.size w w' := by
  have hb := Below.refl w.heap.size w
  have HR : Hid (∀ W, Below w.heap.size w W → RootsAt W) := fun W hW => hr.below hW hr.size
  have A0 : Hid (∀ W, Below w.heap.size w W → ArgIn W g0 a0 n0 cap0 bs) := fun W hW => h0.keep hW
  have B0 : Hid (Bytes bs) := h0.bytes.2.1
  have HGL : Hid (∀ p, bs ≠ [] → homeOf n0 g0 p < w.heap.size) := fun p hne => by
    have hn : 0 < n0 := by
      have := h0.bytes.1
      rcases Nat.eq_zero_or_pos n0 with e | e
      · exact absurd (List.eq_nil_of_length_eq_zero (by omega)) hne
      · exact e
    rw [homeOf, if_pos hn]
    exact hg0 hn
  obtain ⟨hl0, hl1, hl2, hl3⟩ := lagsZ rate
  have hbs := h0.bytes.2.1
  obtain ⟨s0, hs0⟩ : ∃ s, initS bs = s := ⟨_, rfl⟩
  have I0 : Inv s0 := by rw [← hs0]; exact initS_inv hbs
  have C0 : s0.cnt ≤ 1000 := by rw [← hs0, init_cnt]; decide
  obtain ⟨k1, sA, SA⟩ := sym_to hbs (icdfL_len 1) I0
  obtain ⟨k2, s1, SB⟩ := uint_to hbs (n := 8) (by decide) SA.inv
  obtain ⟨k3, s2, SC⟩ := sym_to hbs (icdfL_len 2) SB.inv
  have F1 := first_to SA SB
  have F2 := next_to SC
  have I2 := SC.inv
  have r1 := SA.few
  have r2 := SB.less
  have r3 := SC.few
  have CA := SA.cnt
  have C1 := SB.cnt
  have C2 := SC.cnt
  have HLT : Hid (∀ p q W, Rd p q bs s2 W → Calls Tryd.prog 15 #[.pointer (some ⟨p, 0, none⟩), .int .i64 rate] W fun e w' => e = .returned (.agg #[.int .i64 0, .int .i64 0]) ∧ Rd p q bs s2 w' ∧ Went (fun k => k = p) W (fun k => k = p) w') := fun p q W hW =>
    readLtp_all p q bs s2 rate W hW I2 (by omega) 0 0 s2 (fun h => absurd h hM) (fun _ => ⟨rfl, rfl, rfl⟩)
  have hM0 : mostI rate = 0 := by omega
  have hL0 := hl3 hM0
  have HLG : Hid (∀ W, Calls Tryd.prog 10 #[.int .i64 rate] W fun e w' => e = .returned (.tuple #[.int .i64 0, .int .i64 0]) ∧ w' = W) := fun W => by have := lags_any rate W; rw [hM0, hL0] at this; exact this
  have HLR : Hid (∀ W, Calls Tryd.prog 24 #[.int .i64 rate] W fun e w' => e = .returned (.tuple #[.int .i64 0, .int .i64 0]) ∧ w' = W) := fun W => by have := rlags_any rate W; rw [hM0, hL0] at this; exact this
  clear hM0 hL0
  have HK1 : Hid (SymTo bs (icdfL 1) s0 k1 sA) := SA
  have HK2 : Hid (UintTo bs 8 sA k2 s1) := SB
  have HK3 : Hid (SymTo bs (icdfL 2) s1 k3 s2) := SC
  have HIV : Hid (Inv s0 ∧ Inv sA ∧ Inv s1 ∧ Inv s2) := ⟨I0, SA.inv, SB.inv, SC.inv⟩
  have HCN : Hid (s0.cnt ≤ 1000 ∧ sA.cnt ≤ 2000 ∧ s1.cnt ≤ 3000 ∧ s2.cnt ≤ 4000) := by exact ⟨by omega, by omega, by omega, by omega⟩
  have HS0 : Hid ((∀ p q W, Rd p q bs (initS bs) W → Rd p q bs s0 W) ∧ (∀ p q W, Rr p q bs (initS bs) W → Rr p q bs s0 W)) := ⟨fun p q W h => by rw [← hs0]; exact h, fun p q W h => by rw [← hs0]; exact h⟩
  have HRF : Hid (∀ p q W, Rd p q bs s0 W → Calls Tryd.prog 21 #[.pointer (some ⟨p, 0, none⟩)] W fun e w' => e = .returned (.int .i64 (8 * (k1 : Int) + (k2 : Int))) ∧ Rd p q bs s1 w' ∧ Went (fun k => k = p) W (fun k => k = p) w') := fun p q W hW => by
    have := readFirst_any p q bs s0 W hW I0 (by omega)
    rw [F1.1, F1.2] at this
    exact this
  have HN : Hid (∀ x, nextI was x = clampI (clampI was 0 63 + x - 8) 0 63) := fun _ => rfl
  obtain ⟨NX, hNX⟩ : ∃ n, nextI was k3 = n := ⟨_, rfl⟩
  have HNX : Hid (clampI (clampI was 0 63 + (k3 : Int) - 8) 0 63 = NX) := hNX
  have HRN : Hid (∀ p q W, Rd p q bs s1 W → Calls Tryd.prog 23 #[.pointer (some ⟨p, 0, none⟩), .int .i64 was] W fun e w' => e = .returned (.int .i64 NX) ∧ Rd p q bs s2 w' ∧ Went (fun k => k = p) W (fun k => k = p) w') := fun p q W hW => by
    have := readNext_any p q bs s1 was W hW SB.inv (by omega)
    rw [F2.1, F2.2, hNX] at this
    exact this
  have cw := clampI_in was 0 63 (by decide)
  obtain ⟨Q, hQ⟩ : ∃ Q, clampI was 0 63 = Q := ⟨_, rfl⟩
  have HQ : Hid (clampI was 0 63 = Q) := hQ
  rw [hQ] at cw
  have HNQ : Hid (clampI (Q + (k3 : Int) - 8) 0 63 = NX) := by have := HNX.out; rw [hQ] at this; exact this
  obtain ⟨TL, hTL⟩ : ∃ z, tellZ s2 = z := ⟨_, rfl⟩
  have HTL : Hid (tellZ s2 = TL) := hTL
  have LG : Hid (∀ W, RootsAt W → Calls Tryd.prog 11 #[.int .i64 g] W fun e w' => e = .returned (.int .i64 (loudI g)) ∧ w' = W) := fun W hW => loud_any g W hW
  have LN : Hid (∀ W, RootsAt W → Calls Tryd.prog 28 #[.int .i64 v] W fun e w' => e = .returned (.int .i64 (nearestI v)) ∧ w' = W) := fun W hW => nearest_any v W hW
  have LGR : Hid (∀ W, Calls Tryd.prog 27 #[.int .i64 g] W fun e w' => e = .returned (.int .i64 (loudI g)) ∧ Below W.heap.size W w') := fun W => rloud_any g W
  have LNR : Hid (∀ W, Calls Tryd.prog 29 #[.int .i64 v] W fun e w' => e = .returned (.int .i64 (nearestI v)) ∧ Below W.heap.size W w') := fun W => rnearest_any v W hv
  generalize loudI g = LGv at *
  generalize nearestI v = LNv at *
  have i1 : Hid True := trivial
  have i2 : Hid True := trivial
  have c1 : Hid True := trivial
  have t1 : Hid True := trivial
  have t2 : Hid True := trivial
  have t3 : Hid True := trivial
  clear hr h0 hg0 hs0 SA SB SC CA C1 C2 I2 F1 F2 I0 C0 hNX hQ hTL HN HNX hbs hl3 hl0 hl1 hl2 hM
  go_enter Tryd.func4, Tryd.ntmps4
  go_wp2_with (first
    | (go_at_call 8; refine (awake_any _ (HR.out _ hb)).mono ?_; rintro e w1 ⟨rfl, hb1⟩; replace hb := hb.trans (hb1.mono hb.size); clear hb1)
    | (go_at_call 16; go_loud (refine (new_any g0 a0 n0 cap0 bs _ (A0.out _ hb)).mono ?_; rintro e w1 ⟨pd, qd, rfl, hd, hqd, hpd, hb1⟩; replace hd := HS0.out.1 _ _ _ hd; have hqB := Nat.le_trans hb.size (Nat.le_trans hqd hpd); replace hb := hb.trans (hb1.mono hb.size); clear hb1 hqd))
    | (go_at_call 17; go_loud (refine (rnew_any g0 a0 n0 cap0 bs _ (A0.out _ hb)).mono ?_; rintro e w1 ⟨pe, rfl, hr, hpe, hb1⟩; replace hr := HS0.out.2 _ _ _ hr; have hdu : Duo w.heap.size pd qd pe (homeOf n0 g0 pe) bs s0 s0 w1 := ⟨hd.keep hb1, hr, Nat.lt_of_lt_of_le hd.lt hpe, hpd, hqB, HGL.out pe⟩; have hpeB : w.heap.size ≤ pe := Nat.le_trans hqB (Nat.le_of_lt hdu.ne); replace hb := hb.trans (hb1.mono hb.size); generalize homeOf n0 g0 pe = ge at *; clear hb1 hd hr hpe hpd))
    | (go_at_call 19; clear i1; go_loud (refine (ricdf_row 1 _).mono ?_; rintro e w1 ⟨a1, m1, cap1, rfl, ht1, hn1, hm1, hb1⟩; have hx1 := hdu.size; replace hn1 := fun b off e0 e1 => (Nat.ne_of_gt (Nat.lt_of_lt_of_le hx1 (hn1 b off e0 e1)) : b ≠ pe); replace hdu := hdu.keep hb1; replace hb := hb.trans (hb1.mono hb.size); clear hb1 hx1))
    | (go_at_call 18; clear t1; go_loud (refine (rsymbol_any pe ge bs s0 a1 m1 cap1 (icdfL 1) _ hdu.r HIV.out.1 (by have := HCN.out.1; omega) ht1 (by omega) hn1).mono ?_; rw [HK1.out.val, HK1.out.to]; rintro e w1 ⟨rfl, hr1, hw1⟩; replace hdu := hdu.refd hr1 hw1; replace hb := hb.trans (hw1.below hpeB); clear hr1 hw1 ht1 hn1 hm1))
    | (go_at_call 20; clear t2; go_loud (refine (ruint_any pe ge bs sA 8 _ hdu.r HIV.out.2.1 (by have := HCN.out.2.1; omega)).mono ?_; rw [HK2.out.val, HK2.out.to]; rintro e w1 ⟨rfl, hr1, hw1⟩; replace hdu := hdu.refd hr1 hw1; replace hb := hb.trans (hw1.below hpeB); clear hr1 hw1))
    | (go_at_call 21; go_loud (refine (HRF.out _ _ _ hdu.d).mono ?_; rintro e w1 ⟨rfl, hd1, hw1⟩; replace hdu := hdu.read hd1 hw1; replace hb := hb.trans (hw1.below (fun k hk => hk ▸ hqB) hb.size); clear hd1 hw1))
    | (go_at_call 22; clear c1; go_loud (refine (rclamp_any was 0 63 _).mono ?_; rw [HQ.out]; rintro e w9 ⟨rfl, rfl⟩))
    | (go_at_call 19; clear i2; go_loud (refine (ricdf_row 2 _).mono ?_; rintro e w1 ⟨a1, m1, cap1, rfl, ht1, hn1, hm1, hb1⟩; have hx1 := hdu.size; replace hn1 := fun b off e0 e1 => (Nat.ne_of_gt (Nat.lt_of_lt_of_le hx1 (hn1 b off e0 e1)) : b ≠ pe); replace hdu := hdu.keep hb1; replace hb := hb.trans (hb1.mono hb.size); clear hb1 hx1))
    | (go_at_call 18; clear t3; go_loud (refine (rsymbol_any pe ge bs s1 a1 m1 cap1 (icdfL 2) _ hdu.r HIV.out.2.2.1 (by have := HCN.out.2.2.1; omega) ht1 (by omega) hn1).mono ?_; rw [HK3.out.val, HK3.out.to]; rintro e w1 ⟨rfl, hr1, hw1⟩; replace hdu := hdu.refd hr1 hw1; replace hb := hb.trans (hw1.below hpeB); clear hr1 hw1 ht1 hn1 hm1))
    | (go_at_call 22; go_loud (refine (rclamp_any (Q + (k3 : Int) - 8) 0 63 _).mono ?_; rw [HNQ.out]; rintro e w9 ⟨rfl, rfl⟩))
    | (go_at_call 23; go_loud (refine (HRN.out _ _ _ hdu.d).mono ?_; rintro e w1 ⟨rfl, hd1, hw1⟩; replace hdu := hdu.read hd1 hw1; replace hb := hb.trans (hw1.below (fun k hk => hk ▸ hqB) hb.size); clear hd1 hw1; have hdB := hdu.keep ((Below.refl _ _).alloc (Nat.le_refl _) (.cells #[.int .i64 0, .int .i64 0] 32)); have hP := Pair.new w1 (.int .i64 0) (.int .i64 0); have hbB := hb.alloc hb.size (.cells #[.int .i64 0, .int .i64 0] 32)))
    | (go_at_call 24; go_loud (refine (HLR.out _).mono ?_; rintro e w9 ⟨rfl, rfl⟩))
    | (go_at_call 10; go_loud (refine (HLG.out _).mono ?_; rintro e w9 ⟨rfl, rfl⟩)))
  have hlb := hdu.size
  have hne := hdu.ne
  clear hdu hb
  generalize w1.heap.size = lb at *
  replace hdB := hdB.drew
  replace hP := hP.drewN 1
  replace hbB := hbB.drew
  obtain ⟨y0, y1⟩ := hP.cells
  go_region_held3 (fun W => W.cell? ⟨lb, 0, none⟩ = some (.int .i64 (0)) ∧ W.cell? ⟨lb, 1, none⟩ = some (.int .i64 0)) (first | (exact ⟨by assumption, by assumption⟩) | go_keep) (first
    | (go_at_call 15; go_loud (refine (HLT.out _ _ _ hdB.d).mono ?_; rintro e w5 ⟨rfl, hd1, hw1⟩; replace hP := hP.went hw1 (by omega); obtain ⟨y0, y1⟩ := hP.cells; replace hdB := hdB.read hd1 hw1; replace hbB := hbB.trans (hw1.below (fun k hk => hk ▸ hqB) hbB.size); clear hd1 hw1))
    | (go_at_call 25; go_loud (refine (tell_any pd qd bs s2 _ hdB.d HIV.out.2.2.2 (by have := HCN.out.2.2.2; omega)).mono ?_; rw [HTL.out]; rintro e w6 ⟨rfl, k, rfl⟩; replace hP := hP.drewN k; obtain ⟨y0, y1⟩ := hP.cells; replace hdB := hdB.drewN k; replace hbB := Below.drewN hbB k))
    | (go_at_call 26; go_loud (refine (rtell_any pe ge bs s2 _ hdB.r HIV.out.2.2.2 (by have := HCN.out.2.2.2; omega)).mono ?_; rw [HTL.out]; rintro e w6 ⟨rfl, k, rfl⟩; replace hP := hP.drewN k; obtain ⟨y0, y1⟩ := hP.cells; replace hdB := hdB.drewN k; replace hbB := Below.drewN hbB k; (try rw [World.drewN_drewN] at hP hdB hbB y0 y1)))
    | (go_at_call 11; go_loud (refine (LG.out _ (HR.out _ hbB)).mono ?_; rintro e w7 ⟨rfl, rfl⟩))
    | (go_at_call 27; go_loud (refine (LGR.out _).mono ?_; rintro e w8 ⟨rfl, hb8⟩; replace hP := hP.keep hb8; obtain ⟨y0, y1⟩ := hP.cells; replace hbB := hbB.trans (hb8.mono hbB.size); clear hb8))
    | (go_at_call 28; go_loud (refine (LN.out _ (HR.out _ hbB)).mono ?_; rintro e w7 ⟨rfl, rfl⟩))
    | (go_at_call 29; go_loud (refine (LNR.out _).mono ?_; rintro e w8 ⟨rfl, hb8⟩; replace hP := hP.keep hb8; obtain ⟨y0, y1⟩ := hP.cells; replace hbB := hbB.trans (hb8.mono hbB.size); clear hb8)))
  go_wp2
  go_ret
  exact ⟨rfl, hbB⟩

end Go.Proofs.YtnmfbjpbhghgaaaDoor
