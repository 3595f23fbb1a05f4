/- The document's own reader: symbols of a table, numbers below another. -/
import Derived.Test.YtdbgcbbfnjoebaaRsB
namespace Go.Proofs.Ytdbgcbbfnjoebaa
open Go.RowKit

set_option maxHeartbeats 1600000 in
theorem rsymbol_any (p g : Nat) (bs : List Nat) (s : St) (xo : Option Addr) (n cap : Nat) (zs : List Int) (w : World) (h' : Rr p g bs s w) (hi : Inv s) (hc : s.cnt ≤ 1000000000000000) (ht : RowAt w xo n zs) (hn : n ≤ 9223372036854775807) (ht3 : ∀ b off, xo = some ⟨b, off, none⟩ → 0 < n → b ≠ p) :
    Calls Try.prog 39 #[.pointer (some ⟨p, 0, none⟩), .slice xo n cap] w fun e w' => e = .returned (.int .i64 (symS bs zs s).1) ∧ Rr p g bs (symS bs zs s).2 w' ∧ But p w w' := by
  obtain ⟨ee, h⟩ := h'
  have HT : Hid (RowAt w xo n zs) := ht
  have HH : Hid (Rq p g bs s ee w) := h
  cases hg : goodB zs
  · have e : symS bs zs s = (0, s) := by rw [symS, hg]; rfl
    rw [e]
    clear e h ht
    have HG : Hid (goodB zs = false) := hg
    clear hg
    go_enter Try.func39, Try.ntmps39
    go_wp2_with (go_at_call 63; refine (rgood_row zs n xo cap _ HT.out hn).mono ?_; rw [HG.out]; rintro e w' ⟨rfl, rfl⟩)
    go_ret
    exact ⟨rfl, ⟨_, HH.out⟩, But.refl _ _⟩
  · obtain ⟨g1, g2, g3, g4⟩ := good_cells hg
    have hlen := ht.1
    rw [hlen] at g1 g2 g3 g4
    obtain ⟨b, off, rfl, hlt, hcc⟩ := ht.2 (by omega)
    have hbp : b ≠ p := ht3 b off rfl (by omega)
    have hk := chooseS_lt (s := s) (ft := 256) (by decide)
    obtain ⟨a1, a2, a3, a4, a5, a6⟩ := sym_out hg hk
    have HE : Hid (∃ R, symGo (chooseS s 256 : Nat) 0 256 zs = R) := ⟨_, rfl⟩
    obtain ⟨R, hR⟩ := HE.out
    have e : symS bs zs s = (R.1, takeS bs s (256 - R.2.1).toNat (256 - R.2.2).toNat 256) := by rw [symS, hg, if_pos rfl, hR]
    rw [e]
    rw [hR, hlen] at a1
    rw [hR] at a2 a3 a4 a5 a6
    have HG : Hid (goodB zs = true) := hg
    have HR : Hid (symGo (chooseS s 256 : Nat) 0 256 (zs.drop 0) = R) := hR
    have HC : Hid (∀ i, i < n → w.cell? ⟨b, off + i, none⟩ = some (.int .i64 (zs[i]?.getD 0))) := hcc
    have HL : Hid (zs.length = n) := hlen
    have H3 : Hid (zs[n - 1]?.getD 0 = 0) := g3
    have H4 : Hid (∀ i : Nat, i < n → 0 ≤ zs[i]?.getD 0 ∧ zs[i]?.getD 0 < 256) := g4
    clear hg hR hcc hlen g3 g4 e HE ht h
    go_enter Try.func39, Try.ntmps39
    go_wp2_with (first
      | (go_at_call 63; refine (rgood_row zs n _ cap _ HT.out hn).mono ?_; rw [HG.out]; rintro e w' ⟨rfl, rfl⟩)
      | (go_at_call 64; refine (rchoose_any p g bs s ee _ 256 rfl _ HH.out hi (by decide) (by decide)).mono ?_; rintro e w1 ⟨rfl, hw1, hw2⟩; have HH1 : Hid (Rq p g bs s (s.rng / 256) w1) := hw1; have HC1 : Hid (∀ i, i < n → w1.cell? ⟨b, off + i, none⟩ = some (.int .i64 (zs[i]?.getD 0))) := fun i hi => (hw2.cell (a := ⟨b, off + i, none⟩) hbp).trans (HC.out i hi); have HB1 : Hid (But p _ w1) := hw2; clear hw1 hw2))
    generalize hF : chooseS s 256 = F at *
    have HF : Hid (chooseS s 256 = F) := hF
    clear hF
    go_loop [6, 7] (fun i q => ∃ k : Nat, ∃ z : Int, k < n ∧ i = .int .i64 k ∧ q = .int .i64 z ∧ 0 ≤ z ∧ z ≤ 256 ∧ symGo F k z (zs.drop k) = R) (fun i _ => n - (intOf i).toNat)
    case atStart => exact ⟨0, 256, by omega, rfl, rfl, by decide, by decide, HR.out⟩
    case round =>
      obtain ⟨k, z, hkn, rfl, rfl, hz0, hz1, hsym⟩ := hrel
      have hck := HC1.out k hkn
      have hx := H4.out k hkn
      have HD := symGo_drop F zs k z (by rw [HL.out]; exact hkn)
      have H3k : k = n - 1 → zs[k]?.getD 0 = 0 := fun h => by rw [h]; exact H3.out
      rw [hsym] at HD
      clear hsym
      generalize zs[k]?.getD 0 = x at *
      by_cases hlt2 : (F : Int) < 256 - x
      · have HRR : Hid (R = (k, z, x)) := by rw [if_pos hlt2] at HD; exact HD
        clear HD H3k
        rw [HRR.out] at a1 a2 a3 a4 a5 a6
        simp only at a1 a2 a3 a4 a5 a6
        have b1 : (256 - z).toNat ≤ chooseS s 256 := by rw [HF.out]; omega
        have b2 : chooseS s 256 < (256 - x).toNat := by rw [HF.out]; omega
        go_wp2_with (go_at_call 65; refine (rtake_any p g bs s _ _ _ (256 - z).toNat (256 - x).toNat 256 ?_ ?_ rfl _ HH1.out hi (by decide) (by decide) b1 b2 (by omega) hc).mono ?_; (· omega); (· omega); rintro e w' ⟨rfl, hw1, hw2⟩)
        go_ret
        rw [HRR.out]
        exact ⟨rfl, ⟨_, hw1⟩, HB1.out.trans hw2⟩
      · have HRR : Hid (R = symGo F (k + 1) x (zs.drop (k + 1))) := by rw [if_neg hlt2] at HD; exact HD
        have hk1 : k + 1 < n := by
          rcases Nat.lt_or_ge (k + 1) n with h | h
          · exact h
          · have := H3k (by omega); omega
        clear HD H3k
        go_wp2
        go_round
        case rel => exact ⟨k + 1, x, hk1, by go_num, rfl, hx.1, by omega, HRR.out.symm⟩
        case measure => simp [intOf]; omega

theorem rlen_int_any (x : Nat) (y : Int) (hy : y = x) (w : World) (h1 : x ≤ 9223372036854775807) :
    Calls Try.prog 42 #[.int .i64 y] w fun e w' => e = .returned (.int .i64 (lenN x)) ∧ w' = w := by
  subst hy
  exact rlen_nat_any x w h1

set_option maxHeartbeats 1600000 in
theorem ruint_any (p g : Nat) (bs : List Nat) (s : St) (n : Int) (w : World) (h' : Rr p g bs s w) (hi : Inv s) (hc : s.cnt ≤ 1000000000000000 - 100) :
    Calls Try.prog 62 #[.pointer (some ⟨p, 0, none⟩), .int .i64 n] w fun e w' => e = .returned (.int .i64 (uintS bs n s).1) ∧ Rr p g bs (uintS bs n s).2 w' ∧ But p w w' := by
  obtain ⟨ee, h⟩ := h'
  have HH : Hid (Rq p g bs s ee w) := h
  have hby := h.bytes
  clear h
  by_cases h1 : n ≤ 1
  · have e : uintS bs n s = (0, s) := by rw [uintS, if_pos (.inl h1)]
    rw [e]
    clear e hby
    by_cases h0 : n < 1
    · go_enter Try.func62, Try.ntmps62
      go_wp2
      go_ret
      exact ⟨rfl, ⟨_, HH.out⟩, But.refl _ _⟩
    · obtain rfl : n = 1 := by omega
      go_enter Try.func62, Try.ntmps62
      go_wp2
      go_ret
      exact ⟨rfl, ⟨_, HH.out⟩, But.refl _ _⟩
  · by_cases h2 : 4294967295 < n
    · have e : uintS bs n s = (0, s) := by rw [uintS, if_pos (.inr h2)]
      rw [e]
      clear e hby
      go_enter Try.func62, Try.ntmps62
      go_wp2
      go_ret
      exact ⟨rfl, ⟨_, HH.out⟩, But.refl _ _⟩
    · obtain ⟨f, rfl⟩ := Int.eq_ofNat_of_zero_le (show 0 ≤ n by omega)
      have hn1 : ((f : Int) == 1) = false := beq_eq_false_iff_ne.2 (by omega)
      by_cases h3 : (f : Int) ≤ 256
      · have e : uintS bs f s = (chooseS s f, takeS bs s (chooseS s f) (chooseS s f + 1) f) := by rw [uintS, if_neg (by omega), if_pos h3, Int.toNat_natCast]
        rw [e]
        have hk := chooseS_lt (s := s) (ft := f) (by omega)
        clear e hby
        go_enter Try.func62, Try.ntmps62
        go_wp2_with (first
          | (go_at_call 64; refine (rchoose_any p g bs s ee _ f ?_ _ HH.out hi (by omega) (by omega)).mono ?_; (· rfl); rintro e w1 ⟨rfl, hw1, hw2⟩; have HH1 : Hid (Rq p g bs s (s.rng / f) w1) := hw1; clear hw1)
          | (go_at_call 65; refine (rtake_any p g bs s _ _ _ (chooseS s f) (chooseS s f + 1) f ?_ ?_ ?_ _ HH1.out hi (by omega) (by omega) (Nat.le_refl _) (Nat.lt_succ_self _) hk (by omega)).mono ?_; (· rfl); (· simp); (· rfl); rintro e w2 ⟨rfl, hw3, hw4⟩))
        go_ret
        exact ⟨rfl, ⟨_, hw3⟩, hw2.trans hw4⟩
      · have e : uintS bs f s = uintBig bs f s := by rw [uintS, if_neg (by omega), if_neg h3, Int.toNat_natCast]
        rw [e, uintBig_eq]
        clear e
        obtain ⟨s1, s2, s3, s4⟩ := shift_in (ft := f) (by omega) (by omega)
        have HLen : Hid ((lenN (f - 1) : Int) = (shiftN f : Int) + 8) := by
          show _ = _
          have : shiftN f = lenN (f - 1) - 8 := rfl
          omega
        have hp := two_pow_24 (shiftN f) s2
        have HPart : Hid (((f : Int) - 1) / 2 ^ shiftN f + 1 = (partN f : Nat)) := by
          show _ = _
          rw [partN, Int.natCast_add, Int.natCast_ediv, pow_cast, Int.ofNat_sub (by omega)]
          rfl
        have hq0 : 0 ≤ ((f : Int) - 1) / 2 ^ shiftN f := Int.ediv_nonneg (by omega) (by omega)
        have hq1 : ((f : Int) - 1) / 2 ^ shiftN f ≤ 4294967295 := Int.le_trans (Int.ediv_le_self _ (by omega)) (by omega)
        have hk := chooseS_lt (s := s) (ft := partN f) (by omega)
        obtain ⟨i1, t1⟩ := take_one hby hi (ft := partN f) (by omega) s4
        have hc1 := takeS_cnt bs s (chooseS s (partN f)) (chooseS s (partN f) + 1) (partN f)
        have hr := bitsN_lt bs (takeS bs s (chooseS s (partN f)) (chooseS s (partN f) + 1) (partN f)).raw (shiftN f)
        have er : (bitsS bs (shiftN f : Nat) (takeS bs s (chooseS s (partN f)) (chooseS s (partN f) + 1) (partN f))).1 < 16777216 := by
          have h24 : 2 ^ shiftN f ≤ 2 ^ 24 := Nat.pow_le_pow_right (by decide) s2
          have h25 : 2 ^ 24 = 16777216 := by decide
          rw [bitsS, if_pos (by omega), Int.toNat_natCast]
          show bitsN _ _ _ < _
          omega
        have hr2 : (bitsS bs (shiftN f : Nat) (takeS bs s (chooseS s (partN f)) (chooseS s (partN f) + 1) (partN f))).1 < 2 ^ shiftN f := by
          rw [bitsS, if_pos (by omega), Int.toNat_natCast]
          exact hr
        have HCh : Hid (∀ W, Rq p g bs s ee W → Calls Try.prog 64 #[.pointer (some ⟨p, 0, none⟩), .int .u64 (partN f)] W fun e w' => e = .returned (.int .u64 (chooseS s (partN f))) ∧ Rq p g bs s (s.rng / partN f) w' ∧ But p W w') := fun W hW =>
          rchoose_any p g bs s ee _ (partN f) rfl W hW hi (by omega) (by omega)
        have HTk : Hid (∀ W, Rq p g bs s (s.rng / partN f) W → Calls Try.prog 65 #[.pointer (some ⟨p, 0, none⟩), .int .u64 (chooseS s (partN f)), .int .u64 ((chooseS s (partN f) : Int) + 1), .int .u64 (partN f)] W fun e w' => e = .returned (.tuple #[]) ∧ Rq p g bs (takeS bs s (chooseS s (partN f)) (chooseS s (partN f) + 1) (partN f)) (s.rng / partN f) w' ∧ But p W w') := fun W hW =>
          rtake_any p g bs s _ _ _ _ (chooseS s (partN f) + 1) _ rfl (by simp) rfl W hW hi (by omega) (by omega) (Nat.le_refl _) (Nat.lt_succ_self _) hk (by omega)
        generalize takeS bs s (chooseS s (partN f)) (chooseS s (partN f) + 1) (partN f) = S1 at *
        generalize chooseS s (partN f) = k at *
        generalize partN f = F at *
        generalize shiftN f = B at *
        have ek : ((k * 2 ^ B : Nat) : Int) = (k : Int) * 2 ^ B := by rw [Int.natCast_mul, pow_cast]
        have hk2 : k * 2 ^ B ≤ 4294967296 := by
          have h24 : 2 ^ B ≤ 2 ^ 24 := Nat.pow_le_pow_right (by decide) s2
          have h25 : 2 ^ 24 = 16777216 := by decide
          have : k * 2 ^ B ≤ 256 * 16777216 := Nat.mul_le_mul (by omega) (by omega)
          omega
        have b1 : 0 ≤ (k : Int) * 2 ^ B := by rw [← ek]; exact Int.natCast_nonneg _
        have b2 : (k : Int) * 2 ^ B ≤ 4294967296 := by rw [← ek]; omega
        have EK : Hid (((k * 2 ^ B : Nat) : Int) = (k : Int) * 2 ^ B) := ek
        clear ek hk2 hr hby t1
        have HBits : Hid (∀ W, Rr p g bs S1 W → Calls Try.prog 41 #[.pointer (some ⟨p, 0, none⟩), .int .i64 B] W fun e w' => e = .returned (.int .i64 (bitsS bs B S1).1) ∧ Rr p g bs (bitsS bs B S1).2 w' ∧ But p W w') := fun W hW => rbits_any p g bs S1 B W hW i1 (by omega)
        have hor : bits .or .i64 ((k : Int) * 2 ^ B) ((bitsS bs B S1).1 : Nat) = ((k * 2 ^ B + (bitsS bs B S1).1 : Nat) : Int) := by
          rw [← EK.out, or_i64 _ _ (by have := EK.out; omega) (by omega), Nat.or_comm, or_shift _ _ _ hr2, Nat.add_comm]
        generalize bitsS bs B S1 = R at *
        have HO : Hid (bits .or .i64 ((k : Int) * 2 ^ B) (R.1 : Nat) = ((k * 2 ^ B + R.1 : Nat) : Int)) := hor
        clear hor hr2
        by_cases hlt : f ≤ k * 2 ^ B + R.1
        · rw [if_pos hlt]
          have hlt' : (f : Int) ≤ bits .or .i64 ((k : Int) * 2 ^ B) (R.1 : Nat) := by rw [HO.out]; omega
          have HF : Hid ((f : Int) - 1 = (f - 1 : Nat)) := by show _ = _; omega
          clear hlt
          go_enter Try.func62, Try.ntmps62
          go_wp2_with (first
            | (go_at_call 42; refine (rlen_int_any (f - 1) _ ?_ _ (by omega)).mono ?_; (· omega); rw [HLen.out]; rintro e w' ⟨rfl, rfl⟩)
            | (go_at_call 64; rw [HPart.out]; refine (HCh.out _ HH.out).mono ?_; rintro e w1 ⟨rfl, hw1, hw2⟩; have HH1 : Hid (Rq p g bs s (s.rng / F) w1) := hw1; clear hw1)
            | (go_at_call 65; refine (HTk.out _ HH1.out).mono ?_; rintro e w2 ⟨rfl, hw3, hw4⟩; have HH2 : Hid (Rr p g bs S1 w2) := ⟨_, hw3⟩; clear hw3)
            | (go_at_call 41; refine (HBits.out _ HH2.out).mono ?_; rintro e w3 ⟨rfl, ⟨e3, hw5⟩, hw6⟩; obtain ⟨_, _, _, _, q9, _, qf⟩ := hw5.fields))
          go_ret
          exact ⟨ret_int HF.out, ⟨_, hw5.setBad true⟩, ((hw2.trans hw4).trans hw6).set _ _⟩
        · rw [if_neg hlt]
          have hlt' : ¬ (f : Int) ≤ bits .or .i64 ((k : Int) * 2 ^ B) (R.1 : Nat) := by rw [HO.out]; omega
          clear hlt
          go_enter Try.func62, Try.ntmps62
          go_wp2_with (first
            | (go_at_call 42; refine (rlen_int_any (f - 1) _ ?_ _ (by omega)).mono ?_; (· omega); rw [HLen.out]; rintro e w' ⟨rfl, rfl⟩)
            | (go_at_call 64; rw [HPart.out]; refine (HCh.out _ HH.out).mono ?_; rintro e w1 ⟨rfl, hw1, hw2⟩; have HH1 : Hid (Rq p g bs s (s.rng / F) w1) := hw1; clear hw1)
            | (go_at_call 65; refine (HTk.out _ HH1.out).mono ?_; rintro e w2 ⟨rfl, hw3, hw4⟩; have HH2 : Hid (Rr p g bs S1 w2) := ⟨_, hw3⟩; clear hw3)
            | (go_at_call 41; refine (HBits.out _ HH2.out).mono ?_; rintro e w3 ⟨rfl, ⟨e3, hw5⟩, hw6⟩; obtain ⟨_, _, _, _, q9, _, qf⟩ := hw5.fields))
          go_ret
          exact ⟨ret_int HO.out, ⟨_, hw5⟩, (hw2.trans hw4).trans hw6⟩

end Go.Proofs.Ytdbgcbbfnjoebaa
