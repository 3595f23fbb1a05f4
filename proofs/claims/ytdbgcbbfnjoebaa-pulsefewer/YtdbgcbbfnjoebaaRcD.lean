/- The program's reader: symbols of a table, numbers below another. -/
import Derived.Test.YtdbgcbbfnjoebaaRcC
namespace Go.Proofs.Ytdbgcbbfnjoebaa
open Go.RowKit

/-! ### Symbols -/
theorem falls_lt : ∀ (l : List Int) (p : Int), falls p l = true → ∀ x ∈ l, x < p
  | [], _, _, _, hx => by cases hx
  | y :: l, p, h, x, hx => by
    unfold falls at h
    split at h
    · cases h
    · rcases List.mem_cons.1 hx with rfl | hx
      · omega
      · have := falls_lt l y h x hx
        omega

/-- What is known of a table that is good. -/
theorem good_cells {t : List Int} (h : goodB t = true) : 1 ≤ t.length ∧ t.length ≤ 256 ∧ t[t.length - 1]?.getD 0 = 0 ∧ ∀ i : Nat, i < t.length → 0 ≤ t[i]?.getD 0 ∧ t[i]?.getD 0 < 256 := by
  obtain ⟨h1, h2, h3, n, hn, hl⟩ := good_out h
  refine ⟨h1, h2, ?_, fun i hi => ?_⟩
  · rw [show t.length - 1 = n by omega, hn]; rfl
  · rw [List.getElem?_eq_getElem hi]
    exact ⟨falls_last_nonneg t 256 h3 ⟨n, hn, hl⟩ _ (List.getElem_mem hi), falls_lt t 256 h3 _ (List.getElem_mem hi)⟩

theorem symGo_drop (f : Int) (t : List Int) (k : Nat) (q : Int) (h : k < t.length) :
    symGo f k q (t.drop k) = if f < 256 - t[k]?.getD 0 then (k, q, t[k]?.getD 0) else symGo f (k + 1) (t[k]?.getD 0) (t.drop (k + 1)) := by
  rw [List.drop_eq_getElem_cons h, List.getElem?_eq_getElem h]; rfl

/-- A slice of whole numbers that lies somewhere. -/
def RowAt (w : World) (xo : Option Addr) (n : Nat) (zs : List Int) : Prop :=
  zs.length = n ∧ (0 < n → ∃ b off, xo = some ⟨b, off, none⟩ ∧ b < w.heap.size ∧ ∀ i, i < n → w.cell? ⟨b, off + i, none⟩ = some (.int .i64 (zs[i]?.getD 0)))

theorem RowAt.of_new {e : TypeId} {B : Nat} {w : World} {a : Option Addr} {zs : List Int} (h : NewRow e B w a zs) : RowAt w a zs.length zs :=
  ⟨rfl, fun h0 => by
    obtain ⟨b, ha, _, hlt, hc⟩ := h.cells h0
    exact ⟨b, 0, ha, hlt, fun i hi => by rw [Nat.zero_add]; exact hc i hi⟩⟩

theorem RowAt.keep {w w' : World} {xo : Option Addr} {n : Nat} {zs : List Int} (h : RowAt w xo n zs) {B : Nat} (hb : Below B w w') (hB : w.heap.size ≤ B) : RowAt w' xo n zs := by
  refine ⟨h.1, fun h0 => ?_⟩
  obtain ⟨b, off, ha, hlt, hc⟩ := h.2 h0
  exact ⟨b, off, ha, Nat.lt_of_lt_of_le hlt hb.size, fun i hi => (hb.cell (p := ⟨b, off + i, none⟩) (Nat.lt_of_lt_of_le hlt hB)).trans (hc i hi)⟩

theorem RowAt.drewN {w : World} {xo : Option Addr} {n : Nat} {zs : List Int} (h : RowAt w xo n zs) (k : Nat) : RowAt (w.drewN k) xo n zs := h

theorem good_row (zs : List Int) (n : Nat) (xo : Option Addr) (cap : Nat) (w : World) (h : RowAt w xo n zs) (hn : n ≤ 9223372036854775807) :
    Calls Try.prog 67 #[.slice xo n cap] w fun e w' => e = .returned (.bool (goodB zs)) ∧ w' = w := by
  by_cases h0 : n = 0
  · subst h0
    have e1 : zs = [] := List.eq_nil_of_length_eq_zero h.1
    have e2 : goodB zs = false := by rw [e1]; rfl
    rw [e2]
    exact good_none xo cap w
  · obtain ⟨b, off, rfl, _, hcc⟩ := h.2 (by omega)
    exact good_any zs b off n cap w h.1 (by omega) hn hcc

theorem rgood_row (zs : List Int) (n : Nat) (xo : Option Addr) (cap : Nat) (w : World) (h : RowAt w xo n zs) (hn : n ≤ 9223372036854775807) :
    Calls Try.prog 63 #[.slice xo n cap] w fun e w' => e = .returned (.bool (goodB zs)) ∧ w' = w := by
  by_cases h0 : n = 0
  · subst h0
    have e1 : zs = [] := List.eq_nil_of_length_eq_zero h.1
    have e2 : goodB zs = false := by rw [e1]; rfl
    rw [e2]
    exact rgood_none xo cap w
  · obtain ⟨b, off, rfl, _, hcc⟩ := h.2 (by omega)
    exact rgood_any zs b off n cap w h.1 (by omega) hn hcc

set_option maxHeartbeats 1600000 in
theorem symbol_any (p g : Nat) (bs : List Nat) (s : St) (xo : Option Addr) (n cap : Nat) (zs : List Int) (w : World) (h : Rd p g bs s w) (hi : Inv s) (hc : s.cnt ≤ 1000000000000000) (ht : RowAt w xo n zs) (hn : n ≤ 9223372036854775807) :
    Calls Try.prog 48 #[.pointer (some ⟨p, 0, none⟩), .slice xo n cap] w fun e w' => e = .returned (.int .i64 (symS bs zs s).1) ∧ Rd p g bs (symS bs zs s).2 w' ∧ But p w w' := by
  have HT : Hid (RowAt w xo n zs) := ht
  have HH : Hid (Rd p g bs s w) := h
  cases hg : goodB zs
  · have e : symS bs zs s = (0, s) := by rw [symS, hg]; rfl
    rw [e]
    clear e h ht
    have HG : Hid (goodB zs = false) := hg
    clear hg
    go_enter Try.func48, Try.ntmps48
    go_wp2_with (go_at_call 67; refine (good_row zs n xo cap _ HT.out hn).mono ?_; rw [HG.out]; rintro e w' ⟨rfl, rfl⟩)
    go_ret
    exact ⟨rfl, HH.out, But.refl _ _⟩
  · obtain ⟨g1, g2, g3, g4⟩ := good_cells hg
    have hlen := ht.1
    rw [hlen] at g1 g2 g3 g4
    obtain ⟨b, off, rfl, hlt, hcc⟩ := ht.2 (by omega)
    have hk := chooseS_lt (s := s) (ft := 256) (by decide)
    obtain ⟨a1, a2, a3, a4, a5, a6⟩ := sym_out hg hk
    have HE : Hid (∃ R, symGo (chooseS s 256 : Nat) 0 256 zs = R) := ⟨_, rfl⟩
    obtain ⟨R, hR⟩ := HE.out
    have e : symS bs zs s = (R.1, takeS bs s (256 - R.2.1).toNat (256 - R.2.2).toNat 256) := by rw [symS, hg, if_pos rfl, hR]
    rw [e]
    rw [hR, hlen] at a1
    rw [hR] at a2 a3 a4 a5 a6
    have HG : Hid (goodB zs = true) := hg
    have HR : Hid (symGo (chooseS s 256 : Nat) 0 256 (zs.drop 0) = R) := hR
    have HC : Hid (∀ i, i < n → w.cell? ⟨b, off + i, none⟩ = some (.int .i64 (zs[i]?.getD 0))) := hcc
    have HL : Hid (zs.length = n) := hlen
    have H3 : Hid (zs[n - 1]?.getD 0 = 0) := g3
    have H4 : Hid (∀ i : Nat, i < n → 0 ≤ zs[i]?.getD 0 ∧ zs[i]?.getD 0 < 256) := g4
    clear hg hR hcc hlen g3 g4 e HE ht h
    go_enter Try.func48, Try.ntmps48
    go_wp2_with (first
      | (go_at_call 67; refine (good_row zs n _ cap _ HT.out hn).mono ?_; rw [HG.out]; rintro e w' ⟨rfl, rfl⟩)
      | (go_at_call 68; refine (choose_any p g bs s _ 256 rfl _ HH.out hi (by decide) (by decide)).mono ?_; rintro e w' ⟨rfl, d, rfl⟩))
    generalize hF : chooseS s 256 = F at *
    have HF : Hid (chooseS s 256 = F) := hF
    clear hF
    go_loop [6, 7] (fun i q => ∃ k : Nat, ∃ z : Int, k < n ∧ i = .int .i64 k ∧ q = .int .i64 (256 - z) ∧ symGo F k z (zs.drop k) = R) (fun i _ => n - (intOf i).toNat)
    case atStart => exact ⟨0, 256, by omega, rfl, rfl, HR.out⟩
    case round =>
      obtain ⟨k, z, hkn, rfl, rfl, hsym⟩ := hrel
      have hck := HC.out k hkn
      have hx := H4.out k hkn
      have HD := symGo_drop F zs k z (by rw [HL.out]; exact hkn)
      have H3k : k = n - 1 → zs[k]?.getD 0 = 0 := fun h => by rw [h]; exact H3.out
      rw [hsym] at HD
      clear hsym
      generalize zs[k]?.getD 0 = x at *
      by_cases hlt2 : (F : Int) < 256 - x
      · have HRR : Hid (R = (k, z, x)) := by rw [if_pos hlt2] at HD; exact HD
        clear HD H3k
        rw [HRR.out] at a1 a2 a3 a4 a5 a6
        simp only at a1 a2 a3 a4 a5 a6
        have b1 : (256 - z).toNat ≤ chooseS s 256 := by rw [HF.out]; omega
        have b2 : chooseS s 256 < (256 - x).toNat := by rw [HF.out]; omega
        go_wp2_with (go_at_call 69; refine (take_any p g bs s _ _ _ (256 - z).toNat (256 - x).toNat 256 ?_ ?_ rfl _ (HH.out.drewN _) hi (by decide) (by decide) b1 b2 (by omega) hc).mono ?_; (· omega); (· omega); rintro e w' ⟨rfl, hw1, hw2⟩)
        go_ret
        rw [HRR.out]
        exact ⟨rfl, hw1, ((But.refl p _).drewN _).trans hw2⟩
      · have HRR : Hid (R = symGo F (k + 1) x (zs.drop (k + 1))) := by rw [if_neg hlt2] at HD; exact HD
        have hk1 : k + 1 < n := by
          rcases Nat.lt_or_ge (k + 1) n with h | h
          · exact h
          · have := H3k (by omega); omega
        clear HD H3k
        go_wp2
        go_round
        case rel => exact ⟨k + 1, x, hk1, by go_num, rfl, HRR.out.symm⟩
        case measure => simp [intOf]; omega

/-! ### Numbers below another -/
theorem len_int_any (x : Nat) (y : Int) (hy : y = x) (w : World) (h1 : x ≤ 9223372036854775807) :
    Calls Try.prog 32 #[.int .u64 y] w fun e w' => e = .returned (.int .i64 (lenN x)) ∧ w' = w := by
  subst hy
  exact len_nat_any x w h1

theorem onS_cnt3 (b : List Nat) (s : St) : (onS b 3 s).cnt ≤ s.cnt + 24 := (onS_cnt b 3 s).2
theorem takeS_cnt (b : List Nat) (s : St) (fl fh ft : Nat) : (takeS b s fl fh ft).cnt ≤ s.cnt + 24 := onS_cnt3 b (narrowS s fl fh ft)

theorem uintBig_eq (b : List Nat) (ft : Nat) (s : St) : uintBig b ft s =
    if ft ≤ chooseS s (partN ft) * 2 ^ shiftN ft + (bitsS b (shiftN ft : Nat) (takeS b s (chooseS s (partN ft)) (chooseS s (partN ft) + 1) (partN ft))).1
    then (ft - 1, { (bitsS b (shiftN ft : Nat) (takeS b s (chooseS s (partN ft)) (chooseS s (partN ft) + 1) (partN ft))).2 with bad := true })
    else (chooseS s (partN ft) * 2 ^ shiftN ft + (bitsS b (shiftN ft : Nat) (takeS b s (chooseS s (partN ft)) (chooseS s (partN ft) + 1) (partN ft))).1,
      (bitsS b (shiftN ft : Nat) (takeS b s (chooseS s (partN ft)) (chooseS s (partN ft) + 1) (partN ft))).2) := rfl

set_option maxHeartbeats 1600000 in
theorem uint_any (p g : Nat) (bs : List Nat) (s : St) (n : Int) (w : World) (h : Rd p g bs s w) (hi : Inv s) (hc : s.cnt ≤ 1000000000000000 - 100) :
    Calls Try.prog 66 #[.pointer (some ⟨p, 0, none⟩), .int .i64 n] w fun e w' => e = .returned (.int .i64 (uintS bs n s).1) ∧ Rd p g bs (uintS bs n s).2 w' ∧ But p w w' := by
  have HH : Hid (Rd p g bs s w) := h
  have hby := h.bytes
  clear h
  by_cases h1 : n ≤ 1
  · have e : uintS bs n s = (0, s) := by rw [uintS, if_pos (.inl h1)]
    rw [e]
    clear e hby
    go_enter Try.func66, Try.ntmps66
    go_wp2
    go_ret
    exact ⟨rfl, HH.out, But.refl _ _⟩
  · by_cases h2 : 4294967295 < n
    · have e : uintS bs n s = (0, s) := by rw [uintS, if_pos (.inr h2)]
      rw [e]
      clear e hby
      go_enter Try.func66, Try.ntmps66
      go_wp2
      go_ret
      exact ⟨rfl, HH.out, But.refl _ _⟩
    · obtain ⟨f, rfl⟩ := Int.eq_ofNat_of_zero_le (show 0 ≤ n by omega)
      by_cases h3 : (f : Int) ≤ 256
      · have e : uintS bs f s = (chooseS s f, takeS bs s (chooseS s f) (chooseS s f + 1) f) := by rw [uintS, if_neg (by omega), if_pos h3, Int.toNat_natCast]
        rw [e]
        clear e hby
        go_enter Try.func66, Try.ntmps66
        go_wp2_with (go_at_call 76; refine (whole_any p g bs s _ f rfl _ HH.out hi (by omega) (by omega) (by omega)).mono ?_; rintro e w' ⟨rfl, hw1, hw2⟩)
        go_ret
        exact ⟨rfl, hw1, hw2⟩
      · have e : uintS bs f s = uintBig bs f s := by rw [uintS, if_neg (by omega), if_neg h3, Int.toNat_natCast]
        rw [e, uintBig_eq]
        clear e
        obtain ⟨s1, s2, s3, s4⟩ := shift_in (ft := f) (by omega) (by omega)
        have HLen : Hid ((lenN (f - 1) : Int) = (shiftN f : Int) + 8) := by
          show _ = _
          have : shiftN f = lenN (f - 1) - 8 := rfl
          omega
        have hp := two_pow_24 (shiftN f) s2
        have HPart : Hid (((f : Int) - 1) / 2 ^ shiftN f + 1 = (partN f : Nat)) := by
          show _ = _
          rw [partN, Int.natCast_add, Int.natCast_ediv, pow_cast, Int.ofNat_sub (by omega)]
          rfl
        have hq0 : 0 ≤ ((f : Int) - 1) / 2 ^ shiftN f := Int.ediv_nonneg (by omega) (by omega)
        have hq1 : ((f : Int) - 1) / 2 ^ shiftN f ≤ 4294967295 := Int.le_trans (Int.ediv_le_self _ (by omega)) (by omega)
        have hk := chooseS_lt (s := s) (ft := partN f) (by omega)
        obtain ⟨i1, t1⟩ := take_one hby hi (ft := partN f) (by omega) s4
        have hc1 := takeS_cnt bs s (chooseS s (partN f)) (chooseS s (partN f) + 1) (partN f)
        have hr := bitsN_lt bs (takeS bs s (chooseS s (partN f)) (chooseS s (partN f) + 1) (partN f)).raw (shiftN f)
        have er : (bitsS bs (shiftN f : Nat) (takeS bs s (chooseS s (partN f)) (chooseS s (partN f) + 1) (partN f))).1 < 16777216 := by
          have h24 : 2 ^ shiftN f ≤ 2 ^ 24 := Nat.pow_le_pow_right (by decide) s2
          have h25 : 2 ^ 24 = 16777216 := by decide
          rw [bitsS, if_pos (by omega), Int.toNat_natCast]
          show bitsN _ _ _ < _
          omega
        have HW : Hid (∀ W, Rd p g bs s W → Calls Try.prog 76 #[.pointer (some ⟨p, 0, none⟩), .int .i64 (partN f)] W fun e w' => e = .returned (.int .i64 (chooseS s (partN f))) ∧ Rd p g bs (takeS bs s (chooseS s (partN f)) (chooseS s (partN f) + 1) (partN f)) w' ∧ But p W w') := fun W hW =>
          whole_any p g bs s _ (partN f) rfl W hW hi (by omega) (by omega) (by omega)
        generalize takeS bs s (chooseS s (partN f)) (chooseS s (partN f) + 1) (partN f) = S1 at *
        generalize chooseS s (partN f) = k at *
        generalize partN f = F at *
        generalize shiftN f = B at *
        have ek : ((k * 2 ^ B : Nat) : Int) = (k : Int) * 2 ^ B := by rw [Int.natCast_mul, pow_cast]
        have hk2 : k * 2 ^ B ≤ 4294967296 := by
          have h24 : 2 ^ B ≤ 2 ^ 24 := Nat.pow_le_pow_right (by decide) s2
          have h25 : 2 ^ 24 = 16777216 := by decide
          have : k * 2 ^ B ≤ 256 * 16777216 := Nat.mul_le_mul (by omega) (by omega)
          omega
        have b1 : 0 ≤ (k : Int) * 2 ^ B := by rw [← ek]; exact Int.natCast_nonneg _
        have b2 : (k : Int) * 2 ^ B ≤ 4294967296 := by rw [← ek]; omega
        have EK : Hid (((k * 2 ^ B : Nat) : Int) = (k : Int) * 2 ^ B) := ek
        clear ek hk2 hr hby t1
        have HBits : Hid (∀ W, Rd p g bs S1 W → Calls Try.prog 50 #[.pointer (some ⟨p, 0, none⟩), .int .i64 B] W fun e w' => e = .returned (.int .i64 (bitsS bs B S1).1) ∧ Rd p g bs (bitsS bs B S1).2 w' ∧ But p W w') := fun W hW => bits_any p g bs S1 B W hW i1 (by omega)
        generalize bitsS bs B S1 = R at *
        by_cases hlt : f ≤ k * 2 ^ B + R.1
        · rw [if_pos hlt]
          have hlt' : (f : Int) ≤ (k : Int) * 2 ^ B + R.1 := by rw [← EK.out]; omega
          have HF : Hid ((f : Int) - 1 = (f - 1 : Nat)) := by show _ = _; omega
          clear hlt
          go_enter Try.func66, Try.ntmps66
          go_wp2_with (first
            | (go_at_call 32; refine (len_int_any (f - 1) _ ?_ _ (by omega)).mono ?_; (· omega); rw [HLen.out]; rintro e w' ⟨rfl, rfl⟩)
            | (go_at_call 76; rw [HPart.out]; refine (HW.out _ HH.out).mono ?_; rintro e w' ⟨rfl, hw1, hw2⟩))
          go_region_with (first | (go_at_call 50; refine (HBits.out _ ?_).mono ?_; (· exact hw1); rintro e w3 ⟨rfl, hw3, hw4⟩))
          all_goals
            obtain ⟨_, _, _, _, _, q9, qf⟩ := hw3.fields
            go_wp2
            go_ret
            exact ⟨ret_int HF.out, hw3.setBad true, (hw2.drew.trans hw4).set _ _⟩
        · rw [if_neg hlt]
          have hlt' : ¬ (f : Int) ≤ (k : Int) * 2 ^ B + R.1 := by rw [← EK.out]; omega
          clear hlt
          go_enter Try.func66, Try.ntmps66
          go_wp2_with (first
            | (go_at_call 32; refine (len_int_any (f - 1) _ ?_ _ (by omega)).mono ?_; (· omega); rw [HLen.out]; rintro e w' ⟨rfl, rfl⟩)
            | (go_at_call 76; rw [HPart.out]; refine (HW.out _ HH.out).mono ?_; rintro e w' ⟨rfl, hw1, hw2⟩))
          go_region_with (first | (go_at_call 50; refine (HBits.out _ ?_).mono ?_; (· exact hw1); rintro e w3 ⟨rfl, hw3, hw4⟩))
          all_goals
            go_wp2
            go_ret
            exact ⟨ret_int (by rw [Int.natCast_add, EK.out]), hw3, hw2.drew.trans hw4⟩

end Go.Proofs.Ytdbgcbbfnjoebaa
