/- The first table's nearest row, as the program's call has it; frequencies between two, as the document's own answer has it. -/
import Derived.Test.YtpppnagodlpnjaaLsfI
namespace Go.Proofs.Ytpppnagodlpnjaa
open Go.RowKit

theorem lsfL_in {order i : Int} (h : order = 10 ∨ order = 16) (h0 : 0 ≤ i) (h1 : i ≤ 15) : ∀ x ∈ lsfL order i, 0 ≤ x ∧ x ≤ 32768 := fun x hx => by
  have h2 := lsf_apart h h0 h1
  have := apart_low _ 0 h2.1 x hx
  have := h2.2 x hx
  omega
theorem far_is {order : Int} {want : List Int} {n i : Nat} (h : order = 10 ∨ order = 16) (hn : (n : Int) = order) (hi : i < 16) : sqN (atN (clL want)) (atN (lsfL order (i : Int))) n = farZ order want i := by
  have hnn : order.toNat = n := by omega
  unfold farZ
  rw [sqN_turn, hnn]
  exact sqN_congr n fun k hk => ⟨lsfL_at h (by omega) (by omega) (by omega), clL_want k⟩

set_option maxHeartbeats 1000000 in
theorem nearest_any (want : List Int) (n : Nat) (a : Option Addr) (cap : Nat) (w : World) (h16 : n = 10 ∨ n = 16) (hz : Zs w a n (clL want)) :
    Calls Try.prog 28 #[.slice a n cap] w fun e w' => e = .returned (.int .i64 (oneZ n want : Nat)) ∧ Below w.heap.size w w' := by
  have hI : (n : Int) = 10 ∨ (n : Int) = 16 := by omega
  have HZ : Hid (∀ W, Below w.heap.size w W → Zs W a n (clL want)) := fun W hb => hz.keep hb
  have HL : Hid (∀ i : Nat, i < 16 → ∀ W, Calls Try.prog 23 #[.int .i64 (n : Int), .int .i64 (i : Int)] W fun e w' => ∃ a' c', e = .returned (.slice a' n c') ∧ Zs w' a' n (lsfL n i) ∧ Below W.heap.size W w') := fun i hi W => by
    have hl : (lsfL (n : Int) (i : Int)).length = n := lsfL_len' hI (by omega) (by omega) rfl
    refine (lsf_any n i W).mono ?_
    rintro e w' ⟨a', c', rfl, hn, hb⟩
    rw [hl]
    exact ⟨a', c', rfl, Zs.of_new hn hl, hb⟩
  have HD : Hid (∀ i : Nat, i < 16 → ∀ W a1 c1 a2 c2, Zs W a1 n (clL want) → Zs W a2 n (lsfL n i) → Calls Try.prog 35 #[.slice a1 n c1, .slice a2 n c2] W fun e w' => e = .returned (.int .i64 (farZ n want i)) ∧ Below W.heap.size W w') := fun i hi W a1 c1 a2 c2 h1 h2 => by
    refine (distance_any a1 a2 n c1 c2 _ _ W h1 h2 (by omega) clL_in (lsfL_in hI (by omega) (by omega))).mono ?_
    rintro e w' ⟨rfl, k, rfl⟩
    exact ⟨by rw [far_is hI rfl hi], below_drewN (Below.refl _ _) k⟩
  have HF : Hid (∀ m, bestN (farZ n want) (m + 1) = if farZ n want m < farZ n want (bestN (farZ n want) m) then m else bestN (farZ n want) m) := fun m => rfl
  have HO : Hid (oneZ n want = bestN (farZ n want) 16) := rfl
  have HB1 : Hid (bestN (farZ n want) 1 = 0) := Nat.lt_one_iff.1 (bestN_lt (farZ n want) 0)
  clear hz
  generalize farZ (n : Int) want = f at *
  rw [HO.out]
  clear HO
  have hb := Below.refl w.heap.size w
  have y1 : Hid True := trivial
  go_enter Try.func28, Try.ntmps28
  go_wp2_with (first
    | (go_at_call 23; clear y1; refine (HL.out 0 (by decide) _).mono ?_; rintro e w1 ⟨a1, c1, rfl, hz1, hb1⟩; replace hb := hb.trans (hb1.mono hb.size))
    | (go_at_call 35; refine (HD.out 0 (by decide) _ _ _ _ _ (HZ.out _ hb) hz1).mono ?_; rintro e w2 ⟨rfl, hb2⟩; replace hb := hb.trans (hb2.mono hb.size)))
  clear hz1 hb1 hb2
  go_loopw [3, 4, 5, 6] (fun best least one _ W => ∃ m b : Nat, ∃ q : Int, 1 ≤ m ∧ m ≤ 16 ∧ one = .int .i64 m ∧ best = .int .i64 b ∧ least = .int .i64 q ∧ Hid (b = bestN f m ∧ q = f b) ∧ Below w.heap.size w W) (fun _ _ one _ _ => 16 - (intOf one).toNat)
  case atStart => exact ⟨1, 0, f 0, by decide, by decide, rfl, rfl, rfl, ⟨HB1.out.symm, rfl⟩, hb⟩
  case round =>
    clear hb
    obtain ⟨m, b, q, hm1, hm, rfl, rfl, rfl, HQ, hb⟩ := hrel
    by_cases hlt : m < 16
    · have hs := HF.out m
      rw [← HQ.out.1, ← HQ.out.2] at hs
      by_cases hf : f m < q
      · have HQ2 : Hid (m = bestN f (m + 1) ∧ f m = f m) := ⟨by rw [hs, if_pos hf], rfl⟩
        have HFM : Hid (∃ z, f m = z ∧ z < q) := ⟨_, rfl, hf⟩
        obtain ⟨z, hz, hzq⟩ := HFM.out
        have HZm : Hid (f m = z) := hz
        clear hs HF HFM hz hf
        go_wp2_with (first
          | (go_at_call 23; refine (HL.out m hlt _).mono ?_; rintro e w3 ⟨a3, c3, rfl, hz3, hb3⟩; replace hb := hb.trans (hb3.mono hb.size); clear hb3)
          | (go_at_call 35; refine (HD.out m hlt _ _ _ _ _ (HZ.out _ hb) hz3).mono ?_; rw [HZm.out]; rintro e w4 ⟨rfl, hb4⟩; replace hb := hb.trans (hb4.mono hb.size); clear hb4))
        go_roundw
        case rel => exact ⟨m + 1, m, z, by omega, by omega, by go_num, rfl, rfl, ⟨HQ2.out.1, HZm.out.symm⟩, hb⟩
        case measure => simp [intOf]; omega
      · have HQ2 : Hid (b = bestN f (m + 1)) := by show _ = _; rw [hs, if_neg hf]
        have HFM : Hid (∃ z, f m = z ∧ ¬ z < q) := ⟨_, rfl, hf⟩
        obtain ⟨z, hz, hzq⟩ := HFM.out
        have HZm : Hid (f m = z) := hz
        clear hs HF HFM hz hf
        go_wp2_with (first
          | (go_at_call 23; refine (HL.out m hlt _).mono ?_; rintro e w3 ⟨a3, c3, rfl, hz3, hb3⟩; replace hb := hb.trans (hb3.mono hb.size); clear hb3)
          | (go_at_call 35; refine (HD.out m hlt _ _ _ _ _ (HZ.out _ hb) hz3).mono ?_; rw [HZm.out]; rintro e w4 ⟨rfl, hb4⟩; replace hb := hb.trans (hb4.mono hb.size); clear hb4))
        go_roundw
        case rel => exact ⟨m + 1, b, q, by omega, by omega, by go_num, rfl, rfl, ⟨HQ2.out, HQ.out.2⟩, hb⟩
        case measure => simp [intOf]; omega
    · have hm' : m = 16 := by omega
      subst hm'
      go_wp2
      go_ret
      exact ⟨ret_int (by rw [HQ.out.1]), hb⟩

set_option maxRecDepth 100000 in
set_option maxHeartbeats 2000000 in
theorem rbetween_any (a1 a2 : Option Addr) (n c1 c2 : Nat) (xs ys : List Int) (v : Int) (w : World) (h1 : Zs w a1 n xs) (h2 : Zs w a2 n ys) (hn : n ≤ 64) (h0 : 0 ≤ v) (h4 : v ≤ 4) :
    Calls Try.prog 19 #[.slice a1 n c1, .slice a2 n c2, .int .i64 v] w fun e w' => ∃ a' c', e = .returned (.slice a' n c') ∧ NewRow 2 w.heap.size w' a' (betweenL xs ys v n) ∧ Below w.heap.size w w' := by
  have l1 := h1.len
  have l2 := h2.len
  have HX : Hid (Zs w a1 n xs) := h1
  have HY : Hid (∀ W, Below w.heap.size w W → Zs W a2 n ys) := fun W hb => h2.keep hb
  have HL0 : Hid ((clL xs).length = n) := by show _ = _; rw [clL_len, l1]
  have HLY : Hid ((clL ys).length = n) := by show _ = _; rw [clL_len, l2]
  have HL1 : Hid ((betweenL xs ys v n).length = n) := betweenL_len _ _ _ _
  have HA : Hid (∀ k, k < n → (betweenL xs ys v n)[k]?.getD 0 = (clL xs)[k]?.getD 0 + ((clL ys)[k]?.getD 0 - (clL xs)[k]?.getD 0) * v / 4) := fun k hk => by rw [betweenL_at hk, clL_at (by omega), clL_at (by omega)]
  have HI : Hid (∀ k, k < n → (0 ≤ (clL xs)[k]?.getD 0 ∧ (clL xs)[k]?.getD 0 ≤ 32768) ∧ (0 ≤ (clL ys)[k]?.getD 0 ∧ (clL ys)[k]?.getD 0 ≤ 32768)) := fun k hk => by rw [clL_at (by omega), clL_at (by omega)]; exact ⟨clZ_in _, clZ_in _⟩
  clear h1 h2 l1 l2
  generalize betweenL xs ys v n = L at *
  have y1 : Hid True := trivial
  go_enter Try.func19, Try.ntmps19
  go_wp2_with (first
    | (go_at_call 31; clear y1; refine (rclamped_any _ _ _ xs _ HX.out (by omega)).mono ?_; rintro e w3 ⟨a3, c3, rfl, hn3, hb3⟩)
    | (go_at_call 31; refine (rclamped_any _ _ _ ys _ (HY.out _ hb3) (by omega)).mono ?_; rintro e w4 ⟨a4, c4, rfl, hn4, hb4⟩))
  have HN3 : Hid ((NewRow 2 w.heap.size w4 a3 (clL xs) ∧ Zs w4 a4 n (clL ys)) ∧ Below w.heap.size w w4) := ⟨⟨hn3.keep hb4, Zs.of_new hn4 HLY.out⟩, hb3.trans (hb4.mono hb3.size)⟩
  have HLT : Hid (∀ b, 0 < n → a3 = some ⟨b, 0, none⟩ → b < w3.heap.size) := fun b h e => by subst e; exact (hn3.ge (by rw [HL0.out]; exact h)).2
  have HGE : Hid (∀ b o, 0 < n → a4 = some ⟨b, o, none⟩ → w3.heap.size ≤ b) := fun b o h e => by
    obtain ⟨b', e', hb', _⟩ := hn4.some_of (by rw [HLY.out]; exact h)
    subst e
    cases e'
    exact hb'
  clear hn3 hb3 hn4 hb4 HX HY
  generalize clL xs = l0 at *
  generalize clL ys = m0 at *
  go_loopw [7] (fun k W => ∃ m : Nat, m ≤ n ∧ k = .int .i64 m ∧ Hid ((NewRow 2 w.heap.size W a3 (mixL L l0 m) ∧ Zs W a4 n m0) ∧ Below w.heap.size w W)) (fun k _ => n - (intOf k).toNat)
  case atStart => exact ⟨0, Nat.zero_le _, rfl, HN3⟩
  case round =>
    clear HN3
    obtain ⟨m, hm, rfl, HW⟩ := hrel
    have hlen := mixL_len HL1.out HL0.out hm
    by_cases hlt : m < n
    · obtain ⟨b, rfl, hB1, hB2⟩ := HW.out.1.1.some_of (by omega)
      obtain ⟨b2, o2, rfl, hb2, hc2⟩ := HW.out.1.2.at_ (by omega)
      have hne : b2 ≠ b := by have := HLT.out b (by omega) rfl; have := HGE.out b2 o2 (by omega) rfl; omega
      have hcv := hc2 m hlt
      have hcm := HW.out.1.1.cellAt (i := m) (by omega)
      have hfm := HW.out.1.1.frozenAt (by omega) m
      rw [mixL_at HL1.out HL0.out hlt] at hcm
      have hst := mixL_step HL1.out HL0.out hlt
      have h1 := HA.out m hlt
      have hz := (HI.out m hlt).1
      have hy := (HI.out m hlt).2
      have hzs : ∀ u : Value, Zs (wr.setCell ⟨b, m, none⟩ u) (some ⟨b2, o2, none⟩) n m0 := fun u => ⟨HW.out.1.2.len, fun _ => ⟨b2, o2, rfl, by rw [show (wr.setCell ⟨b, m, none⟩ u).heap.size = wr.heap.size by simp]; exact hb2, fun i hi => (World.cell?_of_block (Below.heap_setCell wr ⟨b, m, none⟩ u b2 hne)).trans (hc2 i hi)⟩⟩
      generalize m0[m]?.getD 0 = yc at *
      generalize l0[m]?.getD 0 = z at *
      generalize L[m]?.getD 0 = y at *
      subst h1
      have hp := way_in hz hy ⟨h0, h4⟩
      have HR2 : Hid ((NewRow 2 w.heap.size (wr.setCell ⟨b, m, none⟩ (.int .i64 (z + (yc - z) * v / 4))) (some ⟨b, 0, none⟩) (mixL L l0 (m + 1)) ∧ Zs (wr.setCell ⟨b, m, none⟩ (.int .i64 (z + (yc - z) * v / 4))) (some ⟨b2, o2, none⟩) n m0) ∧ Below w.heap.size w (wr.setCell ⟨b, m, none⟩ (.int .i64 (z + (yc - z) * v / 4)))) :=
        ⟨⟨by rw [hst]; exact HW.out.1.1.set m _, hzs _⟩, HW.out.2.setCell (p := ⟨b, m, none⟩) hB1 _⟩
      have HW0 : Hid (IntKind.i64.wrap (yc - z) = yc - z) := by show _ = _; rw [IntKind.wrap_i64]; omega
      have HW1 : Hid (IntKind.i64.wrap ((yc - z) * v) = (yc - z) * v) := by show _ = _; rw [IntKind.wrap_i64]; omega
      have HW2 : Hid (IntKind.i64.wrap (z + (yc - z) * v / 4) = z + (yc - z) * v / 4) := by show _ = _; rw [IntKind.wrap_i64]; omega
      clear hst hc2 HA HI HL0 HL1 HLY HW hlen hzs HLT HGE
      go_wp2
      go_region_with (go_at_call 32; rw [HW0.out, HW1.out]; refine (rdown_any _ _ _ (by omega) (by omega) (by decide)).mono ?_; rintro e w5 ⟨rfl, rfl⟩)
      all_goals
        rw [HW2.out]
        go_wp2
        go_roundw
        case rel => exact ⟨m + 1, by omega, by go_num, ⟨HR2.out.1.1.drew, HR2.out.1.2.drew⟩, HR2.out.2.drew⟩
        case measure => simp [intOf]; omega
    · have hm' : m = n := by omega
      subst hm'
      rw [mixL_all HL1.out HL0.out] at HW
      clear HA HI
      go_wp2
      go_ret
      exact ⟨_, _, rfl, HW.out.1.1, HW.out.2⟩

end Go.Proofs.Ytpppnagodlpnjaa
