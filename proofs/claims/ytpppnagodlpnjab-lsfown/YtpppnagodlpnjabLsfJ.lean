/- The first table's nearest row, as the program's call has it; frequencies between two, as the document's own answer has it. -/
import Derived.Test.YtpppnagodlpnjabLsfI
namespace Go.Proofs.Ytpppnagodlpnjab
open Go.RowKit

theorem lsfL_in {order i : Int} (h : order = 10 ∨ order = 16) (h0 : 0 ≤ i) (h1 : i ≤ 15) : ∀ x ∈ lsfL order i, 0 ≤ x ∧ x ≤ 32768 := fun x hx => by
  have h2 := lsf_apart h h0 h1
  have := apart_low _ 0 h2.1 x hx
  have := h2.2 x hx
  omega
theorem far_is {order : Int} {want : List Int} {n i : Nat} (h : order = 10 ∨ order = 16) (hn : (n : Int) = order) (hi : i < 16) : sqN (atN (clL want)) (atN (lsfL order (i : Int))) n = farZ order want i := by
  have hnn : order.toNat = n := by omega
  unfold farZ
  rw [sqN_turn, hnn]
  exact sqN_congr n fun k hk => ⟨lsfL_at h (by omega) (by omega) (by omega), clL_want k⟩

set_option maxHeartbeats 1000000 in
theorem nearest_any (want : List Int) (n : Nat) (a : Option Addr) (cap : Nat) (w : World) (h16 : n = 10 ∨ n = 16) (hz : Zs w a n (clL want)) :
    Calls Try.prog 15 #[.slice a n cap] w fun e w' => e = .returned (.int .i64 (oneZ n want : Nat)) ∧ Below w.heap.size w w' := by
  have hI : (n : Int) = 10 ∨ (n : Int) = 16 := by omega
  have HZ : Hid (∀ W, Below w.heap.size w W → Zs W a n (clL want)) := fun W hb => hz.keep hb
  have HL : Hid (∀ i : Nat, i < 16 → ∀ W, Calls Try.prog 12 #[.int .i64 (n : Int), .int .i64 (i : Int)] W fun e w' => ∃ a' c', e = .returned (.slice a' n c') ∧ Zs w' a' n (lsfL n i) ∧ Below W.heap.size W w') := fun i hi W => by
    have hl : (lsfL (n : Int) (i : Int)).length = n := lsfL_len' hI (by omega) (by omega) rfl
    refine (lsf_any n i W).mono ?_
    rintro e w' ⟨a', c', rfl, hn, hb⟩
    rw [hl]
    exact ⟨a', c', rfl, Zs.of_new hn hl, hb⟩
  have HD : Hid (∀ i : Nat, i < 16 → ∀ W a1 c1 a2 c2, Zs W a1 n (clL want) → Zs W a2 n (lsfL n i) → Calls Try.prog 21 #[.slice a1 n c1, .slice a2 n c2] W fun e w' => e = .returned (.int .i64 (farZ n want i)) ∧ Below W.heap.size W w') := fun i hi W a1 c1 a2 c2 h1 h2 => by
    refine (distance_any a1 a2 n c1 c2 _ _ W h1 h2 (by omega) clL_in (lsfL_in hI (by omega) (by omega))).mono ?_
    rintro e w' ⟨rfl, k, rfl⟩
    exact ⟨by rw [far_is hI rfl hi], below_drewN (Below.refl _ _) k⟩
  have HF : Hid (∀ m, bestN (farZ n want) (m + 1) = if farZ n want m < farZ n want (bestN (farZ n want) m) then m else bestN (farZ n want) m) := fun m => rfl
  have HO : Hid (oneZ n want = bestN (farZ n want) 16) := rfl
  have HB1 : Hid (bestN (farZ n want) 1 = 0) := Nat.lt_one_iff.1 (bestN_lt (farZ n want) 0)
  clear hz
  generalize farZ (n : Int) want = f at *
  rw [HO.out]
  clear HO
  have hb := Below.refl w.heap.size w
  have y1 : Hid True := trivial
  go_enter Try.func15, Try.ntmps15
  go_wp2_with (first
    | (go_at_call 12; clear y1; refine (HL.out 0 (by decide) _).mono ?_; rintro e w1 ⟨a1, c1, rfl, hz1, hb1⟩; replace hb := hb.trans (hb1.mono hb.size))
    | (go_at_call 21; refine (HD.out 0 (by decide) _ _ _ _ _ (HZ.out _ hb) hz1).mono ?_; rintro e w2 ⟨rfl, hb2⟩; replace hb := hb.trans (hb2.mono hb.size)))
  clear hz1 hb1 hb2
  go_loopw [3, 4, 5, 6] (fun best least one _ W => ∃ m b : Nat, ∃ q : Int, 1 ≤ m ∧ m ≤ 16 ∧ one = .int .i64 m ∧ best = .int .i64 b ∧ least = .int .i64 q ∧ Hid (b = bestN f m ∧ q = f b) ∧ Below w.heap.size w W) (fun _ _ one _ _ => 16 - (intOf one).toNat)
  case atStart => exact ⟨1, 0, f 0, by decide, by decide, rfl, rfl, rfl, ⟨HB1.out.symm, rfl⟩, hb⟩
  case round =>
    clear hb
    obtain ⟨m, b, q, hm1, hm, rfl, rfl, rfl, HQ, hb⟩ := hrel
    by_cases hlt : m < 16
    · have hs := HF.out m
      rw [← HQ.out.1, ← HQ.out.2] at hs
      by_cases hf : f m < q
      · have HQ2 : Hid (m = bestN f (m + 1) ∧ f m = f m) := ⟨by rw [hs, if_pos hf], rfl⟩
        have HFM : Hid (∃ z, f m = z ∧ z < q) := ⟨_, rfl, hf⟩
        obtain ⟨z, hz, hzq⟩ := HFM.out
        have HZm : Hid (f m = z) := hz
        clear hs HF HFM hz hf
        go_wp2_with (first
          | (go_at_call 12; refine (HL.out m hlt _).mono ?_; rintro e w3 ⟨a3, c3, rfl, hz3, hb3⟩; replace hb := hb.trans (hb3.mono hb.size); clear hb3)
          | (go_at_call 21; refine (HD.out m hlt _ _ _ _ _ (HZ.out _ hb) hz3).mono ?_; rw [HZm.out]; rintro e w4 ⟨rfl, hb4⟩; replace hb := hb.trans (hb4.mono hb.size); clear hb4))
        go_roundw
        case rel => exact ⟨m + 1, m, z, by omega, by omega, by go_num, rfl, rfl, ⟨HQ2.out.1, HZm.out.symm⟩, hb⟩
        case measure => simp [intOf]; omega
      · have HQ2 : Hid (b = bestN f (m + 1)) := by show _ = _; rw [hs, if_neg hf]
        have HFM : Hid (∃ z, f m = z ∧ ¬ z < q) := ⟨_, rfl, hf⟩
        obtain ⟨z, hz, hzq⟩ := HFM.out
        have HZm : Hid (f m = z) := hz
        clear hs HF HFM hz hf
        go_wp2_with (first
          | (go_at_call 12; refine (HL.out m hlt _).mono ?_; rintro e w3 ⟨a3, c3, rfl, hz3, hb3⟩; replace hb := hb.trans (hb3.mono hb.size); clear hb3)
          | (go_at_call 21; refine (HD.out m hlt _ _ _ _ _ (HZ.out _ hb) hz3).mono ?_; rw [HZm.out]; rintro e w4 ⟨rfl, hb4⟩; replace hb := hb.trans (hb4.mono hb.size); clear hb4))
        go_roundw
        case rel => exact ⟨m + 1, b, q, by omega, by omega, by go_num, rfl, rfl, ⟨HQ2.out, HQ.out.2⟩, hb⟩
        case measure => simp [intOf]; omega
    · have hm' : m = 16 := by omega
      subst hm'
      go_wp2
      go_ret
      exact ⟨ret_int (by rw [HQ.out.1]), hb⟩

end Go.Proofs.Ytpppnagodlpnjab
