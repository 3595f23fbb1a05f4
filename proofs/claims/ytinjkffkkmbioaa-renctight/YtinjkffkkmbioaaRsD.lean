/- The document's own reader: numbers that are mostly small. -/
import Derived.Test.YtinjkffkkmbioaaRsC
namespace Go.Proofs.Ytinjkffkkmbioaa
open Go.RowKit

set_option maxHeartbeats 3200000 in
theorem rlap_yes (p g : Nat) (bs : List Nat) (s : St) (ee fs decay : Nat) (w : World) (h : Rq p g bs s ee w) (hi : Inv s) (hc : s.cnt ≤ 1000000000000000) (o1 : 256 ≤ fs) (o2 : fs ≤ 28000) (o3 : decay ≤ 16000) :
    Calls Try.prog 46 #[.pointer (some ⟨p, 0, none⟩), .int .i64 fs, .int .i64 decay] w fun e w' => e = .returned (.int .i64 (lapAll fs decay (chooseS s 32768)).1) ∧
      Rr p g bs (takeS bs s (lapAll fs decay (chooseS s 32768)).2.1 (min (lapAll fs decay (chooseS s 32768)).2.2 32768) 32768) w' ∧ But p w w' := by
  have HH : Hid (Rq p g bs s ee w) := h
  clear h
  have hk := chooseS_lt (s := s) (ft := 32768) (by decide)
  obtain ⟨a1, a2, _, _⟩ := lapAll_in (fs := fs) (decay := decay) (f := chooseS s 32768) (by omega) (by omega)
  have HTk : Hid (∀ (W : World) (fl fh : Int), Rq p g bs s (s.rng / 32768) W → fl = (lapAll fs decay (chooseS s 32768)).2.1 → fh = (min (lapAll fs decay (chooseS s 32768)).2.2 32768 : Nat) →
      Calls Try.prog 57 #[.pointer (some ⟨p, 0, none⟩), .int .u64 fl, .int .u64 fh, .int .u64 32768] W fun e w' => e = .returned (.tuple #[]) ∧
        Rq p g bs (takeS bs s (lapAll fs decay (chooseS s 32768)).2.1 (min (lapAll fs decay (chooseS s 32768)).2.2 32768) 32768) (s.rng / 32768) w' ∧ But p W w') := fun W fl fh hW e1 e2 =>
    rtake_any p g bs s fl fh _ _ _ 32768 e1 e2 rfl W hW hi (by decide) (by decide) a1 (by omega) (by omega) hc
  have HCh : Hid (∀ W, Rq p g bs s ee W → Calls Try.prog 56 #[.pointer (some ⟨p, 0, none⟩), .int .u64 32768] W fun e w' => e = .returned (.int .u64 (chooseS s 32768)) ∧ Rq p g bs s (s.rng / 32768) w' ∧ But p W w') := fun W hW =>
    rchoose_any p g bs s ee _ 32768 rfl W hW hi (by decide) (by decide)
  generalize hF : chooseS s 32768 = f at *
  clear hF
  by_cases hlt : f < fs
  · have e : lapAll fs decay f = (0, 0, fs) := by rw [lapAll, if_pos hlt]
    rw [e] at HTk a1 a2 ⊢
    clear e
    go_enter Try.func46, Try.ntmps46
    go_wp2_with (first
      | (go_at_call 56; refine (HCh.out _ HH.out).mono ?_; rintro e w1 ⟨rfl, hw1, hw2⟩; have HH1 : Hid (Rq p g bs s (s.rng / 32768) w1) := hw1; clear hw1)
      | (go_at_call 57; refine (HTk.out _ _ _ HH1.out ?_ ?_).mono ?_; (· rfl); (· (try simp only); omega); rintro e w2 ⟨rfl, hw3, hw4⟩))
    go_ret
    exact ⟨rfl, ⟨_, hw3⟩, hw2.trans hw4⟩
  · have hge : decide (fs ≤ f) = true := decide_eq_true (by omega)
    obtain ⟨s0, hs0⟩ : ∃ s0, s0 = (32736 - fs) * (16384 - decay) / 32768 + 1 := ⟨_, rfl⟩
    have e : lapAll fs decay f = lapEnd f (lapF f decay 32768 fs s0 1) := by rw [lapAll, if_neg hlt, hs0]
    rw [e] at HTk a1 a2 ⊢
    clear e
    have hs1 : s0 ≤ 20000 := by
      have := mul_dec (32736 - fs) (16384 - decay) (by omega)
      omega
    have hs2 : 1 ≤ s0 := by omega
    have ES : Hid (((32736 : Int) - fs) * (16384 - decay) / 32768 + 1 = (s0 : Nat)) := by
      show _ = _
      rw [hs0, Int.natCast_add, Int.natCast_ediv, Int.natCast_mul, Int.ofNat_sub (by omega), Int.ofNat_sub (by omega)]
      rfl
    have p0 : 0 ≤ ((32736 : Int) - fs) * (16384 - decay) := Int.mul_nonneg (by omega) (by omega)
    have p1 : ((32736 : Int) - fs) * (16384 - decay) ≤ 32736 * 16384 := Int.mul_le_mul (by omega) (by omega) (by omega) (by decide)
    clear hs0
    have HR : Hid (∃ R, lapF f decay 32768 fs s0 1 = R) := ⟨_, rfl⟩
    obtain ⟨R, hR⟩ := HR.out
    rw [hR] at HTk a1 a2 ⊢
    have H0 : Hid (∃ K, lapF f decay K fs s0 1 = R ∧ f ≤ fs + K) := ⟨32768, hR, by omega⟩
    clear hR HR
    obtain ⟨K, hK⟩ := H0.out
    have HK : Hid (lapF f decay K fs s0 1 = R ∧ f ≤ fs + K) := hK
    clear hK H0
    go_enter Try.func46, Try.ntmps46
    go_wp2_with (go_at_call 56; refine (HCh.out _ HH.out).mono ?_; rintro e w1 ⟨rfl, hw1, hw2⟩; have HH1 : Hid (Rq p g bs s (s.rng / 32768) w1) := hw1; have HB1 : Hid (But p w w1) := hw2; clear hw1 hw2)
    go_loopg [8, 9, 10] K (fun k l v s W => W = w1 ∧ ∃ l' s' v' : Nat, l = .int .i64 l' ∧ s = .int .i64 s' ∧ v = .int .i64 v' ∧ lapF f decay k l' s' v' = R ∧ f ≤ l' + k ∧ LapIn f l' s' v')
    case atStart => exact ⟨rfl, fs, s0, 1, rfl, by rw [← ES.out], rfl, HK.out.1, HK.out.2, by omega, hs2, hs1, by omega⟩
    case round =>
      obtain ⟨rfl, l, z, v, rfl, rfl, rfl, r1, r2, r3, r4, r5, r6⟩ := hrel
      by_cases hc : 1 < z ∧ l + 2 * z ≤ f
      · obtain ⟨k, rfl⟩ : ∃ k, gk = k + 1 := ⟨gk - 1, by omega⟩
        rw [lapF_step hc] at r1
        have HR : Hid (lapF f decay k (l + 2 * z) ((2 * z - 2) * decay / 32768 + 1) (v + 1) = R) := r1
        have hd := mul_dec (2 * z - 2) decay (by omega)
        have ED : Hid ((2 * (z : Int) - 2) * decay / 32768 + 1 = ((2 * z - 2) * decay / 32768 + 1 : Nat)) := by
          show _ = _
          rw [← cast_next z decay hc.1, Int.mul_comm 2 (z : Int)]
        have q0 : 0 ≤ (2 * (z : Int) - 2) * decay := Int.mul_nonneg (by omega) (by omega)
        have q1 : (2 * (z : Int) - 2) * decay ≤ 40000 * 16000 := Int.mul_le_mul (by omega) (by omega) (by omega) (by decide)
        obtain ⟨hc1, hc2⟩ := hc
        clear r1
        go_wp2
        go_roundg k
        case measure => omega
        case rel => exact ⟨rfl, l + 2 * z, _, v + 1, by go_num, by rw [← ED.out], by go_num, HR.out, by omega, by omega, by omega, by omega, by omega⟩
      · rw [lapF_stop gk hc] at r1
        have HR : Hid (R = (l, z, v)) := r1.symm
        clear r1
        by_cases hs : z ≤ 1
        · obtain rfl : z = 1 := by omega
          have HE : Hid (lapEnd f R = if f < l + 2 * ((f - l) / 2) + 1 then (-((v + (f - l) / 2 : Nat) : Int), l + 2 * ((f - l) / 2), l + 2 * ((f - l) / 2) + 1) else (((v + (f - l) / 2 : Nat) : Int), l + 2 * ((f - l) / 2) + 1, l + 2 * ((f - l) / 2) + 1 + 1)) := by
            show _ = _
            rw [HR.out]; rfl
          by_cases hx : f < l + 2 * ((f - l) / 2) + 1
          · have hx2 : (f : Int) < (l : Int) + 2 * (((f : Int) - l) / 2) + 1 := by omega
            have HE2 : Hid (lapEnd f R = (-((v + (f - l) / 2 : Nat) : Int), l + 2 * ((f - l) / 2), l + 2 * ((f - l) / 2) + 1)) := by show _ = _; rw [HE.out, if_pos hx]
            have HM : Hid ((l : Int) + 2 * (((f : Int) - l) / 2) + 1 = (min (l + 2 * ((f - l) / 2) + 1) 32768 : Nat)) := by show _ = _; rw [Nat.min_eq_left (by omega)]; omega
            have HM0 : Hid ((l : Int) + 2 * (((f : Int) - l) / 2) = (l + 2 * ((f - l) / 2) : Nat)) := by show _ = _; omega
            go_wp2_with (go_at_call 57; refine (HTk.out _ _ _ HH1.out ?_ ?_).mono ?_; (· rw [HE2.out]; exact HM0.out); (· rw [HE2.out]; exact HM.out); rintro e w2 ⟨rfl, hw3, hw4⟩)
            all_goals
              go_ret
              exact ⟨ret_int (by rw [HE2.out]; (try simp only); (try omega)), ⟨_, hw3⟩, HB1.out.trans hw4⟩
          · have hx2 : ¬ (f : Int) < (l : Int) + 2 * (((f : Int) - l) / 2) + 1 := by omega
            have HE2 : Hid (lapEnd f R = (((v + (f - l) / 2 : Nat) : Int), l + 2 * ((f - l) / 2) + 1, l + 2 * ((f - l) / 2) + 1 + 1)) := by show _ = _; rw [HE.out, if_neg hx]
            have HM : Hid ((l : Int) + 2 * (((f : Int) - l) / 2) + 1 + 1 = (min (l + 2 * ((f - l) / 2) + 1 + 1) 32768 : Nat)) := by show _ = _; rw [Nat.min_eq_left (by omega)]; omega
            have HM0 : Hid ((l : Int) + 2 * (((f : Int) - l) / 2) + 1 = (l + 2 * ((f - l) / 2) + 1 : Nat)) := by show _ = _; omega
            go_wp2_with (go_at_call 57; refine (HTk.out _ _ _ HH1.out ?_ ?_).mono ?_; (· rw [HE2.out]; exact HM0.out); (· rw [HE2.out]; exact HM.out); rintro e w2 ⟨rfl, hw3, hw4⟩)
            all_goals
              go_ret
              exact ⟨ret_int (by rw [HE2.out]; (try simp only); (try omega)), ⟨_, hw3⟩, HB1.out.trans hw4⟩
        · have HE : Hid (lapEnd f R = if f < l + z then (-(v : Int), l, l + z) else ((v : Int), l + z, l + z + z)) := by
            show _ = _
            rw [HR.out, lapEnd]
            simp only
            rw [if_neg hs, if_neg hs]
          have hc3 : ¬ (l : Int) + 2 * z ≤ f := by omega
          have hc4 : 1 < z := by omega
          by_cases hx : f < l + z
          · have HE2 : Hid (lapEnd f R = (-(v : Int), l, l + z)) := by show _ = _; rw [HE.out, if_pos hx]
            go_wp2_with (go_at_call 57; refine (HTk.out _ _ _ HH1.out ?_ ?_).mono ?_; (· rw [HE2.out]); (· rw [HE2.out]; (try simp only); (try omega)); rintro e w2 ⟨rfl, hw3, hw4⟩)
            all_goals
              go_ret
              exact ⟨ret_int (by rw [HE2.out]), ⟨_, hw3⟩, HB1.out.trans hw4⟩
          · have HE2 : Hid (lapEnd f R = ((v : Int), l + z, l + z + z)) := by show _ = _; rw [HE.out, if_neg hx]
            go_wp2_with (go_at_call 57; refine (HTk.out _ _ _ HH1.out ?_ ?_).mono ?_; (· rw [HE2.out]; (try simp only); (try omega)); (· rw [HE2.out]; (try simp only); (try omega)); rintro e w2 ⟨rfl, hw3, hw4⟩)
            all_goals
              go_ret
              exact ⟨ret_int (by rw [HE2.out]), ⟨_, hw3⟩, HB1.out.trans hw4⟩

theorem rlap_any (p g : Nat) (bs : List Nat) (s : St) (fs decay : Int) (w : World) (h' : Rr p g bs s w) (hi : Inv s) (hc : s.cnt ≤ 1000000000000000) :
    Calls Try.prog 46 #[.pointer (some ⟨p, 0, none⟩), .int .i64 fs, .int .i64 decay] w fun e w' => e = .returned (.int .i64 (lapS bs fs decay s).1) ∧ Rr p g bs (lapS bs fs decay s).2 w' ∧ But p w w' := by
  by_cases hok : lapOk fs decay
  · obtain ⟨o1, o2, o3, o4⟩ := hok
    obtain ⟨f, rfl⟩ := Int.eq_ofNat_of_zero_le (show 0 ≤ fs by omega)
    obtain ⟨d, rfl⟩ := Int.eq_ofNat_of_zero_le o3
    obtain ⟨ee, h⟩ := h'
    rw [lapS_eq bs f d s ⟨by omega, by omega, by omega⟩]
    exact rlap_yes p g bs s ee f d w h hi hc (by omega) (by omega) (by omega)
  · have e : lapS bs fs decay s = (0, s) := by rw [lapS, if_neg hok]
    rw [e]
    clear e
    by_cases h1 : fs < 256
    · go_enter Try.func46, Try.ntmps46
      go_wp2
      go_ret
      exact ⟨rfl, h', But.refl _ _⟩
    · by_cases h2 : 28000 < fs
      · go_enter Try.func46, Try.ntmps46
        go_wp2
        go_ret
        exact ⟨rfl, h', But.refl _ _⟩
      · by_cases h3 : decay < 0
        · go_enter Try.func46, Try.ntmps46
          go_wp2
          go_ret
          exact ⟨rfl, h', But.refl _ _⟩
        · have h4 : 16000 < decay := by unfold lapOk at hok; omega
          clear hok
          go_enter Try.func46, Try.ntmps46
          go_wp2
          go_ret
          exact ⟨rfl, h', But.refl _ _⟩

end Go.Proofs.Ytinjkffkkmbioaa
