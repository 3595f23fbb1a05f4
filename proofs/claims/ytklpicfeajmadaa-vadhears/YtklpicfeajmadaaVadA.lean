/- What the document's own loudness and meter come to. -/
import Derived.Test.YtklpicfeajmadaaVadM
import Derived.Test.YtklpicfeajmadaaFixS
import Derived.Test.YtklpicfeajmadaaLastOp
namespace Go.Proofs.Ytklpicfeajmadaa
open Go.RowKit
namespace Vad

theorem i64_wrap {z : Int} (h1 : -9223372036854775808 ≤ z) (h2 : z ≤ 9223372036854775807) : wrap64 z = z := by unfold wrap64; omega
theorem i64k_wrap {z : Int} (h1 : -9223372036854775808 ≤ z) (h2 : z ≤ 9223372036854775807) : IntKind.i64.wrap z = z := by rw [IntKind.wrap_i64]; omega

set_option maxHeartbeats 1000000 in
theorem rLevel_any (a : Option Addr) (n cap : Nat) (zs : List Int) (w : World) (hz : Zs w a n zs) (hn : n ≤ cap) (hm : cap ≤ maxLen) :
    Calls Try.prog 11 #[.slice a n cap] w fun e w' => e = .returned (.int .i64 (levelI zs)) ∧ w' = w := by
  have HZ : Hid (0 < n → ∃ b off, a = some ⟨b, off, none⟩ ∧ b < w.heap.size ∧ ∀ i, i < n → w.cell? ⟨b, off + i, none⟩ = some (.int .i64 (zs[i]?.getD 0))) := hz.at_
  obtain ⟨M, hK⟩ : ∃ M, min n 960 = M := ⟨_, rfl⟩
  have hcap : (cap : Int) ≤ 9223372036854775807 := by simp only [maxLen] at hm; omega
  by_cases h0 : n = 0
  · have HE : Hid (levelI zs = 0) := by
      show _ = _
      unfold levelI
      rw [if_pos (by rw [hz.len, h0])]
    subst h0
    clear hz hK HZ
    go_enter Try.func11, Try.ntmps11
    go_wp2
    go_ret
    rw [HE.out]
    exact ⟨rfl, rfl⟩
  · have HE : Hid (levelI zs = log2I (1 + sqV zs M / (M : Int))) := by
      show _ = _
      unfold levelI meanV
      rw [if_neg (by rw [hz.len]; exact h0), hz.len, hK]
    have HS : Hid (∀ k, sqV zs (k + 1) = sqV zs k + s16 (zs[k]?.getD 0) * s16 (zs[k]?.getD 0)) := fun _ => rfl
    have HB : Hid (∀ k : Nat, 0 ≤ sqV zs k ∧ sqV zs k ≤ (k : Int) * 1073741824) := sqV_in zs
    have HN0 : Hid (sqV zs 0 = 0) := rfl
    have HS16 : Hid (∀ z, clampI z (-32768) 32767 = s16 z) := fun _ => rfl
    have HK : Hid (M ≤ n ∧ M ≤ 960 ∧ 0 < M) := by
      show _ ∧ _
      omega
    generalize sqV zs = C at *
    obtain ⟨b, off, rfl, _, hc⟩ := HZ.out (by omega)
    have HC : Hid (∀ i, i < n → w.cell? ⟨b, off + i, none⟩ = some (.int .i64 (zs[i]?.getD 0))) := hc
    clear hz HZ hc
    by_cases h9 : 960 < n
    · obtain rfl : M = 960 := by omega
      clear hK
      have hc9 : (960 : Int) ≤ (cap : Int) := by omega
      have hn9 : (960 : Int) < (n : Int) := by omega
      go_enter Try.func11, Try.ntmps11
      go_wp2
      go_loop [3, 4] (fun c i => ∃ k : Nat, k ≤ 960 ∧ c = .int .i64 (C k) ∧ i = .int .i64 (k : Int)) (fun _ i => 960 - (intOf i).toNat)
      case atStart => exact ⟨0, Nat.zero_le _, by rw [HN0.out], rfl⟩
      case round =>
        obtain ⟨k, hk, rfl, rfl⟩ := hrel
        have hKK := HK.out
        by_cases hlt : k < 960
        · have hck := HC.out k (by omega)
          have hs := HS.out k
          have hb := HB.out k
          have hb1 := HB.out (k + 1)
          have hss := s16_in (zs[k]?.getD 0)
          have HCL := HS16.out (zs[k]?.getD 0)
          replace HCL : Hid (clampI (zs[k]?.getD 0) (-32768) 32767 = s16 (zs[k]?.getD 0)) := HCL
          generalize zs[k]?.getD 0 = z at *
          generalize s16 z = u at *
          have hp := prod16 hss.1 hss.2 hss.1 hss.2
          obtain ⟨uu, huu⟩ : ∃ v, u * u = v := ⟨_, rfl⟩
          rw [huu] at hs hp
          have HX : Hid (wrap64 (u * u) = uu) := by show _ = _; rw [huu]; exact i64_wrap (by omega) (by omega)
          have HA : Hid (wrap64 (C k + uu) = C (k + 1)) := by show _ = _; rw [hs]; exact i64_wrap (by omega) (by omega)
          have hkn : (k : Int) < (960 : Int) := by omega
          clear hs hb hb1 hss hp huu hKK
          go_wp2_with (go_at_call 18; refine (rsat16_any _ _).mono ?_; rw [HCL.out]; rintro e w ⟨rfl, rfl⟩)
          go_round
          case rel => exact ⟨k + 1, by omega, by rw [HX.out, HA.out], by go_num⟩
          case measure => simp [intOf]; omega
        · obtain rfl : k = 960 := by omega
          have hb := HB.out 960
          have hd := div_of hb.1 (show C 960 ≤ ((960 : Int)) * 1073741824 by omega) (show 0 < (960 : Int) by omega)
          obtain ⟨q, hq⟩ : ∃ q, C 960 / (960 : Int) = q := ⟨_, rfl⟩
          have HEQ : Hid (levelI zs = log2I (1 + q)) := by
            show _ = _
            rw [HE.out, ← hq]
            rfl
          rw [hq] at hd
          have HQ1 : Hid (wrap64 ((C 960).tdiv (960 : Int)) = q) := by show _ = _; rw [Int.tdiv_eq_ediv_of_nonneg hb.1, hq]; exact i64_wrap (by omega) (by omega)
          have HQ2 : Hid (C 960 / (960 : Int) = q) := hq
          have HA1 : Hid (wrap64 (1 + q) = 1 + q) := i64_wrap (by omega) (by omega)
          have HA2 : Hid (1 + q ≤ 9223372036854775807) := by show _ ≤ _; omega
          have hnk : ((960 : Int) < (960 : Int)) = False := eq_false (by omega)
          clear hb hd hq hKK
          go_wp2_with (go_loud (go_at_call 19; rw [HQ1.out, HA1.out]; refine (rlog2_any _ _ HA2.out).mono ?_; rintro e w ⟨rfl, rfl⟩))
          go_ret
          rw [HEQ.out]
          exact ⟨rfl, rfl⟩
    · obtain rfl : M = n := by omega
      clear hK
      have hn9 : ((960 : Int) < (M : Int)) = False := eq_false (by omega)
      have hn0 : ((M : Int) == 0) = false := beq_eq_false_iff_ne.2 (by omega)
      go_enter Try.func11, Try.ntmps11
      go_wp2
      go_loop [3, 4] (fun c i => ∃ k : Nat, k ≤ M ∧ c = .int .i64 (C k) ∧ i = .int .i64 (k : Int)) (fun _ i => 960 - (intOf i).toNat)
      case atStart => exact ⟨0, Nat.zero_le _, by rw [HN0.out], rfl⟩
      case round =>
        obtain ⟨k, hk, rfl, rfl⟩ := hrel
        have hKK := HK.out
        by_cases hlt : k < M
        · have hck := HC.out k (by omega)
          have hs := HS.out k
          have hb := HB.out k
          have hb1 := HB.out (k + 1)
          have hss := s16_in (zs[k]?.getD 0)
          have HCL := HS16.out (zs[k]?.getD 0)
          replace HCL : Hid (clampI (zs[k]?.getD 0) (-32768) 32767 = s16 (zs[k]?.getD 0)) := HCL
          generalize zs[k]?.getD 0 = z at *
          generalize s16 z = u at *
          have hp := prod16 hss.1 hss.2 hss.1 hss.2
          obtain ⟨uu, huu⟩ : ∃ v, u * u = v := ⟨_, rfl⟩
          rw [huu] at hs hp
          have HX : Hid (wrap64 (u * u) = uu) := by show _ = _; rw [huu]; exact i64_wrap (by omega) (by omega)
          have HA : Hid (wrap64 (C k + uu) = C (k + 1)) := by show _ = _; rw [hs]; exact i64_wrap (by omega) (by omega)
          have hkn : (k : Int) < (M : Int) := by omega
          clear hs hb hb1 hss hp huu hKK
          go_wp2_with (go_at_call 18; refine (rsat16_any _ _).mono ?_; rw [HCL.out]; rintro e w ⟨rfl, rfl⟩)
          go_round
          case rel => exact ⟨k + 1, by omega, by rw [HX.out, HA.out], by go_num⟩
          case measure => simp [intOf]; omega
        · obtain rfl : k = M := by omega
          have hb := HB.out k
          have hd := div_of hb.1 (show C k ≤ ((k : Int)) * 1073741824 by omega) (show 0 < (k : Int) by omega)
          obtain ⟨q, hq⟩ : ∃ q, C k / (k : Int) = q := ⟨_, rfl⟩
          have HEQ : Hid (levelI zs = log2I (1 + q)) := by
            show _ = _
            rw [HE.out, ← hq]
          rw [hq] at hd
          have HQ1 : Hid (wrap64 ((C k).tdiv (k : Int)) = q) := by show _ = _; rw [Int.tdiv_eq_ediv_of_nonneg hb.1, hq]; exact i64_wrap (by omega) (by omega)
          have HQ2 : Hid (C k / (k : Int) = q) := hq
          have HA1 : Hid (wrap64 (1 + q) = 1 + q) := i64_wrap (by omega) (by omega)
          have HA2 : Hid (1 + q ≤ 9223372036854775807) := by show _ ≤ _; omega
          have hnk : ((k : Int) < (k : Int)) = False := eq_false (by omega)
          clear hb hd hq hKK
          go_wp2_with (go_loud (go_at_call 19; rw [HQ1.out, HA1.out]; refine (rlog2_any _ _ HA2.out).mono ?_; rintro e w ⟨rfl, rfl⟩))
          go_ret
          rw [HEQ.out]
          exact ⟨rfl, rfl⟩
end Vad
end Go.Proofs.Ytklpicfeajmadaa
