/- What a filter leaves of a sound, and its power: the document's own Rest and Power. -/
import Derived.Test.YtjaccokmficfdaaLevA
namespace Go.Proofs.Ytjaccokmficfdaa
namespace Lev
open Go.RowKit

set_option maxHeartbeats 1600000 in
theorem rPower_any (a : Option Addr) (n cap : Nat) (zs : List Int) (w : World) (hz : Zs w a n zs) (hn : n ≤ maxLen) :
    Calls Try.prog 20 #[.slice a n cap] w fun e w' => e = .returned (.int .i64 (powI zs)) ∧ w' = w := by
  have HZ : Hid (0 < n → ∃ b off, a = some ⟨b, off, none⟩ ∧ b < w.heap.size ∧ ∀ i, i < n → w.cell? ⟨b, off + i, none⟩ = some (.int .i64 (zs[i]?.getD 0))) := hz.at_
  have hm2 : (n : Int) ≤ 9223372036854775807 := by simp only [maxLen] at hn; omega
  obtain ⟨K, hK⟩ : ∃ K, min n 960 = K := ⟨_, rfl⟩
  have HK : Hid (K ≤ n ∧ K ≤ 960 ∧ (K < 960 → n ≤ K)) := by
    show _ ∧ _
    omega
  have HE : Hid (powI zs = powN zs K) := by
    show _ = _
    unfold powI
    rw [hz.len, hK]
  have HS : Hid (∀ k, powN zs (k + 1) = powN zs k + c20 (zs[k]?.getD 0) * c20 (zs[k]?.getD 0)) := fun _ => rfl
  have HB : Hid (∀ k : Nat, 0 ≤ powN zs k ∧ powN zs k ≤ (k : Int) * 1099511627776) := powN_in zs
  have H0 : Hid (powN zs 0 = 0) := rfl
  generalize powN zs = C at *
  clear hz hn hK
  go_enter Try.func20, Try.ntmps20
  go_wp2
  go_loop [3, 4] (fun c i => ∃ k : Nat, k ≤ K ∧ c = .int .i64 (C k) ∧ i = .int .i64 (k : Int)) (fun _ i => 960 - (intOf i).toNat)
  case atStart => exact ⟨0, Nat.zero_le _, by rw [H0.out], rfl⟩
  case round =>
    obtain ⟨k, hk, rfl, rfl⟩ := hrel
    have hKK := HK.out
    by_cases hlt : k < K
    · obtain ⟨b, off, rfl, _, hc⟩ := HZ.out (by omega)
      have hck := hc k (by omega)
      have hs := HS.out k
      have hb := HB.out k
      have hb1 := HB.out (k + 1)
      have hcc := c20_in (zs[k]?.getD 0)
      have HCL : Hid (clampI (zs[k]?.getD 0) (-1048576) 1048576 = c20 (zs[k]?.getD 0)) := rfl
      generalize zs[k]?.getD 0 = z at *
      generalize c20 z = u at *
      have hp := prod_le hcc hcc
      obtain ⟨uu, huu⟩ : ∃ v, u * u = v := ⟨_, rfl⟩
      rw [huu] at hs hp
      have HX : Hid (wrap64 (u * u) = uu) := by show _ = _; rw [huu]; exact i64_wrap (by omega) (by omega)
      have HA : Hid (wrap64 (C k + uu) = C (k + 1)) := by show _ = _; rw [hs]; exact i64_wrap (by omega) (by omega)
      have hkn : (k : Int) < (n : Int) := by omega
      have hk9 : (k : Int) < 960 := by omega
      clear hs hb hb1 hcc hp huu hc hKK
      go_wp2_with (go_at_call 31; refine (rclamp_any _ _ _ _).mono ?_; rw [HCL.out]; rintro e w ⟨rfl, rfl⟩)
      go_round
      case rel => exact ⟨k + 1, by omega, by rw [HX.out, HA.out], by go_num⟩
      case measure => simp [intOf]; omega
    · obtain rfl : k = K := by omega
      by_cases h9 : k < 960
      · have hkn : ((k : Int) < (n : Int)) = False := eq_false (by have := hKK.2.2 h9; omega)
        clear hKK
        go_wp2
        go_ret
        rw [HE.out]
        exact ⟨rfl, rfl⟩
      · have hk9 : ((k : Int) < 960) = False := eq_false (by omega)
        clear hKK
        go_wp2
        all_goals
          go_ret
          rw [HE.out]
          exact ⟨rfl, rfl⟩

/-- The first k numbers of what is left. -/
def restTo (x a : List Int) (k : Nat) : List Int := (List.range k).map (restI x a)
theorem restTo_succ (x a : List Int) (k : Nat) : restTo x a (k + 1) = restTo x a k ++ [restI x a k] := by
  unfold restTo
  rw [List.range_succ, List.map_append]
  rfl

theorem c17L_at (a : List Int) (j : Nat) : (limL (-131072) 131072 a)[j]?.getD 0 = c17 (a[j]?.getD 0) := by
  unfold limL
  rw [List.getElem?_map]
  cases a[j]? <;> rfl

set_option maxRecDepth 100000 in
set_option maxHeartbeats 3200000 in
theorem rRest_any (a1 a2 : Option Addr) (n c1 p c2 : Nat) (zs fs : List Int) (w : World) (hz1 : Zs w a1 n zs) (hz2 : Zs w a2 p fs) (hn : n ≤ 960) (hp : p ≤ 40) :
    Calls Try.prog 19 #[.slice a1 n c1, .slice a2 p c2] w fun e w' => ∃ a' c', e = .returned (.slice a' n c') ∧ NewRow 2 w.heap.size w' a' (restL zs fs) ∧ Below w.heap.size w w' := by
  have HZ1 : Hid (Zs w a1 n zs ∧ zs.length = n) := ⟨hz1, hz1.len⟩
  have HZ2 : Hid (∀ W, Below w.heap.size w W → Zs W a2 p fs) := fun W hW => hz2.keep hW
  have HLA : Hid ((limL (-32768) 32767 zs).length = n ∧ (limL (-131072) 131072 fs).length = p ∧ fs.length = p) := ⟨by rw [limL_len]; exact hz1.len, by rw [limL_len]; exact hz2.len, hz2.len⟩
  have HN : Hid (n ≤ 960 ∧ p ≤ 40) := ⟨hn, hp⟩
  have y1 : Hid True := trivial
  have hn9 : (n : Int) ≤ 960 := by omega
  have hp4 : (p : Int) ≤ 40 := by omega
  clear hz1 hz2
  go_enter Try.func19, Try.ntmps19
  go_wp2_with (first
    | (go_at_call 30; clear y1; go_loud (refine (rlim_any a1 n c1 zs _ _ _ HZ1.out.1 (by omega)).mono ?_; rintro e w1 ⟨b1, d1, rfl, hr1, hb1⟩; have HX1 : Hid (∀ W, Below w1.heap.size w1 W → Zs W b1 n (s16L zs)) := (fun W hW => (Zs.of_new hr1 HLA.out.1).keep hW); have HB1 : Hid (Below w.heap.size w w1) := hb1; clear hr1 hb1))
    | (go_at_call 30; go_loud (refine (rlim_any a2 p c2 fs _ _ _ (HZ2.out _ HB1.out) (by omega)).mono ?_; rintro e w2 ⟨b2, d2, rfl, hr2, hb2⟩; have HX2 : Hid (∀ W, Below w2.heap.size w2 W → Zs W b2 p (limL (-131072) 131072 fs)) := (fun W hW => (Zs.of_new hr2 HLA.out.2.1).keep hW); have HX1b : Hid (∀ W, Below w2.heap.size w2 W → Zs W b1 n (s16L zs)) := (fun W hW => HX1.out W (hb2.trans (hW.mono hb2.size))); have HB2 : Hid (Below w.heap.size w w2) := HB1.out.trans (hb2.mono HB1.out.size); clear hr2 hb2)))
  clear HX1 HB1
  go_loopw [5, 6] (fun v i W => ∃ m : Nat, m ≤ n ∧ i = .int .i64 m ∧ Hid (W.ownsRow w2.heap.size 2 1 v m ((restTo zs fs m).map (Value.int .i64)) ∧ Below w2.heap.size w2 W)) (fun _ i _ => n - (intOf i).toNat)
  case atStart => exact ⟨0, Nat.zero_le _, rfl, World.ownsRow_nil _ _ _ _, Below.refl _ _⟩
  case round =>
    obtain ⟨m, hm, rfl, HH⟩ := hrel
    by_cases hlt : m < n
    · obtain ⟨b, off, rfl, hb0, hc⟩ := (HX1b.out wr HH.out.2).at_ (by omega)
      have HC1 : Hid (∀ i, i < n → wr.cell? ⟨b, off + i, none⟩ = some (.int .i64 (s16 (zs[i]?.getD 0)))) := fun i hi => by rw [hc i hi, s16L_at]
      have hcm := HC1.out m hlt
      obtain ⟨K, hK⟩ : ∃ K, min p m = K := ⟨_, rfl⟩
      have HK : Hid (K ≤ p ∧ K ≤ m ∧ (K < p → m ≤ K) ∧ m < n) := by
        refine ⟨by omega, by omega, by omega, hlt⟩
      have HS : Hid (∀ j, restN zs fs m (j + 1) = restN zs fs m j - mulI (c17 (fs[j]?.getD 0)) (s16 (zs[m - 1 - j]?.getD 0)) 12) := fun _ => rfl
      have HBD : Hid (∀ j : Nat, -(32768 + (j : Int) * 1048576) ≤ restN zs fs m j ∧ restN zs fs m j ≤ 32768 + (j : Int) * 1048576) := restN_in zs fs m
      have H0 : Hid (restN zs fs m 0 = s16 (zs[m]?.getD 0)) := rfl
      have HEND : Hid (restTo zs fs (m + 1) = restTo zs fs m ++ [restN zs fs m K]) := by
        show _ = _
        rw [restTo_succ, ← hK]
        unfold restI
        rw [HLA.out.2.2]
      rw [← H0.out] at hcm
      generalize restN zs fs m = C at *
      have hmn : (m : Int) < (n : Int) := by omega
      clear hK hc
      go_wp2
      go_loopw [7, 8] (fun v i W => (∃ d, W = wr.drewN d) ∧ ∃ j : Nat, j ≤ K ∧ v = .int .i64 (C j) ∧ i = .int .i64 (j : Int)) (fun _ i _ => p - (intOf i).toNat)
      case atStart => exact ⟨⟨0, rfl⟩, 0, Nat.zero_le _, rfl, rfl⟩
      case round =>
        clear hcm
        obtain ⟨⟨d, rfl⟩, j, hj, rfl, rfl⟩ := hrel
        have hKN := HK.out
        by_cases hjK : j < K
        · obtain ⟨bb, offb, rfl, hbb0, hcb⟩ := (HX2.out wr HH.out.2).at_ (by omega)
          have hcj := hcb j (by omega)
          rw [c17L_at] at hcj
          obtain ⟨q, hq⟩ : ∃ q, m - 1 - j = q := ⟨_, rfl⟩
          have hcq := HC1.out q (by omega)
          have hs := HS.out j
          rw [hq] at hs
          have hbj := HBD.out j
          have hbj1 := HBD.out (j + 1)
          have hmb := rest_mul (c17_in (fs[j]?.getD 0)) (v := s16 (zs[q]?.getD 0)) (by have := s16_in (zs[q]?.getD 0); omega)
          generalize c17 (fs[j]?.getD 0) = u at *
          generalize s16 (zs[q]?.getD 0) = v at *
          have HM : Hid (∀ W, Calls Try.prog 33 #[.int .i64 u, .int .i64 v, .int .i64 12] W fun e w' => e = .returned (.int .i64 (mulI u v 12)) ∧ w' = W) := fun W => rmul_any u v 12 W
          generalize mulI u v 12 = z at *
          have HA : Hid (wrap64 (C j - z) = C (j + 1)) := by show _ = _; rw [hs]; exact i64_wrap (by omega) (by omega)
          have hjp : (j : Int) < (p : Int) := by omega
          have hjm : (j : Int) < (m : Int) := by omega
          have hw1 : wrap64 ((m : Int) - 1) = (m : Int) - 1 := i64_wrap (by omega) (by omega)
          have hw2 : wrap64 ((m : Int) - 1 - (j : Int)) = (q : Int) := by
            rw [show (m : Int) - 1 - (j : Int) = (q : Int) by omega]
            exact i64_wrap (by omega) (by omega)
          have hw3 : (m : Int) - 1 - (j : Int) = (q : Int) := by omega
          have hk1 : IntKind.i64.wrap ((m : Int) - 1) = (m : Int) - 1 := i64k_wrap (by omega) (by omega)
          have hk3 : IntKind.i64.wrap (q : Int) = (q : Int) := i64k_wrap (by omega) (by omega)
          have hk2 : IntKind.i64.wrap ((m : Int) - 1 - (j : Int)) = (q : Int) := by
            rw [hw3]
            exact i64k_wrap (by omega) (by omega)
          have hqn : (q : Int) < (n : Int) := by omega
          have HJ : Hid (j < K ∧ K ≤ p) := ⟨hjK, by omega⟩
          clear hq hs hbj hbj1 hmb hcb hKN hj
          go_wp2
          go_quiet (first | (go_at_call 33; first | exact Calls.quiet_of_same (HM.out _) | exact (HM.out _).mono (fun _ _ ⟨he, hw⟩ => ⟨he, _, hw⟩)))
          go_wp2
          go_roundw
          case rel => exact ⟨⟨_, rfl⟩, j + 1, by have := HJ.out; omega, by rw [HA.out], by go_num⟩
          case measure =>
            have := HJ.out
            simp [intOf]
            omega
        · obtain rfl : j = K := by omega
          obtain ⟨hown, hbel⟩ := HH.out
          have HOWN : Hid ((wr.drewN d).ownsRow w2.heap.size 2 1 _ m ((restTo zs fs m).map (Value.int .i64)) ∧ Below w2.heap.size w2 (wr.drewN d) ∧ w2.heap.size ≤ (wr.drewN d).heap.size) := ⟨hown, below_drewN hbel d, hbel.size⟩
          have hm9 : m ≤ 960 := by omega
          have HEX : Hid ((j : Int) < (p : Int) → ¬ (j : Int) < (m : Int)) := fun h => by
            have := hKN.2.2.1 (by omega)
            omega
          clear hown hbel HH hKN
          by_cases hjp : (j : Int) < (p : Int)
          · have hjm := HEX.out hjp
            go_wp2_with (at_builtin; go_loud (refine wpList_append_one 23 2 Try.underlying23 info_int64 w2.heap.size _ m _ _ HOWN.out.1 (by omega) HOWN.out.2.2 rfl _ _ rfl rfl rfl ?_; rw [← HEND.out]; intro v' w10 hown2 hb2; have hb3 := HOWN.out.2.1.trans hb2; have HN2 : Hid (w10.ownsRow w2.heap.size 2 1 v' (m + 1) ((restTo zs fs (m + 1)).map (Value.int .i64)) ∧ Below w2.heap.size w2 w10) := ⟨hown2, hb3⟩; clear hown2 hb2 hb3))
            go_roundw
            case rel => exact ⟨m + 1, by have := HK.out; omega, by go_num, HN2⟩
            case measure => simp [intOf]; omega
          · go_wp2_with (at_builtin; go_loud (refine wpList_append_one 23 2 Try.underlying23 info_int64 w2.heap.size _ m _ _ HOWN.out.1 (by omega) HOWN.out.2.2 rfl _ _ rfl rfl rfl ?_; rw [← HEND.out]; intro v' w10 hown2 hb2; have hb3 := HOWN.out.2.1.trans hb2; have HN2 : Hid (w10.ownsRow w2.heap.size 2 1 v' (m + 1) ((restTo zs fs (m + 1)).map (Value.int .i64)) ∧ Below w2.heap.size w2 w10) := ⟨hown2, hb3⟩; clear hown2 hb2 hb3))
            go_roundw
            case rel => exact ⟨m + 1, by have := HK.out; omega, by go_num, HN2⟩
            case measure => simp [intOf]; omega
    · obtain rfl : m = n := by omega
      obtain ⟨hown, hbel⟩ := HH.out
      obtain ⟨_, a', c', rfl, hnew⟩ := NewRow.of_owned hown
      have HE : Hid (NewRow 2 w.heap.size wr a' (restL zs fs) ∧ Below w.heap.size w wr) := ⟨by have h := newRow_low hnew HB2.out.size; unfold restTo at h; unfold restL; rw [HZ1.out.2]; exact h, HB2.out.trans (hbel.mono HB2.out.size)⟩
      clear hown hbel hnew HH
      go_wp2
      go_ret
      exact ⟨_, _, rfl, HE.out⟩

end Lev
end Go.Proofs.Ytjaccokmficfdaa
