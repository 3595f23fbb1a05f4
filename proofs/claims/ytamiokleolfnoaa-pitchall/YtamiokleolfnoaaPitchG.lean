/- The document's own score. -/
import Derived.Test.YtamiokleolfnoaaPitchF
import Derived.Test.YtamiokleolfnoaaLimL
namespace Go.Proofs.Ytamiokleolfnoaa
namespace Pit
open Go.RowKit

set_option maxHeartbeats 1000000 in
theorem rScore_bad (a : Option Addr) (n cap : Nat) (zs : List Int) (lag : Int) (w : World) (hz : Zs w a n zs) (hn : n ≤ maxLen) (hg : goodLagsB n lag lag = false) :
    Calls Try.prog 12 #[.slice a n cap, .int .i64 lag] w fun e w' => e = .returned (.int .i64 (scoreI zs lag)) ∧ Below w.heap.size w w' := by
  have hl := hz.len
  have HS : Hid (scoreI zs lag = 0) := goodLagsB_none (by rw [hl]; exact hg)
  have hn2 : n ≤ 9223372036854775807 := by simp only [maxLen] at hn; omega
  have hd := of_decide_eq_false hg
  obtain ⟨f, hf⟩ : ∃ f, n / 2 = f := ⟨_, rfl⟩
  rw [hf] at hd
  have hfn : (n : Int) / 2 = f := by omega
  clear hz hg hl hn
  by_cases h1 : n < 2
  · clear hd hf hfn
    go_enter Try.func12, Try.ntmps12
    go_wp2
    go_ret
    rw [HS.out]
    exact ⟨rfl, Below.refl _ _⟩
  · by_cases h2 : 960 < n
    · clear hd hf hfn
      go_enter Try.func12, Try.ntmps12
      go_wp2
      go_ret
      rw [HS.out]
      exact ⟨rfl, Below.refl _ _⟩
    · by_cases h3 : lag < 1
      · clear hd hf hfn
        go_enter Try.func12, Try.ntmps12
        go_wp2
        go_ret
        rw [HS.out]
        exact ⟨rfl, Below.refl _ _⟩
      · have h4 : (n : Int) / 2 < lag := by omega
        clear hd hf hfn
        go_enter Try.func12, Try.ntmps12
        go_wp2
        go_ret
        rw [HS.out]
        exact ⟨rfl, Below.refl _ _⟩

set_option maxRecDepth 100000 in
set_option maxHeartbeats 1600000 in
theorem rScore_good (a : Option Addr) (n cap L : Nat) (zs : List Int) (w : World) (hz0 : Zs w a n zs) (hn2 : 2 ≤ n) (hn : n ≤ 960) (h1 : 1 ≤ L) (h2 : L ≤ n / 2) :
    Calls Try.prog 12 #[.slice a n cap, .int .i64 L] w fun e w' => e = .returned (.int .i64 (pointI (corrI zs L (n / 2) (n - n / 2)) (enI zs L (n / 2) (n - n / 2)))) ∧ Below w.heap.size w w' := by
  have HZ0 : Hid (Zs w a n zs) := hz0
  have HLL : Hid ((limL (-32768) 32767 zs).length = n) := by show _ = _; rw [limL_len]; exact hz0.len
  clear hz0
  obtain ⟨f, hf⟩ : ∃ f, n / 2 = f := ⟨_, rfl⟩
  obtain ⟨K, hK⟩ : ∃ K, n - f = K := ⟨_, rfl⟩
  rw [hf, hK]
  have HN : Hid (n / 2 = f ∧ n - f = K ∧ 2 ≤ n ∧ n ≤ 960 ∧ 1 ≤ L ∧ L ≤ f) := ⟨hf, hK, hn2, hn, h1, by omega⟩
  have HCI : Hid (∀ k, corrI zs L f (k + 1) = corrI zs L f k + s16 (zs[f + k]?.getD 0) * s16 (zs[f + k - L]?.getD 0)) := fun _ => rfl
  have HEI : Hid (∀ k, enI zs L f (k + 1) = enI zs L f k + s16 (zs[f + k - L]?.getD 0) * s16 (zs[f + k - L]?.getD 0)) := fun _ => rfl
  have HCB : Hid (∀ k : Nat, -((k : Int) * 1073741824) ≤ corrI zs L f k ∧ corrI zs L f k ≤ (k : Int) * 1073741824) := corrI_in zs L f
  have HEB : Hid (∀ k : Nat, 0 ≤ enI zs L f k ∧ enI zs L f k ≤ (k : Int) * 1073741824) := enI_in zs L f
  have hC0 : corrI zs L f 0 = 0 := rfl
  have hE0 : enI zs L f 0 = 0 := rfl
  generalize corrI zs L f = C at *
  generalize enI zs L f = D at *
  have HWF : Hid ((n : Int) / 2 = ((f + 0 : Nat) : Int)) := by
    have := HN.out
    clear HCI HEI HCB HEB
    show _ = _
    omega
  have HC0 : Hid (C 0 = 0 ∧ D 0 = 0) := ⟨hC0, hE0⟩
  clear hf hK hn2 hn h1 h2 hC0 hE0
  have hLf : ((L : Int) ≤ (n : Int) / 2) := by have := HN.out; clear HCI HEI HCB HEB; omega
  have hL1 : (1 : Int) ≤ L := by have := HN.out; clear HCI HEI HCB HEB; omega
  have hn2 : 2 ≤ n := HN.out.2.2.1
  have hn9 : n ≤ 960 := HN.out.2.2.2.1
  go_enter Try.func12, Try.ntmps12
  go_wp2_with (go_at_call 21; refine (rlim_any a n cap zs _ _ _ HZ0.out (by omega)).mono ?_; rintro e w1 ⟨a1, c1, rfl, hr1, hb1⟩; obtain ⟨b, off, rfl, hb0, hc⟩ := (Zs.of_new hr1 HLL.out).at_ (by omega); have HC : Hid (∀ i, i < n → w1.cell? ⟨b, off + i, none⟩ = some (.int .i64 (s16 (zs[i]?.getD 0)))) := (fun i hi => (by rw [hc i hi]; exact congrArg (fun z => some (Value.int .i64 z)) (s16L_at zs i))); clear hc hr1)
  clear hLf hL1 hn2 hn9
  go_loopw [6, 7, 8] (fun c e i W => (∃ d, W = w1.drewN d) ∧ ∃ k : Nat, k ≤ K ∧ c = .int .i64 (C k) ∧ e = .int .i64 (D k) ∧ i = .int .i64 ((f + k : Nat) : Int)) (fun _ _ i _ => n - (intOf i).toNat)
  case atStart => exact ⟨⟨0, rfl⟩, 0, Nat.zero_le _, by rw [HC0.out.1], by rw [HC0.out.2], by rw [HWF.out]⟩
  case round =>
    obtain ⟨⟨d, rfl⟩, k, hk, rfl, rfl, rfl⟩ := hrel
    obtain ⟨m, hm⟩ : ∃ m, f + k = m := ⟨_, rfl⟩
    rw [hm]
    by_cases hlt : m < n
    · obtain ⟨q, hq⟩ : ∃ q, m - L = q := ⟨_, rfl⟩
      have hN := HN.out
      have hcm := HC.out m hlt
      have hcq := HC.out q (by omega)
      have hw1 : wrap64 ((m : Int) - (L : Int)) = (q : Int) := by
        rw [show (m : Int) - (L : Int) = (q : Int) by omega]
        exact i64_wrap (by omega) (by omega)
      have hw2 : (m : Int) - (L : Int) = (q : Int) := by omega
      have hci := HCI.out k
      have hei := HEI.out k
      rw [hm, hq] at hci hei
      have hcb := HCB.out k
      have heb := HEB.out k
      have hcb1 := HCB.out (k + 1)
      have heb1 := HEB.out (k + 1)
      have hp1 := prod16 (s16_in (zs[m]?.getD 0)).1 (s16_in (zs[m]?.getD 0)).2 (s16_in (zs[q]?.getD 0)).1 (s16_in (zs[q]?.getD 0)).2
      have hp2 := prod16 (s16_in (zs[q]?.getD 0)).1 (s16_in (zs[q]?.getD 0)).2 (s16_in (zs[q]?.getD 0)).1 (s16_in (zs[q]?.getD 0)).2
      generalize s16 (zs[m]?.getD 0) = x at *
      generalize s16 (zs[q]?.getD 0) = y at *
      obtain ⟨xy, hxy⟩ : ∃ z, x * y = z := ⟨_, rfl⟩
      obtain ⟨yy, hyy⟩ : ∃ z, y * y = z := ⟨_, rfl⟩
      rw [hxy] at hp1 hci
      rw [hyy] at hp2 hei
      have HX1 : Hid (wrap64 (x * y) = xy) := by show _ = _; rw [hxy]; exact i64_wrap (by omega) (by omega)
      have HX2 : Hid (wrap64 (y * y) = yy) := by show _ = _; rw [hyy]; exact i64_wrap (by omega) (by omega)
      have HA1 : Hid (wrap64 (C k + xy) = C (k + 1)) := by show _ = _; rw [hci]; exact i64_wrap (by omega) (by omega)
      have HA2 : Hid (wrap64 (D k + yy) = D (k + 1)) := by show _ = _; rw [hei]; exact i64_wrap (by omega) (by omega)
      have hqi : ((q : Int) < 0) = False := eq_false (by omega)
      have hqn : ((q : Int) < (n : Int)) := by omega
      have HM : Hid (f + k = m ∧ k < K ∧ m < n) := ⟨hm, by omega, hlt⟩
      have HM1 : Hid (wrap64 ((m : Int) + 1) = ((m + 1 : Nat) : Int)) := by
        show _ = _
        rw [show (m : Int) + 1 = ((m + 1 : Nat) : Int) by omega]
        exact i64_wrap (by omega) (by omega)
      clear hm hq hN hci hei hcb heb hcb1 heb1 hp1 hp2 hxy hyy hk
      go_wp2
      go_quiet (fail)
      go_wp2
      go_quiet (fail)
      go_wp2
      go_roundw
      case rel => exact ⟨⟨_, rfl⟩, k + 1, by have := HM.out; omega, by rw [HX1.out, HA1.out], by rw [HX2.out, HA2.out], by rw [← Nat.add_assoc, HM.out.1]; go_num⟩
      case measure =>
        have := HM.out.2.2
        simp [intOf]
        omega
    · obtain rfl : k = K := by have := HN.out; omega
      have hN := HN.out
      have hcb := HCB.out k
      have heb := HEB.out k
      obtain ⟨c, hc⟩ : ∃ c, C k = c := ⟨_, rfl⟩
      obtain ⟨E, hE⟩ : ∃ E : Nat, D k = (E : Int) := ⟨(D k).toNat, by omega⟩
      have HQ : Hid (pointI (C k) (D k) = pointI c E) := by show _ = _; rw [hc, hE]
      rw [hc, hE]
      rw [hc] at hcb
      rw [hE] at heb
      clear HCI HEI HCB HEB HC HC0 HZ0 HLL hc hE
      by_cases h0 : c ≤ 0
      · have HP : Hid (pointI (C k) (D k) = 0) := HQ.out.trans (pointI_no _ h0)
        clear hcb heb hN
        go_wp2
        go_ret
        rw [HP.out]
        exact ⟨rfl, below_drewN hb1 _⟩
      · obtain ⟨c, rfl⟩ : ∃ x : Nat, c = (x : Int) := ⟨c.toNat, by omega⟩
        have HP : Hid (pointI (C k) (D k) = ((c / 256 * (c / 256) / (E / 65536 + 1) : Nat) : Int)) := HQ.out.trans (pointI_yes h0)
        have hpi := point_in (c := c) (e := E) (by omega) (by omega)
        obtain ⟨u, hu⟩ : ∃ u, c / 256 = u := ⟨_, rfl⟩
        obtain ⟨v, hv⟩ : ∃ v, E / 65536 = v := ⟨_, rfl⟩
        obtain ⟨uu, huu⟩ : ∃ z, u * u = z := ⟨_, rfl⟩
        obtain ⟨r, hr⟩ : ∃ z, uu / (v + 1) = z := ⟨_, rfl⟩
        rw [hu, hv, huu, hr] at hpi HP
        have HY1 : Hid (wrap64 ((c : Int) / 256) = (u : Int)) := by
          show _ = _
          rw [show (c : Int) / 256 = (u : Int) by omega]
          exact i64_wrap (by omega) (by omega)
        have HY2 : Hid (wrap64 ((E : Int) / 65536) = (v : Int)) := by
          show _ = _
          rw [show (E : Int) / 65536 = (v : Int) by omega]
          exact i64_wrap (by omega) (by omega)
        have HY3 : Hid (wrap64 ((u : Int) * (u : Int)) = (uu : Int)) := by
          show _ = _
          rw [show (u : Int) * (u : Int) = (uu : Int) by rw [← huu]; simp]
          exact i64_wrap (by omega) (by omega)
        have HY4 : Hid (wrap64 ((v : Int) + 1) = ((v + 1 : Nat) : Int)) := by
          show _ = _
          rw [show (v : Int) + 1 = ((v + 1 : Nat) : Int) by omega]
          exact i64_wrap (by omega) (by omega)
        have HY5 : Hid (wrap64 ((uu : Int).tdiv ((v + 1 : Nat) : Int)) = (r : Int)) := by
          show _ = _
          rw [show (uu : Int).tdiv ((v + 1 : Nat) : Int) = (r : Int) by rw [← hr]; rfl]
          exact i64_wrap (by omega) (by omega)
        have HZ : Hid (¬ wrap64 (wrap64 ((E : Int) / 65536) + 1) = 0) := by
          show ¬ _
          rw [HY2.out, HY4.out]
          omega
        clear hcb heb hN hpi hu hv huu hr
        go_wp2
        all_goals first
          | exact absurd ‹wrap64 (wrap64 ((E : Int) / 65536) + 1) = 0› HZ.out
          | (go_ret
             rw [HP.out, HY1.out, HY2.out, HY3.out, HY4.out, HY5.out]
             exact ⟨rfl, below_drewN hb1 _⟩)

theorem rScore_any (a : Option Addr) (n cap : Nat) (zs : List Int) (lag : Int) (w : World) (hz : Zs w a n zs) (hn : n ≤ maxLen) :
    Calls Try.prog 12 #[.slice a n cap, .int .i64 lag] w fun e w' => e = .returned (.int .i64 (scoreI zs lag)) ∧ Below w.heap.size w w' := by
  cases hg : goodLagsB n lag lag with
  | false => exact rScore_bad a n cap zs lag w hz hn hg
  | true =>
    have hl := hz.len
    have hs := goodLagsB_score (zs := zs) (lag := lag) (by rw [hl]; exact hg)
    have hd := of_decide_eq_true hg
    obtain ⟨L, rfl⟩ : ∃ L : Nat, lag = (L : Int) := ⟨lag.toNat, by omega⟩
    rw [hs, hl, Int.toNat_natCast]
    exact rScore_good a n cap L zs w hz (by omega) (by omega) (by omega) (by omega)

end Pit
end Go.Proofs.Ytamiokleolfnoaa
