/- Package pitch's small calls: which lags may be asked for, a sound as samples of 16 bits, its score; the document's score beside it. -/
import Derived.Test.YtamiokleolfnoaaPitchN
import Derived.Test.YtamiokleolfnoaaNumB
import Derived.Test.YtamiokleolfnoaaFixR
import Derived.Test.YtamiokleolfnoaaTabsE
import Derived.OwnWalk
import Derived.Deep.AppendLies
namespace Go.Proofs.Ytamiokleolfnoaa
namespace Pit
open Go.RowKit

def goodLagsB (n : Nat) (a b : Int) : Bool := decide (2 ≤ n ∧ n ≤ 960 ∧ 1 ≤ a ∧ a ≤ b ∧ b ≤ ((n / 2 : Nat) : Int))

theorem goodLags_any (n : Nat) (hn : n ≤ 9223372036854775807) (a b : Int) (w : World) :
    Calls Try.prog 14 #[.int .i64 n, .int .i64 a, .int .i64 b] w fun e w' => e = .returned (.bool (goodLagsB n a b)) ∧ w' = w := by
  obtain ⟨f, hf⟩ : ∃ f, n / 2 = f := ⟨_, rfl⟩
  obtain ⟨G, hG⟩ : ∃ G, goodLagsB n a b = G := ⟨_, rfl⟩
  have HW : Hid ((f : Int) = (n : Int) / 2) := by
    show _ = _
    omega
  have HG : Hid (decide (2 ≤ n ∧ n ≤ 960 ∧ 1 ≤ a ∧ a ≤ b ∧ b ≤ (f : Int)) = G) := by
    show _ = _
    rw [← hG, ← hf]
    rfl
  rw [hG]
  clear hf hG
  by_cases h1 : 2 ≤ n
  · by_cases h2 : n ≤ 960
    · by_cases h3 : 1 ≤ a
      · by_cases h4 : a ≤ b
        · obtain rfl : decide (b ≤ (f : Int)) = G := by
            rw [← HG.out]
            exact decide_eq_decide.2 ⟨fun h => ⟨h1, h2, h3, h4, h⟩, fun h => h.2.2.2.2⟩
          rw [HW.out]
          clear HG HW
          go_enter Try.func14, Try.ntmps14
          go_wp2
          go_ret
          exact ⟨rfl, rfl⟩
        · obtain rfl : false = G := by
            rw [← HG.out]
            exact (decide_eq_false fun h => h4 h.2.2.2.1).symm
          go_enter Try.func14, Try.ntmps14
          go_wp2
          go_ret
          exact ⟨rfl, rfl⟩
      · obtain rfl : false = G := by
          rw [← HG.out]
          exact (decide_eq_false fun h => h3 h.2.2.1).symm
        go_enter Try.func14, Try.ntmps14
        go_wp2
        go_ret
        exact ⟨rfl, rfl⟩
    · obtain rfl : false = G := by
        rw [← HG.out]
        exact (decide_eq_false fun h => h2 h.2.1).symm
      go_enter Try.func14, Try.ntmps14
      go_wp2
      go_ret
      exact ⟨rfl, rfl⟩
  · obtain rfl : false = G := by
      rw [← HG.out]
      exact (decide_eq_false fun h => h1 h.1).symm
    go_enter Try.func14, Try.ntmps14
    go_wp2
    go_ret
    exact ⟨rfl, rfl⟩

/-! ### Samples of 16 bits -/
def s16L (zs : List Int) : List Int := zs.map s16
theorem s16L_len (zs : List Int) : (s16L zs).length = zs.length := by unfold s16L; rw [List.length_map]
theorem s16L_at (zs : List Int) (j : Nat) : (s16L zs)[j]?.getD 0 = s16 (zs[j]?.getD 0) := by
  unfold s16L
  rw [List.getElem?_map]
  cases zs[j]? <;> rfl

set_option maxHeartbeats 1000000 in
theorem saturated_any (a : Option Addr) (n cap : Nat) (zs : List Int) (w : World) (hz : Zs w a n zs) (hn : n ≤ 100000) :
    Calls Try.prog 15 #[.slice a n cap] w fun e w' => ∃ a', e = .returned (.slice a' n n) ∧ NewRow 2 w.heap.size w' a' (s16L zs) ∧ Below w.heap.size w w' := by
  have hl := hz.len
  have HZ : Hid (∀ W, Below w.heap.size w W → Zs W a n zs) := fun W hb => hz.keep hb
  have HF : Hid (∀ j, (s16L zs)[j]?.getD 0 = s16 (zs[j]?.getD 0)) := fun j => s16L_at zs j
  have HL : Hid ((s16L zs).length = n) := by show _ = _; rw [s16L_len, hl]
  clear hz hl
  generalize s16L zs = f at *
  have hmk := fun W : World => run_make_row' (P := Try.prog) 27 2 (.int .i64 0) 8 Try.underlying27 info_int64 rfl .i64 .i64 n (by omega) (by omega) W
  go_enter Try.func15, Try.ntmps15
  go_wp2
  go_loopw [4, 5, 11] (fun _ _ k W => ∃ m : Nat, m ≤ n ∧ k = .int .i64 m ∧ W.rowIs w.heap.size 2 n (fun j => .int .i64 (if j < m then f[j]?.getD 0 else 0)) ∧ Below w.heap.size w W) (fun _ _ k _ => n - (intOf k).toNat)
  case atStart => exact ⟨0, Nat.zero_le _, rfl, World.rowIs_made w _ _ _, (Below.refl _ _).alloc (Nat.le_refl _) _⟩
  case round =>
    obtain ⟨m, hm, rfl, hrow, hbel⟩ := hrel
    by_cases hlt : m < n
    · have hfz := hrow.frozen m
      obtain ⟨x, hx⟩ : ∃ x, wr.cell? ⟨w.heap.size, m, none⟩ = some x := ⟨_, hrow.cell hlt⟩
      obtain ⟨b, off, rfl, hb, hc⟩ := (HZ.out wr hbel).at_ (by omega)
      have hcm := hc m hlt
      have hfm := HF.out m
      generalize zs[m]?.getD 0 = z at hcm hfm
      have HFm : Hid (clampI z (-32768) 32767 = f[m]?.getD 0) := hfm.symm
      have HR : Hid ((wr.setCell ⟨w.heap.size, m, none⟩ (.int .i64 (f[m]?.getD 0))).rowIs w.heap.size 2 n (fun j => .int .i64 (if j < m + 1 then f[j]?.getD 0 else 0))) := rowIs_step (f := fun j => f[j]?.getD 0) hrow (by omega)
      have HB : Hid (Below w.heap.size w (wr.setCell ⟨w.heap.size, m, none⟩ (.int .i64 (f[m]?.getD 0)))) := hbel.setCell (Nat.le_refl _) _
      clear hrow hbel HF hc HZ hfm
      generalize f[m]?.getD 0 = fm at HFm HR HB
      go_wp2_with (go_at_call 22; refine (sat16_any _ _).mono ?_; rw [HFm.out]; rintro e w' ⟨rfl, rfl⟩)
      go_roundw
      case rel => exact ⟨m + 1, by omega, by go_num, HR.out, HB.out⟩
      case measure => simp [intOf]; omega
    · have hm' : m = n := by omega
      subst hm'
      have HR : Hid (NewRow 2 w.heap.size wr (some ⟨w.heap.size, 0, none⟩) f) := NewRow.of_rowIs hrow (Nat.le_refl _) HL.out (fun j hj => by rw [if_pos hj])
      clear hrow HF HZ
      go_wp2
      go_ret
      exact ⟨_, rfl, HR.out, hbel⟩

/-! ### A score -/
theorem i64_wrap {z : Int} (h1 : -9223372036854775808 ≤ z) (h2 : z ≤ 9223372036854775807) : wrap64 z = z := by unfold wrap64; omega

theorem pointI_no {c : Int} (e : Int) (h : c ≤ 0) : pointI c e = 0 := if_pos h
theorem pointI_yes {c e : Nat} (h : ¬ ((c : Nat) : Int) ≤ 0) : pointI c e = ((c / 256 * (c / 256) / (e / 65536 + 1) : Nat) : Int) := by
  unfold pointI
  rw [if_neg h]
  simp
theorem point_in {c e : Nat} (hc : c ≤ 515396075520) (he : e ≤ 515396075520) : c / 256 ≤ 2013265920 ∧ e / 65536 + 1 ≤ 7864321 ∧ c / 256 * (c / 256) ≤ 4053239664633446400 ∧ c / 256 * (c / 256) / (e / 65536 + 1) ≤ 4053239664633446400 := by
  have h1 : c / 256 ≤ 2013265920 := by omega
  have h2 : c / 256 * (c / 256) ≤ 2013265920 * 2013265920 := Nat.mul_le_mul h1 h1
  have h3 : c / 256 * (c / 256) / (e / 65536 + 1) ≤ c / 256 * (c / 256) := Nat.div_le_self _ _
  exact ⟨h1, by omega, by omega, by omega⟩

set_option maxRecDepth 100000 in
set_option maxHeartbeats 1600000 in
theorem score_any (a : Option Addr) (n cap L : Nat) (zs : List Int) (w : World) (hz : Zs w a n (s16L zs)) (hn2 : 2 ≤ n) (hn : n ≤ 960) (h1 : 1 ≤ L) (h2 : L ≤ n / 2) :
    Calls Try.prog 17 #[.slice a n cap, .int .i64 L] w fun e w' => e = .returned (.int .i64 (pointI (corrI zs L (n / 2) (n - n / 2)) (enI zs L (n / 2) (n - n / 2)))) ∧ ∃ k, w' = w.drewN k := by
  obtain ⟨b, off, rfl, _, hc⟩ := hz.at_ (by omega)
  have HC : Hid (∀ i, i < n → w.cell? ⟨b, off + i, none⟩ = some (.int .i64 (s16 (zs[i]?.getD 0)))) := fun i hi => by rw [hc i hi, s16L_at]
  clear hc hz
  obtain ⟨f, hf⟩ : ∃ f, n / 2 = f := ⟨_, rfl⟩
  obtain ⟨K, hK⟩ : ∃ K, n - f = K := ⟨_, rfl⟩
  rw [hf, hK]
  have HN : Hid (n / 2 = f ∧ n - f = K ∧ 2 ≤ n ∧ n ≤ 960 ∧ 1 ≤ L ∧ L ≤ f) := ⟨hf, hK, hn2, hn, h1, by omega⟩
  have HCI : Hid (∀ k, corrI zs L f (k + 1) = corrI zs L f k + s16 (zs[f + k]?.getD 0) * s16 (zs[f + k - L]?.getD 0)) := fun _ => rfl
  have HEI : Hid (∀ k, enI zs L f (k + 1) = enI zs L f k + s16 (zs[f + k - L]?.getD 0) * s16 (zs[f + k - L]?.getD 0)) := fun _ => rfl
  have HCB : Hid (∀ k : Nat, -((k : Int) * 1073741824) ≤ corrI zs L f k ∧ corrI zs L f k ≤ (k : Int) * 1073741824) := corrI_in zs L f
  have HEB : Hid (∀ k : Nat, 0 ≤ enI zs L f k ∧ enI zs L f k ≤ (k : Int) * 1073741824) := enI_in zs L f
  have hC0 : corrI zs L f 0 = 0 := rfl
  have hE0 : enI zs L f 0 = 0 := rfl
  generalize corrI zs L f = C at *
  generalize enI zs L f = D at *
  have hw : wrap64 ((n : Int) / 2) = (f : Int) := by
    have := HN.out
    clear HCI HEI HCB HEB
    rw [show (n : Int) / 2 = (f : Int) by omega]
    exact i64_wrap (by omega) (by omega)
  have HWF : Hid (wrap64 ((n : Int) / 2) = ((f + 0 : Nat) : Int)) := hw
  have HC0 : Hid (C 0 = 0 ∧ D 0 = 0) := ⟨hC0, hE0⟩
  clear hf hK hn2 hn h1 h2 hC0 hE0
  go_enter Try.func17, Try.ntmps17
  go_wp2
  go_loopw [5, 6, 7] (fun c e i W => (∃ d, W = w.drewN d) ∧ ∃ k : Nat, k ≤ K ∧ c = .int .i64 (C k) ∧ e = .int .i64 (D k) ∧ i = .int .i64 ((f + k : Nat) : Int)) (fun _ _ i _ => n - (intOf i).toNat)
  case atStart => exact ⟨⟨0, rfl⟩, 0, Nat.zero_le _, by rw [HC0.out.1], by rw [HC0.out.2], by rw [HWF.out]⟩
  case round =>
    clear hw
    obtain ⟨⟨d, rfl⟩, k, hk, rfl, rfl, rfl⟩ := hrel
    obtain ⟨m, hm⟩ : ∃ m, f + k = m := ⟨_, rfl⟩
    rw [hm]
    by_cases hlt : m < n
    · obtain ⟨q, hq⟩ : ∃ q, m - L = q := ⟨_, rfl⟩
      have hN := HN.out
      have hcm := HC.out m hlt
      have hcq := HC.out q (by omega)
      have hw1 : wrap64 ((m : Int) - (L : Int)) = (q : Int) := by
        rw [show (m : Int) - (L : Int) = (q : Int) by omega]
        exact i64_wrap (by omega) (by omega)
      have hci := HCI.out k
      have hei := HEI.out k
      rw [hm, hq] at hci hei
      have hcb := HCB.out k
      have heb := HEB.out k
      have hcb1 := HCB.out (k + 1)
      have heb1 := HEB.out (k + 1)
      have hp1 := prod16 (s16_in (zs[m]?.getD 0)).1 (s16_in (zs[m]?.getD 0)).2 (s16_in (zs[q]?.getD 0)).1 (s16_in (zs[q]?.getD 0)).2
      have hp2 := prod16 (s16_in (zs[q]?.getD 0)).1 (s16_in (zs[q]?.getD 0)).2 (s16_in (zs[q]?.getD 0)).1 (s16_in (zs[q]?.getD 0)).2
      generalize s16 (zs[m]?.getD 0) = x at *
      generalize s16 (zs[q]?.getD 0) = y at *
      obtain ⟨xy, hxy⟩ : ∃ z, x * y = z := ⟨_, rfl⟩
      obtain ⟨yy, hyy⟩ : ∃ z, y * y = z := ⟨_, rfl⟩
      rw [hxy] at hp1 hci
      rw [hyy] at hp2 hei
      have HX1 : Hid (wrap64 (x * y) = xy) := by show _ = _; rw [hxy]; exact i64_wrap (by omega) (by omega)
      have HX2 : Hid (wrap64 (y * y) = yy) := by show _ = _; rw [hyy]; exact i64_wrap (by omega) (by omega)
      have HA1 : Hid (wrap64 (C k + xy) = C (k + 1)) := by show _ = _; rw [hci]; exact i64_wrap (by omega) (by omega)
      have HA2 : Hid (wrap64 (D k + yy) = D (k + 1)) := by show _ = _; rw [hei]; exact i64_wrap (by omega) (by omega)
      have hqi : ((q : Int) < 0) = False := eq_false (by omega)
      have hqn : ((q : Int) < (n : Int)) := by omega
      have HM : Hid (f + k = m ∧ k < K ∧ m < n) := ⟨hm, by omega, hlt⟩
      have HM1 : Hid (wrap64 ((m : Int) + 1) = ((m + 1 : Nat) : Int)) := by
        show _ = _
        rw [show (m : Int) + 1 = ((m + 1 : Nat) : Int) by omega]
        exact i64_wrap (by omega) (by omega)
      clear hm hq hN hci hei hcb heb hcb1 heb1 hp1 hp2 hxy hyy hk
      go_wp2
      go_quiet (fail)
      go_wp2
      go_quiet (fail)
      go_wp2
      go_roundw
      case rel => exact ⟨⟨_, rfl⟩, k + 1, by have := HM.out; omega, by rw [HX1.out, HA1.out], by rw [HX2.out, HA2.out], by rw [← Nat.add_assoc, HM.out.1, HM1.out]⟩
      case measure =>
        rw [HM1.out]
        have := HM.out.2.2
        simp [intOf]
        omega
    · obtain rfl : k = K := by have := HN.out; omega
      have hN := HN.out
      have hcb := HCB.out k
      have heb := HEB.out k
      obtain ⟨c, hc⟩ : ∃ c, C k = c := ⟨_, rfl⟩
      obtain ⟨E, hE⟩ : ∃ E : Nat, D k = (E : Int) := ⟨(D k).toNat, by omega⟩
      have HQ : Hid (pointI (C k) (D k) = pointI c E) := by show _ = _; rw [hc, hE]
      rw [hc, hE]
      rw [hc] at hcb
      rw [hE] at heb
      clear HCI HEI HCB HEB HC HC0 hc hE
      by_cases h0 : c ≤ 0
      · have HP : Hid (pointI (C k) (D k) = 0) := HQ.out.trans (pointI_no _ h0)
        clear hcb heb hN
        go_wp2
        go_ret
        rw [HP.out]
        exact ⟨rfl, _, rfl⟩
      · obtain ⟨c, rfl⟩ : ∃ x : Nat, c = (x : Int) := ⟨c.toNat, by omega⟩
        have HP : Hid (pointI (C k) (D k) = ((c / 256 * (c / 256) / (E / 65536 + 1) : Nat) : Int)) := HQ.out.trans (pointI_yes h0)
        have hpi := point_in (c := c) (e := E) (by omega) (by omega)
        obtain ⟨u, hu⟩ : ∃ u, c / 256 = u := ⟨_, rfl⟩
        obtain ⟨v, hv⟩ : ∃ v, E / 65536 = v := ⟨_, rfl⟩
        obtain ⟨uu, huu⟩ : ∃ z, u * u = z := ⟨_, rfl⟩
        obtain ⟨r, hr⟩ : ∃ z, uu / (v + 1) = z := ⟨_, rfl⟩
        rw [hu, hv, huu, hr] at hpi HP
        have HY1 : Hid (wrap64 ((c : Int) / 256) = (u : Int)) := by
          show _ = _
          rw [show (c : Int) / 256 = (u : Int) by omega]
          exact i64_wrap (by omega) (by omega)
        have HY2 : Hid (wrap64 ((E : Int) / 65536) = (v : Int)) := by
          show _ = _
          rw [show (E : Int) / 65536 = (v : Int) by omega]
          exact i64_wrap (by omega) (by omega)
        have HY3 : Hid (wrap64 ((u : Int) * (u : Int)) = (uu : Int)) := by
          show _ = _
          rw [show (u : Int) * (u : Int) = (uu : Int) by rw [← huu]; simp]
          exact i64_wrap (by omega) (by omega)
        have HY4 : Hid (wrap64 ((v : Int) + 1) = ((v + 1 : Nat) : Int)) := by
          show _ = _
          rw [show (v : Int) + 1 = ((v + 1 : Nat) : Int) by omega]
          exact i64_wrap (by omega) (by omega)
        have HY5 : Hid (wrap64 ((uu : Int).tdiv ((v + 1 : Nat) : Int)) = (r : Int)) := by
          show _ = _
          rw [show (uu : Int).tdiv ((v + 1 : Nat) : Int) = (r : Int) by rw [← hr]; rfl]
          exact i64_wrap (by omega) (by omega)
        have HZ : Hid (¬ wrap64 (wrap64 ((E : Int) / 65536) + 1) = 0) := by
          show ¬ _
          rw [HY2.out, HY4.out]
          omega
        clear hcb heb hN hpi hu hv huu hr
        go_wp2
        all_goals first
          | exact absurd ‹wrap64 (wrap64 ((E : Int) / 65536) + 1) = 0› HZ.out
          | (go_ret
             rw [HP.out, HY1.out, HY2.out, HY3.out, HY4.out, HY5.out]
             exact ⟨rfl, _, rfl⟩)

end Pit
end Go.Proofs.Ytamiokleolfnoaa
