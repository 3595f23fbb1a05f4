/- A filter weakened, fitted, measured: what the document's own calls come to. -/
import Derived.Test.YtjaccokmficfdaaLpcK
namespace Go.Proofs.Ytjaccokmficfdaa
open Go.RowKit

theorem rchirp_far (a : Option Addr) (n cap : Nat) (c : Int) (w : World) (hn : 32 < n) :
    Calls Try.prog 50 #[.slice a n cap, .int .i64 c] w fun e w' => e = .returned (.slice none 0 0) ∧ w' = w := by
  have hn' : ((32 : Int) < n) = True := eq_true (by omega)
  go_enter Try.func50, Try.ntmps50
  go_wp2
  go_ret
  exact ⟨rfl, rfl⟩

theorem rfit_far (a : Option Addr) (n cap : Nat) (w : World) (hn : 32 < n) :
    Calls Try.prog 35 #[.slice a n cap] w fun e w' => e = .returned (.slice none 0 0) ∧ w' = w := by
  have hn' : ((32 : Int) < n) = True := eq_true (by omega)
  go_enter Try.func35, Try.ntmps35
  go_wp2
  go_ret
  exact ⟨rfl, rfl⟩

set_option maxRecDepth 100000 in
set_option maxHeartbeats 4000000 in
theorem rchirp_any (a : Option Addr) (n cap : Nat) (zs : List Int) (c : Int) (w : World) (hz : Zs w a n zs) (hn : n ≤ 32) :
    Calls Try.prog 50 #[.slice a n cap, .int .i64 c] w fun e w' => ∃ a' c', e = .returned (.slice a' n c') ∧ NewRow 2 w.heap.size w' a' (chirpL zs c) ∧ Below w.heap.size w w' := by
  have hl := hz.len
  have hn' : ((32 : Int) < n) = False := eq_false (by omega)
  have HZ : Hid (∀ W, Below w.heap.size w W → Zs W a n zs) := fun W hb => hz.keep hb
  have HF : Hid (∀ j, j < n → (chirpL zs c)[j]?.getD 0 = chirpN (clampI c 0 65536) (j + 1) (zs[j]?.getD 0)) := fun j hj => chirpL_at (by omega)
  have HL : Hid ((chirpL zs c).length = n) := by show _ = _; rw [chirpL_len, hl]
  clear hz hl
  generalize chirpL zs c = f at *
  go_enter Try.func50, Try.ntmps50
  go_wp2_with (go_at_call 31; refine (rclamp_any _ _ _ _).mono ?_; rintro e w ⟨rfl, rfl⟩)
  generalize clampI c 0 65536 = q at *
  go_loopw [5, 6, 7, 8] (fun v k _ _ W => ∃ m : Nat, m ≤ n ∧ k = .int .i64 m ∧ Hid (W.ownsRow w.heap.size 2 1 v m ((f.take m).map (Value.int .i64)) ∧ Below w.heap.size w W)) (fun _ k _ _ _ => n - (intOf k).toNat)
  case atStart => exact ⟨0, Nat.zero_le _, rfl, World.ownsRow_nil _ _ _ _, Below.refl _ _⟩
  case round =>
    obtain ⟨m, hm, rfl, HH⟩ := hrel
    have hown := HH.out.1
    have hbel := HH.out.2
    by_cases hlt : m < n
    · have hlt' : ((m : Int) < (n : Int)) = True := eq_true (by omega)
      obtain ⟨b, off, rfl, hb, hc⟩ := (HZ.out wr hbel).at_ (by omega)
      have hcm := hc m hlt
      have hfm := HF.out m hlt
      generalize zs[m]?.getD 0 = z at hcm hfm
      have HFm : Hid (chirpN q (m + 1) z = f[m]?.getD 0) := hfm.symm
      have HT : Hid (f.take m ++ [f[m]?.getD 0] = f.take (m + 1)) := (take_snoc (by rw [HL.out]; exact hlt)).symm
      have hsz := hbel.size
      have HM : Hid (n - (m + 1) < n - m) := by show _ < _; omega
      have hm6 : m ≤ 1000000 := by omega
      clear HH HF hc HZ hfm
      generalize f[m]?.getD 0 = fm at *
      go_wp2
      go_loopw [7, 8] (fun v i W => W = wr ∧ ∃ t : Nat, ∃ u : Int, t ≤ m + 1 ∧ i = .int .i64 t ∧ v = .int .i64 u ∧ Hid (u = chirpN q t z)) (fun _ i _ => m + 1 - (intOf i).toNat)
      case atStart => exact ⟨rfl, 0, z, Nat.zero_le _, rfl, rfl, rfl⟩
      case round =>
        obtain ⟨rfl, t, u, ht, rfl, rfl, HU⟩ := hrel
        by_cases htl : t < m + 1
        · have htl' : ((t : Int) ≤ (m : Int)) = True := eq_true (by omega)
          have HS : Hid (mulI u q 16 = chirpN q (t + 1) z) := by show _ = _; rw [HU.out]; rfl
          go_wp2_with (go_at_call 33; refine (rmul_any _ _ _ _).mono ?_; rw [HS.out]; rintro e w' ⟨rfl, rfl⟩)
          go_roundw
          case rel => exact ⟨trivial, t + 1, _, by omega, by go_num, rfl, rfl⟩
          case measure => simp [intOf]; omega
        · have htl' : ((t : Int) ≤ (m : Int)) = False := eq_false (by omega)
          have ht' : t = m + 1 := by omega
          subst ht'
          rw [HFm.out] at HU
          have e := HU.out
          subst e
          go_wp2_with (at_builtin; refine wpList_append_one 23 2 Try.underlying23 info_int64 w.heap.size _ m (f.take m) _ hown hm6 hsz rfl _ _ rfl rfl rfl ?_; rw [HT.out]; intro v' w6 hown6 hb6; have hb7 := hbel.trans hb6)
          go_roundw
          case rel => exact ⟨m + 1, by omega, by go_num, hown6, hb7⟩
          case measure => simp [intOf]; exact HM.out
    · have hlt' : ((m : Int) < (n : Int)) = False := eq_false (by omega)
      have hm' : m = n := by omega
      subst hm'
      rw [List.take_of_length_le (by rw [HL.out]; omega)] at hown
      obtain ⟨_, a', c', rfl, hnew⟩ := NewRow.of_owned hown
      clear hown HF HZ HH
      go_wp2
      go_ret
      exact ⟨_, _, rfl, hnew, hbel⟩

set_option maxRecDepth 100000 in
set_option maxHeartbeats 4000000 in
theorem rfit_any (a : Option Addr) (n cap : Nat) (zs : List Int) (w : World) (hz : Zs w a n zs) (hn : n ≤ 32) :
    Calls Try.prog 35 #[.slice a n cap] w fun e w' => ∃ a' c', e = .returned (.slice a' n c') ∧ NewRow 2 w.heap.size w' a' (fitZ zs) ∧ Below w.heap.size w w' := by
  have hl := hz.len
  have HF : Hid (fitZ zs = fitN 16 1 (zs.map c17)) := fitZ_near (by omega)
  have HL : Hid ((zs.map c17).length = n) := by show _ = _; rw [List.length_map, hl]
  have hn' : ((32 : Int) < n) = False := eq_false (by omega)
  have HC : Hid (Calls Try.prog 30 #[.slice a n cap, .int .i64 (-131072), .int .i64 131072] w fun e w' => ∃ a' c', e = .returned (.slice a' n c') ∧ NewRow 2 w.heap.size w' a' (zs.map c17) ∧ Below w.heap.size w w') := rclamped_all (-131072) 131072 a n cap zs w hz (by omega)
  have hmk := fun W : World => run_make_row' (P := Try.prog) 23 2 (.int .i64 0) 8 Try.underlying23 info_int64 rfl .i64 .i64 n (by omega) (by omega) W
  generalize fitZ zs = F at *
  clear hz hl
  go_enter Try.func35, Try.ntmps35
  go_wp2_with (go_at_call 30; refine HC.out.mono ?_; rintro e w1 ⟨a1, c1, rfl, hn1, hb1⟩)
  generalize zs.map c17 = z0 at *
  have HS : Hid (NewRow 2 w.heap.size w1 a1 z0 ∧ Below w.heap.size w w1) := ⟨hn1, hb1⟩
  clear hn1 hb1 HC
  go_loopw [3, 4] (fun s k W => ∃ (r : Nat) (a3 : Option Addr) (c3 : Nat) (b : List Int), 1 ≤ r ∧ r ≤ 17 ∧ k = .int .i64 r ∧ s = .slice a3 n c3 ∧ b.length = n ∧ Hid (fitN (17 - r) r b = F ∧ NewRow 2 w.heap.size W a3 b ∧ Below w.heap.size w W)) (fun _ k _ => 17 - (intOf k).toNat)
  case atStart => exact ⟨1, a1, c1, z0, Nat.le_refl _, by omega, rfl, rfl, HL.out, HF.out.symm, HS.out.1, HS.out.2⟩
  case round =>
    clear HS HF HL
    obtain ⟨r, a3, c3, b, hr1, hr2, rfl, rfl, hbl, HH⟩ := hrel
    have HZ : Hid (∀ W, Below wr.heap.size wr W → Zs W a3 n b) := fun W hW => (Zs.of_new HH.out.2.1 hbl).keep hW
    have HK : Hid (∀ W, Below wr.heap.size wr W → NewRow 2 w.heap.size W a3 b) := fun W hW => HH.out.2.1.keep hW
    have HB := HH.out.2.2
    have HB2 : Hid (∀ W, Below wr.heap.size wr W → Below w.heap.size w W) := fun W hW => HB.trans (hW.mono HB.size)
    have hfit := HH.out.1
    have hr0 := Below.refl wr.heap.size wr
    have HC : Hid (Calls Try.prog 49 #[.slice a3 n c3] wr fun e w' => e = .returned (.bool (stableZ b)) ∧ Below wr.heap.size wr w') := rstable_any a3 n c3 b wr (HZ.out _ hr0) hn
    by_cases hlt : r < 17
    · have hk : ((r : Int) ≤ 16) = True := eq_true (by omega)
      cases hs : stableZ b with
      | true =>
        rw [fitN_yes hs] at hfit
        subst hfit
        rw [hs] at HC
        clear HH hs
        go_wp2_with (go_at_call 49; refine HC.out.mono ?_; rintro e w4 ⟨rfl, hb4⟩)
        go_ret
        exact ⟨_, _, rfl, HK.out _ hb4, HB2.out _ hb4⟩
      | false =>
        rw [show 17 - r = (17 - (r + 1)) + 1 by omega, fitN_no hs] at hfit
        rw [hs] at HC
        clear HH hs
        go_wp2_with (first
          | (go_at_call 49; refine HC.out.mono ?_; rintro e w4 ⟨rfl, hb4⟩; have hz4 := HZ.out _ hb4)
          | (go_at_call 50; refine (rchirp_any _ _ _ b _ _ hz4 hn).mono ?_; rintro e w5 ⟨a5, c5, rfl, hn5, hb5⟩))
        have hb6 := HB2.out _ hb4
        go_roundw
        case rel => exact ⟨r + 1, _, _, _, by omega, by omega, by go_num, rfl, by rw [chirpL_len, hbl], hfit, hn5.mono hb6.size, hb6.trans (hb5.mono hb6.size)⟩
        case measure => simp [intOf]; omega
    · have hk : ((r : Int) ≤ 16) = False := eq_false (by omega)
      have hr : r = 17 := by omega
      subst hr
      cases hs : stableZ b with
      | true =>
        rw [fitN_yes hs] at hfit
        subst hfit
        rw [hs] at HC
        clear HH hs
        go_wp2_with (go_at_call 49; refine HC.out.mono ?_; rintro e w4 ⟨rfl, hb4⟩)
        go_ret
        exact ⟨_, _, rfl, HK.out _ hb4, HB2.out _ hb4⟩
      | false =>
        rw [show 17 - 17 = 0 from rfl, fitN_end hs, hbl] at hfit
        subst hfit
        rw [hs] at HC
        clear HH hs
        go_wp2_with (go_at_call 49; refine HC.out.mono ?_; rintro e w4 ⟨rfl, hb4⟩)
        have hb5 := HB2.out _ hb4
        go_ret
        exact ⟨_, _, rfl, (NewRow.made w4 n).mono hb5.size, hb5.alloc hb5.size _⟩

end Go.Proofs.Ytjaccokmficfdaa
