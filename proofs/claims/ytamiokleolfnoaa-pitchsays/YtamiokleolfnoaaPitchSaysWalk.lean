/- The law PitchSays answers true: the document's own scores and best lags. -/
import Derived.Test.YtamiokleolfnoaaPitchO
import Derived.Test.YtamiokleolfnoaaPitchP
import Derived.Test.YtamiokleolfnoaaActs
namespace Go.Proofs.Ytamiokleolfnoaa
open Go.RowKit Pit

theorem bad_of {n : Nat} {a M b : Int} (h : ¬ (goodLagsB n a M = true ∧ 1 ≤ b ∧ b ≤ 32)) : n < 2 ∨ 960 < n ∨ a < 1 ∨ M < a ∨ (n : Int) / 2 < M ∨ b < 1 ∨ 32 < b := by
  unfold goodLagsB at h
  rw [decide_eq_true_iff] at h
  omega

set_option maxRecDepth 100000 in
set_option maxHeartbeats 3200000 in
theorem pitchSays.walk (x : Option Addr) (n cap : Nat) (zq : List Int) (lag a M b : Int) (w : World) (hq : IsRow .i64 w x n cap zq) (_ : (Lit.int .i64 lag).wf = true) (_ : (Lit.int .i64 a).wf = true) (_ : (Lit.int .i64 M).wf = true) (_ : (Lit.int .i64 b).wf = true) :
    Calls Try.prog 4 #[.slice x n cap, .int .i64 lag, .int .i64 a, .int .i64 M, .int .i64 b] w fun e w' => e = .returned (.bool true) ∧ Below w.heap.size w w' := by
  obtain ⟨hz, hm, _⟩ := Zs.of_isRow hq
  clear hq
  generalize zq.take n = zs at hz
  have HZ : Hid (∀ W, Below w.heap.size w W → Zs W x n zs) := fun W hW => hz.keep hW
  have HL : Hid (zs.length = n ∧ n ≤ maxLen) := ⟨hz.len, hm⟩
  have hm2 : (n : Int) ≤ 9223372036854775807 := by simp only [maxLen] at hm; omega
  have hb := Below.refl w.heap.size w
  clear hz hm
  by_cases hn : 1000 < n
  · go_enter Try.func4, Try.ntmps4
    go_wp2_with (go_at_call 8; refine (awake_any _).mono ?_; rintro e w1 ⟨rfl, hb1⟩; replace hb := hb.trans (hb1.mono hb.size); clear hb1)
    go_ret
    exact ⟨rfl, hb⟩
  · obtain ⟨sc, hsc⟩ : ∃ sc, scoreI zs lag = sc := ⟨_, rfl⟩
    have HSC : Hid (scoreI zs lag = sc) := hsc
    clear hsc
    have HCOPY : Hid (∀ W, Below w.heap.size w W → 0 < n → ∃ y, x = some y ∧ ∀ i, i < n → W.cell? (y.add i) = some (.int .i64 (zs[i]?.getD 0))) := fun W hW h0 => zs_adds (HZ.out W hW) h0
    have HN : Hid (n ≤ 1000 ∧ n * 8 ≤ 140737488355328) := ⟨by omega, by omega⟩
    have g1 : Hid True := trivial
    by_cases hg : goodLagsB n a M = true ∧ 1 ≤ b ∧ b ≤ 32
    · obtain ⟨hg0, hg1, hg2⟩ := hg
      have hgd := of_decide_eq_true hg0
      obtain ⟨a, rfl⟩ : ∃ z : Nat, a = (z : Int) := ⟨a.toNat, by omega⟩
      obtain ⟨M, rfl⟩ : ∃ z : Nat, M = (z : Int) := ⟨M.toNat, by omega⟩
      obtain ⟨b, rfl⟩ : ∃ z : Nat, b = (z : Int) := ⟨b.toNat, by omega⟩
      obtain ⟨d, hd⟩ : ∃ d, a + d = M := ⟨M - a, by omega⟩
      have HG : Hid (goodLagsB n a M = true ∧ 1 ≤ b ∧ b ≤ 32 ∧ a + d = M) := ⟨hg0, by omega, by omega, hd⟩
      have hf1 : 2 ≤ n := hgd.1
      have hf2 : n ≤ 960 := hgd.2.1
      have hf3 : (1 : Int) ≤ a := hgd.2.2.1
      have hf4 : (a : Int) ≤ M := hgd.2.2.2.1
      have hf5 : (M : Int) ≤ (n : Int) / 2 := by omega
      obtain ⟨c, hc⟩ : ∃ c, min b (d + 1) = c := ⟨_, rfl⟩
      have HC : Hid (min b (d + 1) = c ∧ 0 < c ∧ c ≤ 32 ∧ (topL zs a b (d + 1)).length = c) := ⟨hc, by omega, by omega, by rw [topL_len, hc]⟩
      clear hgd hg0 hd hc
      go_enter Try.func4, Try.ntmps4
      go_wp2_with (first
        | (go_at_call 8; refine (awake_any _).mono ?_; rintro e w1 ⟨rfl, hb1⟩; replace hb := hb.trans (hb1.mono hb.size); clear hb1)
        | (at_builtin; clear g1; go_loud (refine wpList_append_copy 27 2 Try.underlying27 info_int64 x n cap zs HL.out.1 HN.out.2 (HCOPY.out _ hb) rfl _ _ rfl rfl rfl ?_; intro r1 c1 w2 hr1 hb2; have hz1 := Zs.of_new hr1 HL.out.1; replace hb := hb.trans (hb2.mono hb.size); clear hb2))
        | (go_at_call 11; go_loud (refine (Score_any r1 n c1 zs lag _ hz1 HL.out.2).mono ?_; rw [HSC.out]; rintro e w3 ⟨rfl, hb3⟩; replace hb := hb.trans (hb3.mono hb.size); clear hb3))
        | (go_at_call 12; go_loud (refine (rScore_any x n cap zs lag _ (HZ.out _ hb) HL.out.2).mono ?_; rw [HSC.out]; rintro e w4 ⟨rfl, hb4⟩; replace hb := hb.trans (hb4.mono hb.size); clear hb4))
        | (at_builtin; go_loud (refine wpList_append_copy 27 2 Try.underlying27 info_int64 x n cap zs HL.out.1 HN.out.2 (HCOPY.out _ hb) rfl _ _ rfl rfl rfl ?_; intro r2 c2 w5 hr2 hb5; have hz2 := Zs.of_new hr2 HL.out.1; replace hb := hb.trans (hb5.mono hb.size); clear hb5))
        | (go_at_call 9; go_loud (refine (search_good r2 n c2 zs a M b d _ hz2 HG.out.1 HG.out.2.1 HG.out.2.2.1 HG.out.2.2.2).mono ?_; rw [HC.out.1]; rintro e w6 ⟨r, rfl, hr6, hb6⟩; replace hb := hb.trans (hb6.mono hb.size); clear hb6))
        | (go_at_call 13; go_loud (refine (rbest_any x n cap zs a M b d _ (HZ.out _ hb) HG.out.1 HG.out.2.1 HG.out.2.2.1 HG.out.2.2.2).mono ?_; rintro e w7 ⟨v, rfl, hv7, hb7⟩; obtain ⟨g7, cp7, rfl, hg7, hc7⟩ := hv7.some_of HC.out.2.2.2 HC.out.2.1; replace hr6 := hr6.below hb7; replace hb := hb.trans (hb7.mono hb.size); clear hb7 hv7)))
      have HCE : Hid (∀ j, j < c → (w7.cell? ⟨g7, j * 2, none⟩ = some (.int .i64 ((topL zs a b (d + 1))[j]?.getD (0, 0)).1) ∧ w7.cell? ⟨g7, j * 2 + 1, none⟩ = some (.int .i64 ((topL zs a b (d + 1))[j]?.getD (0, 0)).2)) ∧ w7.cell? ⟨r, j * 2, none⟩ = some (.int .i64 ((topL zs a b (d + 1))[j]?.getD (0, 0)).1) ∧ w7.cell? ⟨r, j * 2 + 1, none⟩ = some (.int .i64 ((topL zs a b (d + 1))[j]?.getD (0, 0)).2)) := fun j hj => ⟨hc7 j hj, hr6.cells hj⟩
      clear hc7 hr6 hz1 hz2 hr1 hr2 hg7
      generalize topL zs a b (d + 1) = l at *
      go_loopw [14] (fun y W => (∃ k, W = w7.drewN k) ∧ ∃ j : Nat, j ≤ c ∧ y = .int .i64 j) (fun y _ => c - (intOf y).toNat)
      case atStart => exact ⟨⟨0, rfl⟩, 0, Nat.zero_le _, rfl⟩
      case round =>
        obtain ⟨⟨k, rfl⟩, j, hj, rfl⟩ := hrel
        by_cases hjc : j < c
        · obtain ⟨⟨e0, e1⟩, e2, e3⟩ := HCE.out j hjc
          generalize (l[j]?.getD (0, 0)).1 = z1 at e0 e2
          generalize (l[j]?.getD (0, 0)).2 = z2 at e1 e3
          have hjI : (j : Int) < (c : Int) := by omega
          have hcb := HC.out.2.2.1
          go_wp2
          go_quiet (fail)
          go_wp2
          go_roundw
          case rel => exact ⟨⟨_, rfl⟩, j + 1, by omega, by go_num⟩
          case measure => simp [intOf]; omega
        · go_wp2
          go_ret
          exact ⟨rfl, below_drewN hb k⟩
    · have HBAD : Hid (¬ (goodLagsB n a M = true ∧ 1 ≤ b ∧ b ≤ 32)) := hg
      have HBD : Hid (n < 2 ∨ 960 < n ∨ a < 1 ∨ M < a ∨ (n : Int) / 2 < M ∨ b < 1 ∨ 32 < b) := bad_of hg
      clear hg
      go_enter Try.func4, Try.ntmps4
      go_wp2_with (first
        | (go_at_call 8; refine (awake_any _).mono ?_; rintro e w1 ⟨rfl, hb1⟩; replace hb := hb.trans (hb1.mono hb.size); clear hb1)
        | (at_builtin; clear g1; go_loud (refine wpList_append_copy 27 2 Try.underlying27 info_int64 x n cap zs HL.out.1 HN.out.2 (HCOPY.out _ hb) rfl _ _ rfl rfl rfl ?_; intro r1 c1 w2 hr1 hb2; have hz1 := Zs.of_new hr1 HL.out.1; replace hb := hb.trans (hb2.mono hb.size); clear hb2))
        | (go_at_call 11; go_loud (refine (Score_any r1 n c1 zs lag _ hz1 HL.out.2).mono ?_; rw [HSC.out]; rintro e w3 ⟨rfl, hb3⟩; replace hb := hb.trans (hb3.mono hb.size); clear hb3))
        | (go_at_call 12; go_loud (refine (rScore_any x n cap zs lag _ (HZ.out _ hb) HL.out.2).mono ?_; rw [HSC.out]; rintro e w4 ⟨rfl, hb4⟩; replace hb := hb.trans (hb4.mono hb.size); clear hb4))
        | (at_builtin; go_loud (refine wpList_append_copy 27 2 Try.underlying27 info_int64 x n cap zs HL.out.1 HN.out.2 (HCOPY.out _ hb) rfl _ _ rfl rfl rfl ?_; intro r2 c2 w5 hr2 hb5; have hz2 := Zs.of_new hr2 HL.out.1; replace hb := hb.trans (hb5.mono hb.size); clear hb5))
        | (go_at_call 9; go_loud (refine (search_bad r2 n c2 a M b (by omega) _ HBAD.out).mono ?_; rintro e w5 ⟨rfl, rfl⟩)))
      all_goals first
        | (exfalso; have := HBD.out; omega)
        | (go_ret; exact ⟨rfl, hb⟩)

end Go.Proofs.Ytamiokleolfnoaa
