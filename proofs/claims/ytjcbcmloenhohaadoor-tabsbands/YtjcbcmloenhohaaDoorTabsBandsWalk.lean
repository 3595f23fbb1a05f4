/- The law of bands answers true, of any rate and length. -/
import Derived.Test.YtjcbcmloenhohaaDoorTabsK
namespace Go.Proofs.YtjcbcmloenhohaaDoor
open Go.RowKit

theorem edge_rises : ∀ k, k < 19 → edgesL[k]?.getD 0 < edgesL[k + 1]?.getD 0 := by decide

theorem bands_none (rate ms : Int) (w : World) (he : EdgesAt w) (ht : TapsAt w) (h : rateB rate = false ∨ (rateB rate = true ∧ ¬ ms = 10 ∧ ¬ ms = 20)) :
    Calls Tryd.prog 7 #[.int .i64 rate, .int .i64 ms] w fun e w' => e = .returned (.bool true) ∧ Below w.heap.size w w' := by
  have HB : Hid (binsP rate ms 0 = (0, 0)) := binsP_none (by
    rcases h with h | ⟨_, h1, h2⟩
    · right; right
      have := of_decide_eq_false h
      omega
    · left
      rw [wideI, if_neg h1, if_neg h2])
  have hb := Below.refl w.heap.size w
  rcases h with h | ⟨h, h1, h2⟩
  case' inr =>
    have q1 : (ms != 10) = true := by rw [bne_iff_ne]; exact h1
    have q2 : (ms != 20) = true := by rw [bne_iff_ne]; exact h2
  all_goals
    have HR : Hid (rateB rate = _) := h
    clear h
    go_enter Tryd.func7, Tryd.ntmps7
    go_wp2_with (first
      | (go_at_call 9; refine (awake_any _ he ht).mono ?_; rintro e w1 ⟨rfl, hw1⟩; replace hb := hb.trans (hw1.mono hb.size); clear hw1)
      | (go_at_call 15; refine (rate_any _ _).mono ?_; rw [HR.out]; rintro e w' ⟨rfl, rfl⟩)
      | (go_at_call 18; refine (bins_any _ _ _ _ (he.keep hb)).mono ?_; rw [HB.out]; rintro e w2 ⟨rfl, nd, rfl⟩; replace hb := below_drewN hb nd))
    go_ret
    exact ⟨rfl, hb⟩

theorem bands_some (rate ms W : Int) (N : Nat) (w : World) (he : EdgesAt w) (ht : TapsAt w) (hR : rateB rate = true) (hms : ms = 10 ∨ ms = 20) (hw : wideI ms = W) (hW : 4 ≤ W ∧ W ≤ 8) (hN : edgesN rate = N + 1) (hN2 : N ≤ 19)
    (h1 : 0 ≤ rate * ms ∧ rate * ms ≤ 1000000) (hend : W * edgesL[N]?.getD 0 = rate * ms / 1000) :
    Calls Tryd.prog 7 #[.int .i64 rate, .int .i64 ms] w fun e w' => e = .returned (.bool true) ∧ Below w.heap.size w w' := by
  have HB : Hid (∀ k : Nat, k < N → binsP rate ms (k : Int) = (W * edgesL[k]?.getD 0, W * edgesL[k + 1]?.getD 0)) := fun k hk => binsP_in (by omega) hw (by omega)
  have HR : Hid (rateB rate = true) := hR
  have HN : Hid (edgesN rate = N + 1) := hN
  have HE : Hid (W * edgesL[N]?.getD 0 = rate * ms / 1000) := hend
  clear hR hN hw hend
  have hb := Below.refl w.heap.size w
  rcases hms with h | h
  case' inl =>
    have q1 : (ms != 10) = false := by rw [h]; rfl
  case' inr =>
    have q1 : (ms != 10) = true := by rw [h]; rfl
    have q2 : (ms != 20) = false := by rw [h]; rfl
  all_goals
    clear h
    go_enter Tryd.func7, Tryd.ntmps7
    go_wp2_with (first
      | (go_at_call 9; refine (awake_any _ he ht).mono ?_; rintro e w1 ⟨rfl, hw1⟩; replace hb := hb.trans (hw1.mono hb.size); clear hw1)
      | (go_at_call 15; refine (rate_any _ _).mono ?_; rw [HR.out]; rintro e w' ⟨rfl, rfl⟩)
      | (go_at_call 12; refine (edges_any _ _ (he.keep hb)).mono ?_; rw [HN.out]; rintro e w3 ⟨a3, c3, rfl, hn3, hb3⟩; replace hb := hb.trans (hb3.mono hb.size); clear hb3 hn3))
    go_loopw [7, 9, 10, 11] (fun at_ k _ _ V => Below w.heap.size w V ∧ ∃ m : Nat, ∃ v : Int, m ≤ N ∧ k = .int .i64 m ∧ at_ = .int .i64 v ∧ Hid (v = W * edgesL[m]?.getD 0)) (fun _ k _ _ _ => N - (intOf k).toNat)
    case atStart => exact ⟨hb, 0, 0, Nat.zero_le _, rfl, rfl, by show (0 : Int) = W * 0; rw [Int.mul_zero]⟩
    case round =>
      clear hb
      obtain ⟨hb, m, v, hm, rfl, rfl, HV⟩ := hrel
      by_cases hlt : m < N
      · have hri := edge_rises m (by omega)
        have HBm : Hid (binsP rate ms (m : Int) = (W * edgesL[m]?.getD 0, W * edgesL[m + 1]?.getD 0)) := HB.out m hlt
        generalize hx : edgesL[m]?.getD 0 = x at hri HBm
        generalize hy : edgesL[m + 1]?.getD 0 = y at hri HBm
        have HX : Hid (edgesL[m]?.getD 0 = x) := hx
        have HY : Hid (edgesL[m + 1]?.getD 0 = y) := hy
        clear hx hy
        have hlt2 : W * x < W * y := Int.mul_lt_mul_of_pos_left hri (by omega)
        have hv : v = W * x := by rw [HV.out, HX.out]
        subst hv
        go_wp2_with (go_at_call 18; refine (bins_any _ _ _ _ (he.keep hb)).mono ?_; rw [HBm.out]; rintro e w2 ⟨rfl, nd, rfl⟩; replace hb := below_drewN hb nd)
        go_roundw
        case rel => exact ⟨hb, m + 1, W * y, by omega, by go_num, rfl, by show _ = _; rw [HY.out]⟩
        case measure => simp [intOf]; omega
      · have hm' : m = N := by omega
        subst hm'
        have hv : v = rate * ms / 1000 := by rw [HV.out, HE.out]
        subst hv
        clear HV
        go_wp2
        go_ret
        exact ⟨rfl, hb⟩

theorem tabsBands.walk (rate ms : Int) (w : World) (_w0 : (Lit.int .i64 rate).wf = true) (_w1 : (Lit.int .i64 ms).wf = true) (hr : EdgesAt w ∧ TapsAt w) :
    Calls Tryd.prog 7 #[.int .i64 rate, .int .i64 ms] w fun e w' => e = .returned (.bool true) ∧ Below w.heap.size w w' := by
  obtain ⟨he, ht⟩ := hr
  by_cases hm : ms = 10 ∨ ms = 20
  · rcases rate_cases rate with rfl | rfl | rfl | h
    · rcases hm with rfl | rfl
      · exact bands_some 8000 10 4 13 w he ht rfl (by decide) rfl (by decide) rfl (by decide) (by decide) (by decide)
      · exact bands_some 8000 20 8 13 w he ht rfl (by decide) rfl (by decide) rfl (by decide) (by decide) (by decide)
    · rcases hm with rfl | rfl
      · exact bands_some 16000 10 4 17 w he ht rfl (by decide) rfl (by decide) rfl (by decide) (by decide) (by decide)
      · exact bands_some 16000 20 8 17 w he ht rfl (by decide) rfl (by decide) rfl (by decide) (by decide) (by decide)
    · rcases hm with rfl | rfl
      · exact bands_some 24000 10 4 19 w he ht rfl (by decide) rfl (by decide) rfl (by decide) (by decide) (by decide)
      · exact bands_some 24000 20 8 19 w he ht rfl (by decide) rfl (by decide) rfl (by decide) (by decide) (by decide)
    · exact bands_none rate ms w he ht (.inl (rateB_other h))
  · cases hB : rateB rate
    · exact bands_none rate ms w he ht (.inl hB)
    · exact bands_none rate ms w he ht (.inr ⟨hB, by omega, by omega⟩)

end Go.Proofs.YtjcbcmloenhohaaDoor
