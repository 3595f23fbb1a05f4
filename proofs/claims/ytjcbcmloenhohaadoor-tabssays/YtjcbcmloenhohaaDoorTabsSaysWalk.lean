/- The law of all tables answers true, of any numbers. -/
import Derived.Test.YtjcbcmloenhohaaDoorTabsK
namespace Go.Proofs.YtjcbcmloenhohaaDoor
open Go.RowKit

theorem taps_same (k : Int) (W : World) : (binOp .eql 28 (tapsV k) (tapsV k)).run Tryd.prog W = .ok (.bool true) W := by
  by_cases h : k < 0 ∨ 7 < k
  · rw [tapsV_far h]; show _ = _; kernel_rfl
  · have h8 : k = 0 ∨ k = 1 ∨ k = 2 ∨ k = 3 ∨ k = 4 ∨ k = 5 ∨ k = 6 ∨ k = 7 := by omega
    rcases h8 with rfl | rfl | rfl | rfl | rfl | rfl | rfl | rfl <;> (show _ = _; kernel_rfl)

theorem taps_five_of (k : Int) : ∃ v0 v1 v2 v3 v4 : Int, tapsV k = .agg #[.int .i64 v0, .int .i64 v1, .int .i64 v2, .int .i64 v3, .int .i64 v4] := by
  by_cases h : k < 0 ∨ 7 < k
  · exact ⟨_, _, _, _, _, tapsV_far h⟩
  · have h8 : k = 0 ∨ k = 1 ∨ k = 2 ∨ k = 3 ∨ k = 4 ∨ k = 5 ∨ k = 6 ∨ k = 7 := by omega
    rcases h8 with rfl | rfl | rfl | rfl | rfl | rfl | rfl | rfl <;> exact ⟨_, _, _, _, _, rfl⟩

theorem lsfL_len (order i : Int) : (lsfL order i).length ≤ 16 := by
  unfold lsfL
  split
  · exact Nat.zero_le _
  · rename_i h
    unfold lsfNone at h
    simp
    omega

theorem winL_len (l : Int) : (winL l).length ≤ 480 := by
  unfold winL
  split
  · exact Nat.zero_le _
  · simp
    omega

/-- What two lists of the same numbers need to be read side by side. -/
def Both (W : World) (n : Nat) (a b : Option Addr) (zs : List Int) : Prop :=
  0 < n → ∃ x y, a = some ⟨x, 0, none⟩ ∧ b = some ⟨y, 0, none⟩ ∧ ∀ i, i < n → W.cell? ⟨x, i, none⟩ = some (.int .i64 (zs[i]?.getD 0)) ∧ W.cell? ⟨y, i, none⟩ = some (.int .i64 (zs[i]?.getD 0))

theorem both_of {e1 e2 : TypeId} {B1 B2 : Nat} {W : World} {n : Nat} {a b : Option Addr} {zs : List Int} (h1 : NewRow e1 B1 W a zs) (h2 : NewRow e2 B2 W b zs) (hl : zs.length = n) : Both W n a b zs := fun h => by
  obtain ⟨x, ha, _, _, hc⟩ := h1.cells (by omega)
  obtain ⟨y, hb, _, _, hd⟩ := h2.cells (by omega)
  exact ⟨x, y, ha, hb, fun i hi => ⟨hc i (by omega), hd i (by omega)⟩⟩

set_option maxHeartbeats 4000000 in
theorem tabsSays.walk (k rate ms l : Int) (w : World) (_w0 : (Lit.int .i64 k).wf = true) (_w1 : (Lit.int .i64 rate).wf = true) (_w2 : (Lit.int .i64 ms).wf = true) (w3 : (Lit.int .i64 l).wf = true) (hr : EdgesAt w ∧ TapsAt w) :
    Calls Tryd.prog 4 #[.int .i64 k, .int .i64 rate, .int .i64 ms, .int .i64 l] w fun e w' => e = .returned (.bool true) ∧ Below w.heap.size w w' := by
  obtain ⟨he, ht⟩ := hr
  have hl := (bounds_i64 w3).1
  clear _w0 _w1 _w2 w3
  have hb := Below.refl w.heap.size w
  have l1 := icdfL_len k
  have l2 := edgesN_le rate
  have HE : Hid ((edgesOfL rate).length = edgesN rate) := edgesOfL_len rate
  go_enter Tryd.func4, Tryd.ntmps4
  go_wp2_with (first
    | (go_at_call 9; refine (awake_any _ he ht).mono ?_; rintro e w1 ⟨rfl, hw1⟩; replace hb := hb.trans (hw1.mono hb.size); clear hw1)
    | (go_at_call 11; refine (icdf_any _ _).mono ?_; rintro e w2 ⟨a2, c2, rfl, hn2, hb2⟩; replace hb := hb.trans (hb2.mono hb.size); clear hb2)
    | (go_at_call 16; refine (ricdf_any _ _).mono ?_; rintro e w3 ⟨a3, c3, rfl, hn3, hb3⟩; replace hb := hb.trans (hb3.mono hb.size); replace hn2 := hn2.keep hb3; have HB : Hid (Both w3 (icdfL k).length a2 a3 (icdfL k)) := both_of hn2 hn3 rfl; clear hb3 hn2 hn3))
  generalize hN : (icdfL k).length = N at *
  clear hN
  generalize icdfL k = zs at *
  go_loopw [11] (fun i W => (∃ d, W = w3.drewN d) ∧ ∃ m : Nat, m ≤ N ∧ i = .int .i64 m) (fun i _ => N - (intOf i).toNat)
  case atStart => exact ⟨⟨0, rfl⟩, 0, Nat.zero_le _, rfl⟩
  case round =>
    obtain ⟨⟨d, rfl⟩, m, hm, rfl⟩ := hrel
    by_cases hlt : m < N
    · obtain ⟨x, y, rfl, rfl, hxy⟩ := HB.out (by omega)
      have hc1 := (hxy m hlt).1
      have hc2 := (hxy m hlt).2
      clear hxy
      generalize zs[m]?.getD 0 = v at hc1 hc2
      go_wp2
      go_quiet (fail)
      all_goals
        go_wp2
        go_roundw
        case rel => exact ⟨⟨_, rfl⟩, m + 1, by omega, by go_num⟩
        case measure => simp [intOf]; omega
    · clear HB
      replace hb := below_drewN hb d
      generalize w3.drewN d = w4 at *
      go_wp2_with (first
        | (go_at_call 12; refine (edges_any _ _ (he.keep hb)).mono ?_; rintro e w5 ⟨a5, c5, rfl, hn5, hb5⟩; replace hb := hb.trans (hb5.mono hb.size); clear hb5)
        | (go_at_call 17; refine (redges_any _ _).mono ?_; rintro e w6 ⟨a6, c6, rfl, hn6, hb6⟩; replace hb := hb.trans (hb6.mono hb.size); replace hn5 := hn5.keep hb6; have HB : Hid (Both w6 (edgesN rate) a5 a6 (edgesOfL rate)) := both_of hn5 hn6 HE.out; clear hb6 hn5 hn6))
      clear HE
      generalize edgesN rate = M at *
      generalize edgesOfL rate = ys at *
      go_loopw [14] (fun i W => (∃ d, W = w6.drewN d) ∧ ∃ m : Nat, m ≤ M ∧ i = .int .i64 m) (fun i _ => M - (intOf i).toNat)
      case atStart => exact ⟨⟨0, rfl⟩, 0, Nat.zero_le _, rfl⟩
      case round =>
        obtain ⟨⟨d, rfl⟩, m, hm, rfl⟩ := hrel
        by_cases hlt : m < M
        · obtain ⟨x, y, rfl, rfl, hxy⟩ := HB.out (by omega)
          have hc1 := (hxy m hlt).1
          have hc2 := (hxy m hlt).2
          clear hxy
          generalize ys[m]?.getD 0 = v at hc1 hc2
          go_wp2
          go_quiet (fail)
          all_goals
            go_wp2
            go_roundw
            case rel => exact ⟨⟨_, rfl⟩, m + 1, by omega, by go_num⟩
            case measure => simp [intOf]; omega
        · clear HB
          replace hb := below_drewN hb d
          generalize w6.drewN d = w7 at *
          have L1 := lsfL_len l k
          have L2 := lsfL_len 10 k
          have L3 := lsfL_len 16 k
          have L4 := winL_len l
          obtain ⟨v0, v1, v2, v3, v4, hv⟩ := taps_five_of k
          have HV : Hid (tapsV k = .agg #[.int .i64 v0, .int .i64 v1, .int .i64 v2, .int .i64 v3, .int .i64 v4]) := hv
          have ht' : ∀ W : World, (binOp .eql 28 (.agg #[.int .i64 v0, .int .i64 v1, .int .i64 v2, .int .i64 v3, .int .i64 v4]) (.agg #[.int .i64 v0, .int .i64 v1, .int .i64 v2, .int .i64 v3, .int .i64 v4])).run Tryd.prog W = .ok (.bool true) W := fun W => by
            rw [← hv]; exact taps_same k W
          clear hv
          go_wp2_with (first
            | (go_at_call 18; refine (bins_any _ _ _ _ (he.keep hb)).mono ?_; rintro e w8 ⟨rfl, nd, rfl⟩; replace hb := below_drewN hb nd)
            | (go_at_call 19; refine (rbins_any _ _ _ _).mono ?_; rintro e w9 ⟨rfl, hb9⟩; replace hb := hb.trans (hb9.mono hb.size); clear hb9)
            | (go_at_call 15; refine (rate_any _ _).mono ?_; rintro e w' ⟨rfl, rfl⟩)
            | (go_at_call 20; refine (rrate_any _ _).mono ?_; rintro e w' ⟨rfl, rfl⟩)
            | (go_at_call 21; refine (order_any _ _).mono ?_; rintro e w' ⟨rfl, rfl⟩)
            | (go_at_call 22; refine (rorder_any _ _).mono ?_; rintro e w' ⟨rfl, rfl⟩)
            | (go_at_call 24; refine (window_any _ _).mono ?_; rintro e wa ⟨aa, ca, rfl, hna, hba⟩; replace hb := hb.trans (hba.mono hb.size); clear hba)
            | (go_at_call 25; refine (rwindow_any _ _ hl).mono ?_; rintro e wb ⟨ab, cb, rfl, hnb, hbb⟩; replace hb := hb.trans (hbb.mono hb.size); replace hna := hna.keep hbb; clear hbb)
            | (go_at_call 13; refine (lsf_any _ _ _).mono ?_; rintro e wa ⟨aa, ca, rfl, hna, hba⟩; replace hb := hb.trans (hba.mono hb.size); clear hba)
            | (go_at_call 26; refine (rlsf_any _ _ _).mono ?_; rintro e wb ⟨ab, cb, rfl, hnb, hbb⟩; replace hb := hb.trans (hbb.mono hb.size); replace hna := hna.keep hbb; clear hbb)
            | (go_at_call 23; refine (same_any _ _ _ _ _ _ _ _ _ _ _ hna hnb rfl (by omega)).mono ?_; rintro e wc ⟨rfl, nd, rfl⟩; clear hna hnb; replace hb := below_drewN hb nd)
            | (go_at_call 14; refine (taps_any _ _ (ht.keep hb)).mono ?_; rw [HV.out]; rintro e wa ⟨rfl, hba⟩; replace hb := hb.trans (hba.mono hb.size); clear hba)
            | (go_at_call 27; refine (rtaps_any _ _).mono ?_; rw [HV.out]; rintro e wa ⟨rfl, hba⟩; replace hb := hb.trans (hba.mono hb.size); clear hba))
          go_ret
          exact ⟨rfl, hb⟩

end Go.Proofs.YtjcbcmloenhohaaDoor
