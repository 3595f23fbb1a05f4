/- The law of answers that are new each time: what is done to one changes no later one. -/
import Derived.Test.YtjcbcmloenhohabDoorTabsK
import Derived.Test.YtjcbcmloenhohabDoorTabsW
namespace Go.Proofs.YtjcbcmloenhohabDoor
open Go.RowKit

theorem and7 (n : Int) : bits .and .i64 n 7 = n % 8 := by
  have hm : (BitVec.ofInt 64 7).toNat = 2 ^ 3 - 1 := by decide
  have key : (BitVec.ofInt 64 n &&& BitVec.ofInt 64 7).toNat = (n % ((2 ^ 64 : Nat) : Int)).toNat % 2 ^ 3 := by
    rw [BitVec.toNat_and, BitVec.toNat_ofInt, hm, Nat.and_two_pow_sub_one_eq_mod]
  show IntKind.i64.wrap ((BitVec.ofInt 64 n &&& BitVec.ofInt 64 7).toNat : Nat) = n % 8
  rw [key, IntKind.wrap_i64]
  omega

theorem icdf_good8 : ∀ k, k < 9 → goodB (icdfT k) = true := by decide

/-- A list that the call may write to. -/
def Own (W : World) (e : TypeId) (a : Option Addr) (n B : Nat) : Prop := 0 < n → ∃ b N f, a = some ⟨b, 0, .none⟩ ∧ B ≤ b ∧ n ≤ N ∧ W.rowIs b e N f

theorem own_of {e : TypeId} {B B' : Nat} {W : World} {a : Option Addr} {zs : List Int} {n : Nat} (h : NewRow e B W a zs) (hl : zs.length = n) (hB : B' ≤ B) : Own W e a n B' := fun h0 => by
  rcases h with h | ⟨b, c, ha, hbb, hh, hc⟩
  · subst h; simp at hl; omega
  · have hs : n ≤ c.size := by
      rcases Nat.lt_or_ge (n - 1) c.size with h1 | h1
      · omega
      · have h2 := hc (n - 1) (by omega)
        rw [Array.getElem?_eq_none h1] at h2
        cases h2
    exact ⟨b, c.size, fun i => c.getD i undef, ha, Nat.le_trans hB hbb, hs, c, hh, rfl, fun i hi => by simp [Array.getD, hi]⟩

theorem head_edges (rate : Int) (h : 0 < edgesN rate) : (edgesOfL rate)[0]?.getD 0 = 0 := by
  unfold edgesOfL
  rw [edges_take _ (edgesN_le rate) 0 h]
  rfl

theorem head_window (l : Int) (h : 0 < (winL l).length) : (0 : Int) ≤ (winL l)[0]?.getD (0 : Int) ∧ (winL l)[0]?.getD (0 : Int) ≤ 32768 := by
  by_cases h1 : l < 1 ∨ 480 < l
  · rw [winL, if_pos h1] at h
    simp at h
  · obtain ⟨n, rfl⟩ := Int.eq_ofNat_of_zero_le (show 0 ≤ l by omega)
    rw [winL_some (by omega) (by omega), map_range_at _ _ _ (show 0 < ((n : Int)).toNat by omega), winAt_is (l := n) (show 0 < n by omega)]
    exact hN_in (angN_le (l := n) (by omega))

theorem winL_top (l : Int) : (winL l).length ≤ 480 := by
  unfold winL
  split
  · exact Nat.zero_le _
  · simp
    omega

set_option maxRecDepth 100000 in
set_option maxHeartbeats 4000000 in
theorem tabsNew.walk (k rate l : Int) (w : World) (_w0 : (Lit.int .i64 k).wf = true) (_w1 : (Lit.int .i64 rate).wf = true) (_w2 : (Lit.int .i64 l).wf = true) (hr : EdgesAt w ∧ TapsAt w) :
    Calls Tryd.prog 3 #[.int .i64 k, .int .i64 rate, .int .i64 l] w fun e w' => e = .returned (.bool true) ∧ Below w.heap.size w w' := by
  obtain ⟨he, ht⟩ := hr
  have hb := Below.refl w.heap.size w
  have l1 := icdfL_len (k % 8)
  have l2 := edgesN_le rate
  have l3 := winL_top l
  have HE : Hid ((edgesOfL rate).length = edgesN rate) := edgesOfL_len rate
  have HG : Hid (goodB (icdfL (k % 8)) = true) := by
    show _ = _
    rw [icdfL, if_neg (by omega)]
    exact icdf_good8 _ (by omega)
  have HH := head_edges rate
  have HW := head_window l
  have ha := and7 k
  generalize k % 8 = q at *
  have HA : Hid (∀ W : World, ∀ e : TypeId, ∀ B : Nat, ∀ a : Option Addr, NewRow e B W a (edgesOfL rate) → 0 < edgesN rate → ∃ b, a = some ⟨b, 0, none⟩ ∧ W.cell? ⟨b, 0, none⟩ = some (.int .i64 0)) := fun W e B a h h0 => by
    obtain ⟨b, hx, _, _, hc⟩ := h.cells (by rw [edgesOfL_len]; exact h0)
    exact ⟨b, hx, (hc 0 (by rw [edgesOfL_len]; exact h0)).trans (by rw [HH h0])⟩
  have HV : Hid (∀ W : World, ∀ e : TypeId, ∀ B : Nat, ∀ a : Option Addr, NewRow e B W a (winL l) → 0 < (winL l).length → ∃ b v, a = some ⟨b, 0, none⟩ ∧ W.cell? ⟨b, 0, none⟩ = some (.int .i64 v) ∧ 0 ≤ v) := fun W e B a h h0 => by
    obtain ⟨b, hx, _, _, hc⟩ := h.cells h0
    exact ⟨b, _, hx, hc 0 h0, (HW h0).1⟩
  clear HH HW
  go_enter Tryd.func3, Tryd.ntmps3
  go_wp2_with (first
    | (go_at_call 4; refine (awake_any _ he ht).mono ?_; rintro e w1 ⟨rfl, hw1⟩; replace hb := hb.trans (hw1.mono hb.size); clear hw1)
    | (go_at_call 5; refine (icdf_any _ _).mono ?_; rintro e w2 ⟨a2, c2, rfl, hn2, hb2⟩; have HO : Hid (Own w2 3 a2 (icdfL q).length w.heap.size) := own_of hn2 rfl hb.size; replace hb := hb.trans (hb2.mono hb.size); clear hb2 hn2))
  generalize hN : (icdfL q).length = N at *
  have hN' : Hid ((icdfL q).length = N) := hN
  clear hN
  go_loopw [8] (fun i W => Below w.heap.size w W ∧ Own W 3 a2 N w.heap.size ∧ ∃ m : Nat, m ≤ N ∧ i = .int .i64 m) (fun i _ => N - (intOf i).toNat)
  case atStart => exact ⟨hb, HO.out, 0, Nat.zero_le _, rfl⟩
  case round =>
    clear hb HO
    obtain ⟨hb, hown, m, hm, rfl⟩ := hrel
    by_cases hlt : m < N
    · obtain ⟨b, n, f, rfl, hB, hn, hrow⟩ := hown (by omega)
      have hfz := hrow.frozen m
      obtain ⟨x, hx⟩ : ∃ x, wr.cell? ⟨b, m, none⟩ = some x := ⟨_, hrow.cell (by omega)⟩
      have HR : Hid ((wr.setCell ⟨b, m, none⟩ (.int .i64 (-1))).rowIs b 3 n _) := hrow.set m _
      clear hrow hown
      go_wp2
      go_roundw
      case rel => exact ⟨hb.setCell hB _, fun _ => ⟨b, n, _, rfl, hB, hn, HR.out⟩, m + 1, by omega, by go_num⟩
      case measure => simp [intOf]; omega
    · clear hown
      go_wp2_with (go_at_call 6; refine (edges_any _ _ (he.keep hb)).mono ?_; rintro e w3 ⟨a3, c3, rfl, hn3, hb3⟩; have HO : Hid (Own w3 3 a3 (edgesN rate) w.heap.size) := own_of hn3 HE.out hb.size; replace hb := hb.trans (hb3.mono hb.size); clear hb3 hn3)
      generalize hM : edgesN rate = M at *
      have hM' : Hid (edgesN rate = M) := hM
      clear hM
      go_loopw [10] (fun i W => Below w.heap.size w W ∧ Own W 3 a3 M w.heap.size ∧ ∃ m : Nat, m ≤ M ∧ i = .int .i64 m) (fun i _ => M - (intOf i).toNat)
      case atStart => exact ⟨hb, HO.out, 0, Nat.zero_le _, rfl⟩
      case round =>
        clear hb HO
        obtain ⟨hb, hown, m, hm, rfl⟩ := hrel
        by_cases hlt : m < M
        · obtain ⟨b, n, f, rfl, hB, hn, hrow⟩ := hown (by omega)
          have hfz := hrow.frozen m
          obtain ⟨x, hx⟩ : ∃ x, wr.cell? ⟨b, m, none⟩ = some x := ⟨_, hrow.cell (by omega)⟩
          have HR : Hid ((wr.setCell ⟨b, m, none⟩ (.int .i64 (-1))).rowIs b 3 n _) := hrow.set m _
          clear hrow hown
          go_wp2
          go_roundw
          case rel => exact ⟨hb.setCell hB _, fun _ => ⟨b, n, _, rfl, hB, hn, HR.out⟩, m + 1, by omega, by go_num⟩
          case measure => simp [intOf]; omega
        · clear hown
          go_wp2_with (go_at_call 7; refine (window_any _ _).mono ?_; rintro e w4 ⟨a4, c4, rfl, hn4, hb4⟩; have HO : Hid (Own w4 2 a4 (winL l).length w.heap.size) := own_of hn4 rfl hb.size; replace hb := hb.trans (hb4.mono hb.size); clear hb4 hn4)
          generalize hL : (winL l).length = L at *
          have hL' : Hid ((winL l).length = L) := hL
          clear hL
          go_loopw [12] (fun i W => Below w.heap.size w W ∧ Own W 2 a4 L w.heap.size ∧ ∃ m : Nat, m ≤ L ∧ i = .int .i64 m) (fun i _ => L - (intOf i).toNat)
          case atStart => exact ⟨hb, HO.out, 0, Nat.zero_le _, rfl⟩
          case round =>
            clear hb HO
            obtain ⟨hb, hown, m, hm, rfl⟩ := hrel
            by_cases hlt : m < L
            · obtain ⟨b, n, f, rfl, hB, hn, hrow⟩ := hown (by omega)
              have hfz := hrow.frozen m
              obtain ⟨x, hx⟩ : ∃ x, wr.cell? ⟨b, m, none⟩ = some x := ⟨_, hrow.cell (by omega)⟩
              have HR : Hid ((wr.setCell ⟨b, m, none⟩ (.int .i64 (-1))).rowIs b 2 n _) := hrow.set m _
              clear hrow hown
              go_wp2
              go_roundw
              case rel => exact ⟨hb.setCell hB _, fun _ => ⟨b, n, _, rfl, hB, hn, HR.out⟩, m + 1, by omega, by go_num⟩
              case measure => simp [intOf]; omega
            · clear hown
              rcases Nat.eq_zero_or_pos M with rfl | hM0
              · rcases Nat.eq_zero_or_pos L with rfl | hL0
                · go_wp2_with (first
                    | (go_at_call 5; refine (icdf_any _ _).mono ?_; rw [hN'.out]; rintro e w5 ⟨a5, c5, rfl, hn5, hb5⟩; replace hb := hb.trans (hb5.mono hb.size); clear hb5)
                    | (go_at_call 6; refine (edges_any _ _ (he.keep hb)).mono ?_; rw [hM'.out]; rintro e w6 ⟨a6, c6, rfl, hn6, hb6⟩; replace hn5 := hn5.keep hb6; replace hb := hb.trans (hb6.mono hb.size); clear hb6)
                    | (go_at_call 7; refine (window_any _ _).mono ?_; rw [hL'.out]; rintro e w7 ⟨a7, c7, rfl, hn7, hb7⟩; replace hn5 := hn5.keep hb7; replace hn6 := hn6.keep hb7; replace hb := hb.trans (hb7.mono hb.size); clear hb7; clear hn6 hn7)
                    | (go_at_call 8; refine (good_new (icdfL q) N _ _ _ _ _ hn5 hN'.out (by omega)).mono ?_; rw [HG.out]; rintro e w' ⟨rfl, rfl⟩))
                  go_ret
                  exact ⟨rfl, hb⟩
                · go_wp2_with (first
                    | (go_at_call 5; refine (icdf_any _ _).mono ?_; rw [hN'.out]; rintro e w5 ⟨a5, c5, rfl, hn5, hb5⟩; replace hb := hb.trans (hb5.mono hb.size); clear hb5)
                    | (go_at_call 6; refine (edges_any _ _ (he.keep hb)).mono ?_; rw [hM'.out]; rintro e w6 ⟨a6, c6, rfl, hn6, hb6⟩; replace hn5 := hn5.keep hb6; replace hb := hb.trans (hb6.mono hb.size); clear hb6)
                    | (go_at_call 7; refine (window_any _ _).mono ?_; rw [hL'.out]; rintro e w7 ⟨a7, c7, rfl, hn7, hb7⟩; replace hn5 := hn5.keep hb7; replace hn6 := hn6.keep hb7; replace hb := hb.trans (hb7.mono hb.size); clear hb7; obtain ⟨b7, v7, rfl, hc7, hv7⟩ := HV.out _ _ _ _ hn7 hL0; clear hn6 hn7)
                    | (go_at_call 8; refine (good_new (icdfL q) N _ _ _ _ _ hn5 hN'.out (by omega)).mono ?_; rw [HG.out]; rintro e w' ⟨rfl, rfl⟩))
                  go_ret
                  exact ⟨rfl, hb⟩
              · rcases Nat.eq_zero_or_pos L with rfl | hL0
                · go_wp2_with (first
                    | (go_at_call 5; refine (icdf_any _ _).mono ?_; rw [hN'.out]; rintro e w5 ⟨a5, c5, rfl, hn5, hb5⟩; replace hb := hb.trans (hb5.mono hb.size); clear hb5)
                    | (go_at_call 6; refine (edges_any _ _ (he.keep hb)).mono ?_; rw [hM'.out]; rintro e w6 ⟨a6, c6, rfl, hn6, hb6⟩; replace hn5 := hn5.keep hb6; replace hb := hb.trans (hb6.mono hb.size); clear hb6)
                    | (go_at_call 7; refine (window_any _ _).mono ?_; rw [hL'.out]; rintro e w7 ⟨a7, c7, rfl, hn7, hb7⟩; replace hn5 := hn5.keep hb7; replace hn6 := hn6.keep hb7; replace hb := hb.trans (hb7.mono hb.size); clear hb7; obtain ⟨b6, rfl, hc6⟩ := HA.out _ _ _ _ hn6 hM0; clear hn6 hn7)
                    | (go_at_call 8; refine (good_new (icdfL q) N _ _ _ _ _ hn5 hN'.out (by omega)).mono ?_; rw [HG.out]; rintro e w' ⟨rfl, rfl⟩))
                  go_ret
                  exact ⟨rfl, hb⟩
                · go_wp2_with (first
                    | (go_at_call 5; refine (icdf_any _ _).mono ?_; rw [hN'.out]; rintro e w5 ⟨a5, c5, rfl, hn5, hb5⟩; replace hb := hb.trans (hb5.mono hb.size); clear hb5)
                    | (go_at_call 6; refine (edges_any _ _ (he.keep hb)).mono ?_; rw [hM'.out]; rintro e w6 ⟨a6, c6, rfl, hn6, hb6⟩; replace hn5 := hn5.keep hb6; replace hb := hb.trans (hb6.mono hb.size); clear hb6)
                    | (go_at_call 7; refine (window_any _ _).mono ?_; rw [hL'.out]; rintro e w7 ⟨a7, c7, rfl, hn7, hb7⟩; replace hn5 := hn5.keep hb7; replace hn6 := hn6.keep hb7; replace hb := hb.trans (hb7.mono hb.size); clear hb7; obtain ⟨b6, rfl, hc6⟩ := HA.out _ _ _ _ hn6 hM0; obtain ⟨b7, v7, rfl, hc7, hv7⟩ := HV.out _ _ _ _ hn7 hL0; clear hn6 hn7)
                    | (go_at_call 8; refine (good_new (icdfL q) N _ _ _ _ _ hn5 hN'.out (by omega)).mono ?_; rw [HG.out]; rintro e w' ⟨rfl, rfl⟩))
                  go_ret
                  exact ⟨rfl, hb⟩

end Go.Proofs.YtjcbcmloenhohabDoor
