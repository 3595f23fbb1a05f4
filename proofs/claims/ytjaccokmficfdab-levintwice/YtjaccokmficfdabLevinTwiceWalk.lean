/- The law LevinTwice answers true: twice as loud is four times as much like itself. -/
import Derived.Test.YtjaccokmficfdabLevJ
import Derived.Test.YtjaccokmficfdabActs
namespace Go.Proofs.Ytjaccokmficfdab
open Go.RowKit Lev

set_option maxRecDepth 100000 in
set_option maxHeartbeats 3200000 in
theorem levinTwice.walk (x : Option Addr) (n cap : Nat) (zq : List Int) (o : Int) (w : World) (hq : IsRow .i64 w x n cap zq) (_ : (Lit.int .i64 o).wf = true) :
    Calls Try.prog 3 #[.slice x n cap, .int .i64 o] w fun e w' => e = .returned (.bool true) ∧ Below w.heap.size w w' := by
  obtain ⟨hz, hm, _⟩ := Zs.of_isRow hq
  clear hq
  generalize zq.take n = zs at hz
  have HZ : Hid (∀ W, Below w.heap.size w W → Zs W x n zs) := fun W hW => hz.keep hW
  have HL : Hid (zs.length = n ∧ n ≤ maxLen) := ⟨hz.len, hm⟩
  have hm2 : (n : Int) ≤ 9223372036854775807 := by simp only [maxLen] at hm; omega
  have hb := Below.refl w.heap.size w
  clear hz hm
  by_cases hg : n ≤ 300 ∧ 1 ≤ o ∧ o ≤ 16
  · obtain ⟨hn, ho1, ho2⟩ := hg
    obtain ⟨O, rfl⟩ : ∃ O : Nat, o = (O : Int) := ⟨o.toNat, by omega⟩
    have HN : Hid (n ≤ 300 ∧ 1 ≤ O ∧ O ≤ 16 ∧ n ≤ 960 ∧ O ≤ 32) := ⟨hn, by omega, by omega, by omega, by omega⟩
    have hnI : (n : Int) ≤ 300 := by omega
    go_enter Try.func3, Try.ntmps3
    go_wp2_with (go_at_call 4; go_loud (refine (awake_any w).mono ?_; rintro e w1 ⟨rfl, hb1⟩; replace hb := hb.trans (hb1.mono hb.size); clear hb1))
    go_loopw [5, 6] (fun v i W => ∃ k : Nat, k ≤ n ∧ i = .int .i64 k ∧ Hid (W.ownsRow w.heap.size 2 1 v k ((twoL (zs.take k)).map (Value.int .i64)) ∧ Below w.heap.size w W ∧ ∀ j, j < k → -16383 ≤ zs[j]?.getD 0 ∧ zs[j]?.getD 0 ≤ 16383)) (fun _ i _ => n - (intOf i).toNat)
    case atStart => exact ⟨0, Nat.zero_le _, rfl, World.ownsRow_nil _ _ _ _, hb, fun j hj => absurd hj (Nat.not_lt_zero _)⟩
    case round =>
      clear hb
      obtain ⟨k, hk, rfl, HH⟩ := hrel
      by_cases hlt : k < n
      · obtain ⟨hown, hbel, hall⟩ := HH.out
        obtain ⟨b, off, rfl, hb0, hc⟩ := (HZ.out wr hbel).at_ (by omega)
        have hck := hc k hlt
        have HS := twoL_take_succ (zs := zs) (k := k) (by have := HL.out; omega)
        have hsz := hbel.size
        have HALL : Hid (-16383 ≤ zs[k]?.getD 0 → zs[k]?.getD 0 ≤ 16383 → ∀ j, j < k + 1 → -16383 ≤ zs[j]?.getD 0 ∧ zs[j]?.getD 0 ≤ 16383) := fun h1 h2 j hj => by
          rcases Nat.lt_or_ge j k with h | h
          · exact hall j h
          · obtain rfl : j = k := by omega
            exact ⟨h1, h2⟩
        generalize zs[k]?.getD 0 = z at hck HS HALL
        have HS : Hid (twoL (zs.take k) ++ [2 * z] = twoL (zs.take (k + 1))) := HS
        have HB : Hid (Below w.heap.size w wr) := hbel
        by_cases h1 : z < -16383
        · clear HH hall hc
          go_wp2
          go_ret
          exact ⟨rfl, HB.out⟩
        · by_cases h2 : 16383 < z
          · clear HH hall hc
            go_wp2
            go_ret
            exact ⟨rfl, HB.out⟩
          · have HA2 : Hid (∀ j, j < k + 1 → -16383 ≤ zs[j]?.getD 0 ∧ zs[j]?.getD 0 ≤ 16383) := HALL.out (by omega) (by omega)
            clear HH hall hc HALL
            go_wp2_with (at_builtin; refine wpList_append_one 22 2 Try.underlying22 info_int64 w.heap.size _ k _ _ hown (by omega) hsz rfl _ _ rfl rfl rfl ?_; rw [HS.out]; intro v' w10 hown2 hb2; have hb3 := hbel.trans hb2)
            go_roundw
            case rel => exact ⟨k + 1, by omega, by go_num, hown2, hb3, HA2.out⟩
            case measure => simp [intOf]; omega
      · have hkn : n = k := by omega
        subst hkn
        obtain ⟨hown, hbel, hall⟩ := HH.out
        have hlz := HL.out.1
        rw [List.take_of_length_le (by omega)] at hown
        obtain ⟨_, a2, c2, rfl, hnew⟩ := NewRow.of_owned hown
        have hlen : (twoL zs).length = n := by rw [twoL_len]; exact hlz
        have HD : Hid (∀ W, Below wr.heap.size wr W → Zs W a2 n (twoL zs)) := fun W hW => (Zs.of_new hnew hlen).keep hW
        have HX : Hid (∀ W, Below wr.heap.size wr W → Zs W x n zs) := fun W hW => HZ.out W (hbel.trans (hW.mono hbel.size))
        have HTW : Hid (∀ k, autoI (twoL zs) k = 4 * autoI zs k) := auto_two (within_all hlz hall)
        have HI : Hid (∀ k, -1030792151040 ≤ autoI zs k ∧ autoI zs k ≤ 1030792151040) := autoI_in (by rw [hlz]; exact HN.out.2.2.2.1)
        have HB : Hid (Below w.heap.size w wr) := hbel
        have hb4 := Below.refl wr.heap.size wr
        have y1 : Hid True := trivial
        clear HH hown hbel hall hnew hlen hk hlt
        go_wp2_with (first
          | (go_at_call 5; clear y1; go_loud (refine (pAuto_yes x n cap O zs _ (HX.out _ hb4) HN.out.2.2.2.1 HN.out.2.1 HN.out.2.2.2.2).mono ?_; rintro e w5 ⟨a5, c5, rfl, hr5, hb5⟩; obtain ⟨g5, rfl, _, _⟩ := hr5.some_of (by rw [autoL_len]; exact Nat.succ_pos _); replace hb4 := hb4.trans (hb5.mono hb4.size); clear hb5))
          | (go_at_call 5; go_loud (refine (pAuto_yes a2 n c2 O (twoL zs) _ (HD.out _ hb4) HN.out.2.2.2.1 HN.out.2.1 HN.out.2.2.2.2).mono ?_; rintro e w6 ⟨a6, c6, rfl, hr6, hb6⟩; obtain ⟨g6, rfl, _, _⟩ := hr6.some_of (by rw [autoL_len]; exact Nat.succ_pos _); replace hr5 := hr5.keep hb6; replace hb4 := hb4.trans (hb6.mono hb4.size); clear hb6)))
        have HCE : Hid (∀ k, k < O + 1 → w6.cell? ⟨g5, k, none⟩ = some (.int .i64 (autoI zs k)) ∧ w6.cell? ⟨g6, k, none⟩ = some (.int .i64 (4 * autoI zs k))) := fun k hk => by
          have h5 := hr5.cellAt (i := k) (by rw [autoL_len]; exact hk)
          have h6 := hr6.cellAt (i := k) (by rw [autoL_len]; exact hk)
          rw [autoL_at (by omega)] at h5 h6
          rw [HTW.out] at h6
          exact ⟨h5, h6⟩
        have HB7 : Hid (Below w.heap.size w w6) := HB.out.trans (hb4.mono HB.out.size)
        have hOI : (O : Int) ≤ 16 := ho2
        clear hr5 hr6 hb4
        generalize autoI zs = A at *
        go_loopw [11] (fun y W => (∃ d, W = w6.drewN d) ∧ ∃ k : Nat, k ≤ O + 1 ∧ y = .int .i64 k) (fun y _ => O + 1 - (intOf y).toNat)
        case atStart => exact ⟨⟨0, rfl⟩, 0, Nat.zero_le _, rfl⟩
        case round =>
          obtain ⟨⟨d, rfl⟩, k, hk, rfl⟩ := hrel
          by_cases hkO : k < O + 1
          · obtain ⟨e1, e2⟩ := HCE.out k hkO
            have hi := HI.out k
            generalize A k = z at *
            have hkI : (k : Int) < (O : Int) + 1 := by omega
            have hwz1 : wrap64 (4 * z) = 4 * z := i64_wrap (by omega) (by omega)
            have hwz2 : IntKind.i64.wrap (4 * z) = 4 * z := i64k_wrap (by omega) (by omega)
            clear hi
            go_wp2
            go_quiet (fail)
            go_wp2
            go_roundw
            case rel => exact ⟨⟨_, rfl⟩, k + 1, by omega, by go_num⟩
            case measure => simp [intOf]; omega
          · have hkI : ¬ (k : Int) < (O : Int) + 1 := by omega
            go_wp2
            go_ret
            exact ⟨rfl, below_drewN HB7.out d⟩
  · have HG : Hid (¬ (n ≤ 300 ∧ 1 ≤ o ∧ o ≤ 16)) := hg
    clear hg
    go_enter Try.func3, Try.ntmps3
    go_wp2_with (go_at_call 4; go_loud (refine (awake_any w).mono ?_; rintro e w1 ⟨rfl, hb1⟩; replace hb := hb.trans (hb1.mono hb.size); clear hb1))
    all_goals first
      | (exfalso; have := HG.out; omega)
      | (go_ret; exact ⟨rfl, hb⟩)

end Go.Proofs.Ytjaccokmficfdab
