/- The law VadLouder answers true: twice as loud is no less loud, by at most two steps and a little; the floor is never above what was heard last. -/
import Derived.Test.YtklpicfeajmadaaVadJ
namespace Go.Proofs.Ytklpicfeajmadaa
open Go.RowKit Vad

set_option maxRecDepth 100000 in
set_option maxHeartbeats 3200000 in
theorem vadLouder.walk (x : Option Addr) (n cap : Nat) (zq : List Int) (y : Option Addr) (m capy : Nat) (vs : Nat → RowV) (w : World) (hq : IsRow .i64 w x n cap zq) (hqy : GridIn w y m capy vs) :
    Calls Try.prog 6 #[.slice x n cap, .slice y m capy] w fun e w' => e = .returned (.bool true) ∧ Below w.heap.size w w' := by
  obtain ⟨hz, hm, _⟩ := Zs.of_isRow hq
  have hcap := row_cap hq
  obtain ⟨hg, ⟨hmy1, hmy⟩, _⟩ := Grid.of_in hqy
  clear hq hqy
  generalize zq.take n = zs at hz
  have HZ : Hid (∀ W, Below w.heap.size w W → Zs W x n zs) := fun W hW => hz.keep hW
  have HG : Hid (∀ W, Below w.heap.size w W → Grid W y m vs) := fun W hW => hg.keep hW
  have HL : Hid (zs.length = n ∧ n ≤ maxLen ∧ n ≤ cap ∧ cap ≤ maxLen) := ⟨hz.len, hm, hcap⟩
  have hm2 : (n : Int) ≤ 9223372036854775807 := by simp only [maxLen] at hm; omega
  have hm3 : (m : Int) ≤ 9223372036854775807 := by simp only [maxLen] at hmy; omega
  have hb := Below.refl w.heap.size w
  clear hz hm hg hmy1 hmy hcap
  by_cases hgd : n ≤ 960 ∧ m ≤ 30
  · obtain ⟨hn, hmm⟩ := hgd
    have hnI : (n : Int) ≤ 960 := by omega
    have hmI : (m : Int) ≤ 30 := by omega
    go_enter Try.func6, Try.ntmps6
    go_wp2_with (go_at_call 7; go_loud (refine (awake_any w).mono ?_; rintro e w1 ⟨rfl, hb1⟩; replace hb := hb.trans (hb1.mono hb.size); clear hb1))
    go_loopw [5, 6] (fun v i W => ∃ k : Nat, k ≤ n ∧ i = .int .i64 k ∧ Hid (W.ownsRow w.heap.size 2 1 v k ((dblV (zs.take k)).map (Value.int .i64)) ∧ Below w.heap.size w W ∧ ∀ j, j < k → -16383 ≤ zs[j]?.getD 0 ∧ zs[j]?.getD 0 ≤ 16383)) (fun _ i _ => n - (intOf i).toNat)
    case atStart => exact ⟨0, Nat.zero_le _, rfl, World.ownsRow_nil _ _ _ _, hb, fun j hj => absurd hj (Nat.not_lt_zero _)⟩
    case round =>
      clear hb
      obtain ⟨k, hk, rfl, HH⟩ := hrel
      by_cases hlt : k < n
      · obtain ⟨hown, hbel, hall⟩ := HH.out
        obtain ⟨b, off, rfl, hb0, hc⟩ := (HZ.out wr hbel).at_ (by omega)
        have hck := hc k hlt
        have HS := dblV_take_succ (zs := zs) (k := k) (by have := HL.out; omega)
        have hsz := hbel.size
        have HALL : Hid (-16383 ≤ zs[k]?.getD 0 → zs[k]?.getD 0 ≤ 16383 → ∀ j, j < k + 1 → -16383 ≤ zs[j]?.getD 0 ∧ zs[j]?.getD 0 ≤ 16383) := fun h1 h2 j hj => by
          rcases Nat.lt_or_ge j k with h | h
          · exact hall j h
          · obtain rfl : j = k := by omega
            exact ⟨h1, h2⟩
        generalize zs[k]?.getD 0 = z at hck HS HALL
        have HS : Hid (dblV (zs.take k) ++ [2 * z] = dblV (zs.take (k + 1))) := HS
        have HB : Hid (Below w.heap.size w wr) := hbel
        by_cases h1 : z < -16383
        · clear HH hall hc
          go_wp2
          go_ret
          exact ⟨rfl, HB.out⟩
        · by_cases h2 : 16383 < z
          · clear HH hall hc
            go_wp2
            go_ret
            exact ⟨rfl, HB.out⟩
          · have HA2 : Hid (∀ j, j < k + 1 → -16383 ≤ zs[j]?.getD 0 ∧ zs[j]?.getD 0 ≤ 16383) := HALL.out (by omega) (by omega)
            clear HH hall hc HALL
            go_wp2_with (at_builtin; refine wpList_append_one 28 2 Try.underlying28 info_int64 w.heap.size _ k _ _ hown (by omega) hsz rfl _ _ rfl rfl rfl ?_; rw [HS.out]; intro v' w10 hown2 hb2; have hb3 := hbel.trans hb2)
            go_roundw
            case rel => exact ⟨k + 1, by omega, by go_num, hown2, hb3, HA2.out⟩
            case measure => simp [intOf]; omega
      · have hkn : n = k := by omega
        subst hkn
        obtain ⟨hown, hbel, hall⟩ := HH.out
        have hlz := HL.out.1
        rw [List.take_of_length_le (by omega)] at hown
        obtain ⟨a2, c2, rfl, hnew, hc2, hc3⟩ := owned_cap hown
        have hlen : (dblV zs).length = n := by rw [dblV_len]; exact hlz
        have HD : Hid (∀ W, Below wr.heap.size wr W → Zs W a2 n (dblV zs)) := fun W hW => (Zs.of_new hnew hlen).keep hW
        have HC2 : Hid (n ≤ c2 ∧ c2 ≤ maxLen) := ⟨hc2, hc3⟩
        have htw := level_two (within_all hlz hall)
        have hlv := levelI_in zs
        have hlv2 := levelI_in (dblV zs)
        have HLV1 : Hid (∀ W, Below w.heap.size w W → Calls Try.prog 8 #[.slice x n cap] W fun e w' => e = .returned (.int .i64 (levelI zs)) ∧ ∃ k, w' = W.drewN k) := fun W hW => pLevel _ _ _ _ _ (HZ.out W hW) HL.out.2.2.1 HL.out.2.2.2
        have HLV2 : Hid (∀ W, Below wr.heap.size wr W → Calls Try.prog 8 #[.slice a2 n c2] W fun e w' => e = .returned (.int .i64 (levelI (dblV zs))) ∧ ∃ k, w' = W.drewN k) := fun W hW => pLevel _ _ _ _ _ (HD.out W hW) HC2.out.1 HC2.out.2
        have HB : Hid (Below w.heap.size w wr) := hbel
        generalize levelI (dblV zs) = u at *
        generalize levelI zs = t at *
        have hb4 := Below.refl wr.heap.size wr
        have y1 : Hid True := trivial
        clear HH hown hbel hall hnew hlen hk hlt hc2 hc3 HD HZ hlz
        go_wp2_with (first
          | (go_at_call 8; clear y1; go_loud (refine (HLV1.out _ HB.out).mono ?_; rintro e w3 ⟨rfl, k3, hw3⟩; replace hb4 := below_drewN hb4 k3; rw [← hw3] at hb4; clear hw3))
          | (go_at_call 8; go_loud (refine (HLV2.out _ hb4).mono ?_; rintro e w4 ⟨rfl, k4, hw4⟩; replace hb4 := below_drewN hb4 k4; rw [← hw4] at hb4; clear hw4; have HB5 : Hid (Below w.heap.size w w4) := HB.out.trans (hb4.mono HB.out.size); clear hb4))
          | (go_at_call 9; go_loud (refine (pNew _).mono ?_; rintro e w5 ⟨p, rfl, hp, hM, hb5⟩; have HP : Hid (w.heap.size ≤ p) := Nat.le_trans HB5.out.size hp; have HB6 : Hid (Below w.heap.size w w5 ∧ Mt p ⟨-1, 0⟩ w5) := ⟨HB5.out.trans (hb5.mono HB5.out.size), hM⟩; clear hb5 hp hM)))
        clear HB HB5 HLV1 HLV2
        go_loopw [10] (fun i W => ∃ k : Nat, k ≤ m ∧ i = .int .i64 k ∧ Hid (Below w.heap.size w W ∧ ∃ q : MeterI, q.Ok ∧ Mt p q W)) (fun i _ => m - (intOf i).toNat)
        case atStart => exact ⟨0, Nat.zero_le _, rfl, HB6.out.1, _, ok_one, HB6.out.2⟩
        case round =>
          obtain ⟨k, hk, rfl, HH⟩ := hrel
          by_cases hkm : k < m
          · obtain ⟨hbW, q, hok, hM⟩ := HH.out
            obtain ⟨b, off, rfl, _, hcx⟩ := (HG.out _ hbW).at_ (by omega)
            have hck := hcx k hkm
            have HCK : Hid (∀ W, Below w.heap.size w W → W.cell? ⟨b, off + k, none⟩ = some (.slice (vs k).a (vs k).len (vs k).cap) ∧ Zs W (vs k).a (vs k).len (vs k).zs) := fun W hW => by
              obtain ⟨b', off', e, _, hcx'⟩ := (HG.out _ hW).at_ (by omega)
              cases e
              exact ⟨hcx' k hkm, ((HG.out _ hW).row k hkm).1⟩
            obtain ⟨hzr, hl1, hl2⟩ := (HG.out _ hbW).row k hkm
            have hkI : (k : Int) < (m : Int) := by omega
            have hlv := levelI_in (vs k).zs
            have hnx := MeterI.next_ok hok hlv.1 hlv.2
            have HS : Hid (Calls Try.prog 13 #[.pointer (some ⟨p, 0, none⟩), .slice (vs k).a (vs k).len (vs k).cap] wr fun e w' => ∃ t, e = .returned (.bool t) ∧ Hid (Below w.heap.size w w' ∧ Mt p (q.next (levelI (vs k).zs)) w')) :=
              (pStep p q _ _ _ _ wr hM hok hzr hl1 hl2).mono (fun e w' ⟨h1, h2, h3⟩ => ⟨_, h1, hbW.trans (h3.below HP.out hbW.size), h2⟩)
            have HLV : Hid (∀ W, Below w.heap.size w W → Calls Try.prog 8 #[.slice (vs k).a (vs k).len (vs k).cap] W fun e w' => e = .returned (.int .i64 (levelI (vs k).zs)) ∧ ∃ k, w' = W.drewN k) := fun W hW => pLevel _ _ _ _ _ (HCK.out W hW).2 hl1 hl2
            generalize levelI (vs k).zs = v at *
            generalize q.next v = q2 at *
            obtain ⟨hok2, hf1, hf2⟩ := hnx
            have HOK : Hid q2.Ok := hok2
            have HFL : Hid (∀ W, Mt p q2 W → Calls Try.prog 14 #[.pointer (some ⟨p, 0, none⟩)] W fun e w' => e = .returned (.int .i64 q2.floor) ∧ w' = W) := fun W h => pFloor p _ W h
            generalize q2.floor = f at *
            clear hbW hM hok hcx hzr hl1 hl2 HH hok2 hlv
            go_wp2_with (go_at_call 13; go_loud (refine HS.out.mono ?_; rintro e w7 ⟨t7, rfl, HH7⟩))
            have hck7 := (HCK.out _ HH7.out.1).1
            have hfu : ((v : Int) < f) = False := eq_false (by omega)
            have hfn : (f < (0 : Int)) = False := eq_false (by omega)
            go_quiet (first
              | (go_at_call 14; go_loud (exact Calls.quiet_of_same (HFL.out _ (HH7.out.2.drewN _))))
              | (go_at_call 8; go_loud (exact Calls.quiet_of (HLV.out _ (below_drewN HH7.out.1 _)))))
            go_wp2
            go_roundw
            case rel => exact ⟨k + 1, by omega, by go_num, below_drewN HH7.out.1 _, q2, HOK.out, HH7.out.2.drewN _⟩
            case measure => simp [intOf]; omega
          · obtain rfl : k = m := by omega
            go_wp2
            go_ret
            exact ⟨rfl, HH.out.1⟩
  · go_enter Try.func6, Try.ntmps6
    go_wp2_with (go_at_call 7; go_loud (refine (awake_any w).mono ?_; rintro e w1 ⟨rfl, hb1⟩; replace hb := hb.trans (hb1.mono hb.size); clear hb1))
    all_goals first | (exfalso; omega) | (go_ret; exact ⟨rfl, hb⟩)

end Go.Proofs.Ytklpicfeajmadaa
