/- The law PitchSigns answers true: signs turned, the same scores. -/
import Derived.Test.YtamiokleolfnoaaPitchP
import Derived.Test.YtamiokleolfnoaaActs
namespace Go.Proofs.Ytamiokleolfnoaa
open Go.RowKit Pit

theorem negL_take_succ {zs : List Int} {k : Nat} (h : k < zs.length) : negL (zs.take k) ++ [-(zs[k]?.getD 0)] = negL (zs.take (k + 1)) := by
  rw [take_snoc h]
  unfold negL
  rw [List.map_append]
  rfl

set_option maxRecDepth 100000 in
set_option maxHeartbeats 1600000 in
theorem pitchSigns.walk (a : Option Addr) (n cap : Nat) (zq : List Int) (lag : Int) (w : World) (hq : IsRow .i64 w a n cap zq) (_ : (Lit.int .i64 lag).wf = true) :
    Calls Try.prog 6 #[.slice a n cap, .int .i64 lag] w fun e w' => e = .returned (.bool true) ∧ Below w.heap.size w w' := by
  obtain ⟨hz, hm, _⟩ := Zs.of_isRow hq
  clear hq
  generalize zq.take n = zs at hz
  have HZ : Hid (∀ W, Below w.heap.size w W → Zs W a n zs) := fun W hW => hz.keep hW
  have HL : Hid (zs.length = n ∧ n ≤ maxLen) := ⟨hz.len, hm⟩
  have hm2 : (n : Int) ≤ 9223372036854775807 := by simp only [maxLen] at hm; omega
  have hb := Below.refl w.heap.size w
  clear hz hm
  by_cases hn : 960 < n
  · go_enter Try.func6, Try.ntmps6
    go_wp2_with (go_at_call 8; refine (awake_any _).mono ?_; rintro e w1 ⟨rfl, hb1⟩; replace hb := hb.trans (hb1.mono hb.size); clear hb1)
    go_ret
    exact ⟨rfl, hb⟩
  · go_enter Try.func6, Try.ntmps6
    go_wp2_with (go_at_call 8; refine (awake_any _).mono ?_; rintro e w1 ⟨rfl, hb1⟩; replace hb := hb.trans (hb1.mono hb.size); clear hb1)
    go_loopw [5, 6] (fun v i W => ∃ k : Nat, k ≤ n ∧ i = .int .i64 k ∧ Hid (W.ownsRow w.heap.size 2 1 v k ((negL (zs.take k)).map (Value.int .i64)) ∧ Below w.heap.size w W ∧ ∀ j, j < k → -16383 ≤ zs[j]?.getD 0 ∧ zs[j]?.getD 0 ≤ 16383)) (fun _ i _ => n - (intOf i).toNat)
    case atStart => exact ⟨0, Nat.zero_le _, rfl, World.ownsRow_nil _ _ _ _, hb, fun j hj => absurd hj (Nat.not_lt_zero _)⟩
    case round =>
      clear hb
      obtain ⟨k, hk, rfl, HH⟩ := hrel
      by_cases hlt : k < n
      · obtain ⟨hown, hbel, hall⟩ := HH.out
        obtain ⟨b, off, rfl, hb0, hc⟩ := (HZ.out wr hbel).at_ (by omega)
        have hck := hc k hlt
        have HS := negL_take_succ (zs := zs) (k := k) (by have := HL.out; omega)
        have hsz := hbel.size
        have HALL : Hid (-16383 ≤ zs[k]?.getD 0 → zs[k]?.getD 0 ≤ 16383 → ∀ j, j < k + 1 → -16383 ≤ zs[j]?.getD 0 ∧ zs[j]?.getD 0 ≤ 16383) := fun h1 h2 j hj => by
          rcases Nat.lt_or_ge j k with h | h
          · exact hall j h
          · obtain rfl : j = k := by omega
            exact ⟨h1, h2⟩
        generalize zs[k]?.getD 0 = z at hck HS HALL
        have HS : Hid (negL (zs.take k) ++ [-z] = negL (zs.take (k + 1))) := HS
        have HB : Hid (Below w.heap.size w wr) := hbel
        by_cases h1 : 16383 < z
        · clear HH hall hc
          go_wp2
          go_ret
          exact ⟨rfl, HB.out⟩
        · by_cases h2 : z < -16383
          · clear HH hall hc
            go_wp2
            go_ret
            exact ⟨rfl, HB.out⟩
          · have HA2 : Hid (∀ j, j < k + 1 → -16383 ≤ zs[j]?.getD 0 ∧ zs[j]?.getD 0 ≤ 16383) := HALL.out (by omega) (by omega)
            clear HH hall hc HALL
            go_wp2_with (at_builtin; refine wpList_append_one 27 2 Try.underlying27 info_int64 w.heap.size _ k _ _ hown (by omega) hsz rfl _ _ rfl rfl rfl ?_; rw [HS.out]; intro v' w10 hown2 hb2; have hb3 := hbel.trans hb2)
            go_roundw
            case rel => exact ⟨k + 1, by omega, by go_num, hown2, hb3, HA2.out⟩
            case measure => simp [intOf]; omega
      · obtain rfl : k = n := by omega
        obtain ⟨hown, hbel, hall⟩ := HH.out
        have hlz := HL.out.1
        rw [List.take_of_length_le (by omega)] at hown
        obtain ⟨_, a2, c2, rfl, hnew⟩ := NewRow.of_owned hown
        have hneg : (negL zs).length = k := by unfold negL; rw [List.length_map]; exact hlz
        have HN : Hid (∀ W, Below wr.heap.size wr W → Zs W a2 k (negL zs)) := fun W hW => (Zs.of_new hnew hneg).keep hW
        have HZ2 : Hid (∀ W, Below wr.heap.size wr W → Zs W a k zs) := fun W hW => HZ.out W (hbel.trans (hW.mono hbel.size))
        have hsc : scoreI (negL zs) lag = scoreI zs lag := scoreI_neg (fun i => by
          rcases Nat.lt_or_ge i k with h | h
          · exact hall i h
          · rw [List.getElem?_eq_none (by omega)]
            exact ⟨by decide, by decide⟩) lag
        have hpos := (scoreI_in zs lag).1
        have HSC : Hid (scoreI (negL zs) lag = scoreI zs lag) := hsc
        obtain ⟨sc, hsce⟩ : ∃ sc, scoreI zs lag = sc := ⟨_, rfl⟩
        have HE : Hid (scoreI zs lag = sc) := hsce
        rw [hsce] at hpos
        have HB : Hid (Below w.heap.size w wr) := hbel
        have hb4 := Below.refl wr.heap.size wr
        have y1 : Hid True := trivial
        have y2 : Hid True := trivial
        clear HH hown hbel hall hnew hneg hsc hsce
        go_wp2_with (first
          | (go_at_call 11; clear y1; go_loud (refine (Score_any a k cap zs lag _ (HZ2.out _ hb4) HL.out.2).mono ?_; rw [HE.out]; rintro e w5 ⟨rfl, hb5⟩; replace hb4 := hb4.trans (hb5.mono hb4.size); clear hb5))
          | (go_at_call 11; clear y2; go_loud (refine (Score_any a2 k c2 (negL zs) lag _ (HN.out _ hb4) HL.out.2).mono ?_; rw [HSC.out, HE.out]; rintro e w5 ⟨rfl, hb5⟩; replace hb4 := hb4.trans (hb5.mono hb4.size); clear hb5))
          | (go_at_call 11; go_loud (refine (Score_any a k cap zs lag _ (HZ2.out _ hb4) HL.out.2).mono ?_; rw [HE.out]; rintro e w5 ⟨rfl, hb5⟩; replace hb4 := hb4.trans (hb5.mono hb4.size); clear hb5)))
        go_ret
        exact ⟨rfl, HB.out.trans (hb4.mono HB.out.size)⟩

end Go.Proofs.Ytamiokleolfnoaa
