/- How much a sound is like itself: the document's own Auto. -/
import Derived.Test.YtjaccokmficfdaaLevinM
import Derived.Test.YtjaccokmficfdaaLimL
namespace Go.Proofs.Ytjaccokmficfdaa
namespace Lev
open Go.RowKit

theorem i64_wrap {z : Int} (h1 : -9223372036854775808 ≤ z) (h2 : z ≤ 9223372036854775807) : wrap64 z = z := by unfold wrap64; omega

theorem i64k_wrap {z : Int} (h1 : -9223372036854775808 ≤ z) (h2 : z ≤ 9223372036854775807) : IntKind.i64.wrap z = z := by rw [IntKind.wrap_i64]; omega

theorem limL_16 (zs : List Int) : limL (-32768) 32767 zs = s16L zs := rfl

theorem newRow_low {e : TypeId} {B B' : Nat} {w : World} {a : Option Addr} {zs : List Int} (h : NewRow e B w a zs) (hB : B' ≤ B) : NewRow e B' w a zs := by
  rcases h with h | ⟨b, c, h1, h2, h3⟩
  · exact .inl h
  · exact .inr ⟨b, c, h1, Nat.le_trans hB h2, h3⟩

/-- The first k numbers of a sound's likeness. -/
def autoTo (zs : List Int) (k : Nat) : List Int := (List.range k).map (autoI zs)
theorem autoTo_succ (zs : List Int) (k : Nat) : autoTo zs (k + 1) = autoTo zs k ++ [autoI zs k] := by
  unfold autoTo
  rw [List.range_succ, List.map_append]
  rfl
theorem autoTo_all (zs : List Int) (o : Nat) : autoTo zs (o + 1) = autoL zs o := rfl

set_option maxRecDepth 100000 in
set_option maxHeartbeats 1600000 in
theorem rAuto_any (a : Option Addr) (n cap O : Nat) (zs : List Int) (w : World) (hz0 : Zs w a n zs) (hn : n ≤ 960) (hO : O ≤ 40) :
    Calls Try.prog 16 #[.slice a n cap, .int .i64 O] w fun e w' => ∃ a' c', e = .returned (.slice a' (O + 1) c') ∧ NewRow 2 w.heap.size w' a' (autoL zs O) ∧ Below w.heap.size w w' := by
  have HZ0 : Hid (Zs w a n zs ∧ zs.length = n) := ⟨hz0, hz0.len⟩
  have HLL : Hid ((limL (-32768) 32767 zs).length = n) := by show _ = _; rw [limL_len]; exact hz0.len
  have HN : Hid (n ≤ 960 ∧ O ≤ 40) := ⟨hn, hO⟩
  have hOI : (O : Int) ≤ 40 := by omega
  clear hz0
  go_enter Try.func16, Try.ntmps16
  go_wp2_with (go_at_call 30; refine (rlim_any a n cap zs _ _ _ HZ0.out.1 (by omega)).mono ?_; rintro e w1 ⟨a1, c1, rfl, hr1, hb1⟩; have HZ1 : Hid (∀ W, Below w1.heap.size w1 W → Zs W a1 n (s16L zs)) := (fun W hW => (Zs.of_new hr1 HLL.out).keep hW); have HB1 : Hid (Below w.heap.size w w1) := hb1; clear hr1 hb1)
  go_loopw [5, 6] (fun v i W => ∃ k : Nat, k ≤ O + 1 ∧ i = .int .i64 k ∧ Hid (W.ownsRow w1.heap.size 2 1 v k ((autoTo zs k).map (Value.int .i64)) ∧ Below w1.heap.size w1 W)) (fun _ i _ => O + 1 - (intOf i).toNat)
  case atStart => exact ⟨0, Nat.zero_le _, rfl, World.ownsRow_nil _ _ _ _, Below.refl _ _⟩
  case round =>
    obtain ⟨k, hk, rfl, HH⟩ := hrel
    by_cases hlt : k < O + 1
    · have hkI : (k : Int) ≤ (O : Int) := by omega
      obtain ⟨K, hK⟩ : ∃ K, n - k = K := ⟨_, rfl⟩
      have HK : Hid (n - k = K ∧ k < O + 1) := ⟨hK, hlt⟩
      have HCI : Hid (∀ j, corrI zs k k (j + 1) = corrI zs k k j + s16 (zs[k + j]?.getD 0) * s16 (zs[k + j - k]?.getD 0)) := fun _ => rfl
      have HCB : Hid (∀ j : Nat, -((j : Int) * 1073741824) ≤ corrI zs k k j ∧ corrI zs k k j ≤ (j : Int) * 1073741824) := corrI_in zs k k
      have HC0 : Hid (corrI zs k k 0 = 0) := rfl
      have HEND : Hid (autoTo zs (k + 1) = autoTo zs k ++ [corrI zs k k K]) := by
        show _ = _
        rw [autoTo_succ, ← hK]
        unfold autoI
        rw [HZ0.out.2]
      generalize corrI zs k k = C at *
      clear hK
      go_wp2
      go_loopw [7, 8] (fun c i W => (∃ d, W = wr.drewN d) ∧ ∃ j : Nat, j ≤ K ∧ c = .int .i64 (C j) ∧ i = .int .i64 ((k + j : Nat) : Int)) (fun _ i _ => n - (intOf i).toNat)
      case atStart => exact ⟨⟨0, rfl⟩, 0, Nat.zero_le _, by rw [HC0.out], rfl⟩
      case round =>
        obtain ⟨⟨d, rfl⟩, j, hj, rfl, rfl⟩ := hrel
        obtain ⟨m, hm⟩ : ∃ m, k + j = m := ⟨_, rfl⟩
        rw [hm]
        have hKN := HK.out
        by_cases hmn : m < n
        · obtain ⟨b, off, rfl, hb0, hc⟩ := (HZ1.out wr HH.out.2).at_ (by omega)
          have hcm := hc m hmn
          have hcq := hc j (by omega)
          rw [s16L_at] at hcm hcq
          have hw1 : wrap64 ((m : Int) - (k : Int)) = (j : Int) := by
            rw [show (m : Int) - (k : Int) = (j : Int) by omega]
            exact i64_wrap (by omega) (by omega)
          have hw2 : (m : Int) - (k : Int) = (j : Int) := by omega
          have hci := HCI.out j
          rw [hm, show m - k = j by omega] at hci
          have hcb := HCB.out j
          have hcb1 := HCB.out (j + 1)
          have hp1 := prod16 (s16_in (zs[m]?.getD 0)).1 (s16_in (zs[m]?.getD 0)).2 (s16_in (zs[j]?.getD 0)).1 (s16_in (zs[j]?.getD 0)).2
          generalize s16 (zs[m]?.getD 0) = x at *
          generalize s16 (zs[j]?.getD 0) = y at *
          obtain ⟨xy, hxy⟩ : ∃ z, x * y = z := ⟨_, rfl⟩
          rw [hxy] at hp1 hci
          have HX1 : Hid (wrap64 (x * y) = xy) := by show _ = _; rw [hxy]; exact i64_wrap (by omega) (by omega)
          have HA1 : Hid (wrap64 (C j + xy) = C (j + 1)) := by show _ = _; rw [hci]; exact i64_wrap (by omega) (by omega)
          have hji : ((j : Int) < 0) = False := eq_false (by omega)
          have hjn : (j : Int) < (n : Int) := by omega
          have HM : Hid (k + j = m ∧ j < K ∧ m < n) := ⟨hm, by omega, hmn⟩
          clear hm hKN hci hcb hcb1 hp1 hxy hj hc
          go_wp2
          go_quiet (fail)
          go_wp2
          go_roundw
          case rel => exact ⟨⟨_, rfl⟩, j + 1, by have := HM.out; omega, by rw [HX1.out, HA1.out], by rw [← Nat.add_assoc, HM.out.1]; go_num⟩
          case measure =>
            have := HM.out.2.2
            simp [intOf]
            omega
        · have hjK : j = K := by omega
          subst hjK
          obtain ⟨hown, hbel⟩ := HH.out
          have HOWN : Hid ((wr.drewN d).ownsRow w1.heap.size 2 1 _ k ((autoTo zs k).map (Value.int .i64)) ∧ Below w1.heap.size w1 (wr.drewN d) ∧ w1.heap.size ≤ (wr.drewN d).heap.size) := ⟨hown, below_drewN hbel d, hbel.size⟩
          have hk40 : k ≤ 41 := by have := HN.out; omega
          clear hown hbel HH
          go_wp2_with (at_builtin; go_loud (refine wpList_append_one 23 2 Try.underlying23 info_int64 w1.heap.size _ k _ _ HOWN.out.1 (by omega) HOWN.out.2.2 rfl _ _ rfl rfl rfl ?_; rw [← HEND.out]; intro v' w10 hown2 hb2; have hb3 := HOWN.out.2.1.trans hb2; have HN2 : Hid (w10.ownsRow w1.heap.size 2 1 v' (k + 1) ((autoTo zs (k + 1)).map (Value.int .i64)) ∧ Below w1.heap.size w1 w10) := ⟨hown2, hb3⟩; clear hown2 hb2 hb3))
          go_roundw
          case rel => exact ⟨k + 1, by have := HK.out; omega, by go_num, HN2⟩
          case measure => simp [intOf]; omega
    · obtain rfl : k = O + 1 := by omega
      obtain ⟨hown, hbel⟩ := HH.out
      rw [autoTo_all] at hown
      obtain ⟨_, a', c', rfl, hnew⟩ := NewRow.of_owned hown
      have HE : Hid (NewRow 2 w.heap.size wr a' (autoL zs O) ∧ Below w.heap.size w wr) := ⟨newRow_low hnew HB1.out.size, HB1.out.trans (hbel.mono HB1.out.size)⟩
      clear hown hbel hnew HH
      go_wp2
      go_ret
      exact ⟨_, _, rfl, HE.out⟩

end Lev
end Go.Proofs.Ytjaccokmficfdaa
