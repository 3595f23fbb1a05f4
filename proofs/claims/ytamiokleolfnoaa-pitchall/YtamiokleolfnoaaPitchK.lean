/- Package pitch's Search of what may be asked. -/
import Derived.Test.YtamiokleolfnoaaPitchJ
namespace Go.Proofs.Ytamiokleolfnoaa
namespace Pit
open Go.RowKit

theorem Hp.keep' {B p n : Nat} {e : Nat → LagS} {w w' : World} (h : Hp B p n e w) (hb : Below w.heap.size w w') : Hp B p n e w' := h.keep hb

theorem goodLags_one {n a M k : Nat} (h : goodLagsB n (a : Int) (M : Int) = true) (hk : a + k ≤ M) : goodLagsB n ((a + k : Nat) : Int) ((a + k : Nat) : Int) = true := by
  have h := of_decide_eq_true h
  exact decide_eq_true (by omega)

set_option maxRecDepth 100000 in
set_option maxHeartbeats 3200000 in
theorem search_good (x : Option Addr) (n cap : Nat) (zs : List Int) (a M b d : Nat) (w : World) (hz : Zs w x n zs) (hg : goodLagsB n a M = true) (hb1 : 1 ≤ b) (hb2 : b ≤ 32) (hd : a + d = M) :
    Calls Try.prog 9 #[.slice x n cap, .int .i64 a, .int .i64 M, .int .i64 b] w fun e w' => ∃ r, e = .returned (.tuple #[.slice (some ⟨r, 0, none⟩) (min b (d + 1)) (min b (d + 1)), .int .i64 0]) ∧ SRow w.heap.size w' r (min b (d + 1)) (min b (d + 1)) (fun j => (topL zs a b (d + 1))[j]?.getD (0, 0)) ∧ Below w.heap.size w w' := by
  have hgd := of_decide_eq_true hg
  have HN : Hid (n ≤ 960 ∧ 1 ≤ a ∧ a + d = M ∧ M ≤ 480 ∧ 1 ≤ b ∧ b ≤ 32) := ⟨hgd.2.1, by omega, hd, by omega, hb1, hb2⟩
  have HG : Hid (goodLagsB n a M = true) := hg
  have HGO : Hid (∀ k, a + k ≤ M → goodLagsB n ((a + k : Nat) : Int) ((a + k : Nat) : Int) = true) := fun k hk => goodLags_one hg hk
  have HZ : Hid (Zs w x n zs ∧ (s16L zs).length = n) := ⟨hz, by rw [s16L_len, hz.len]⟩
  have hn9 : n ≤ 960 := HN.out.1
  have hbI1 : (1 : Int) ≤ b := by omega
  have hbI2 : (b : Int) ≤ 32 := by omega
  clear hgd hz hg hd hb1 hb2
  go_enter Try.func9, Try.ntmps9
  go_wp2_with (first
    | (go_at_call 14; refine (goodLags_any n (by omega) _ _ _).mono ?_; rw [HG.out]; rintro e w ⟨rfl, rfl⟩)
    | (go_at_call 15; refine (saturated_any x n cap zs _ HZ.out.1 (by omega)).mono ?_; rintro e w1 ⟨x1, rfl, hr1, hw1⟩; have HR1 : Hid (Zs w1 x1 n (s16L zs) ∧ Below w.heap.size w w1) := ⟨Zs.of_new hr1 HZ.out.2, hw1⟩; obtain ⟨B, hB⟩ : ∃ B, w1.heap.size = B := ⟨_, rfl⟩; have HB : Hid (w1.heap.size = B) := hB; have HP0 : Hid (Hp B (B + 1) 0 (fun _ => (0, 0)) ((w1.alloc (.cells #[] 33)).alloc (.cells #[.slice (some ⟨B, 0, none⟩) 0 0] 41)) ∧ Below B w1 ((w1.alloc (.cells #[] 33)).alloc (.cells #[.slice (some ⟨B, 0, none⟩) 0 0] 41))) := (by rw [← hB]; exact ⟨Hp.fresh w1 _, ((Below.refl _ _).alloc (Nat.le_refl _) _).alloc (by simp) _⟩); clear hr1 hw1))
  have HSTART : Hid (∃ e1, Hp B (B + 1) (min b 0) e1 ((w1.alloc (.cells #[] 33)).alloc (.cells #[.slice (some ⟨B, 0, none⟩) 0 0] 41)) ∧ Hold keyL e1 (topL zs a b 0) ∧ Below B w1 ((w1.alloc (.cells #[] 33)).alloc (.cells #[.slice (some ⟨B, 0, none⟩) 0 0] 41))) :=
    ⟨fun _ => (0, 0), by rw [Nat.min_eq_right (Nat.zero_le b)]; exact HP0.out.1, by rw [topL_zero]; exact Hold.nil _, HP0.out.2⟩
  clear HP0 hB
  go_loopw [12] (fun y W => ∃ k : Nat, k ≤ d + 1 ∧ y = .int .i64 ((a + k : Nat) : Int) ∧ Hid (∃ e1, Hp B (B + 1) (min b k) e1 W ∧ Hold keyL e1 (topL zs a b k) ∧ Below B w1 W)) (fun y _ => M + 1 - (intOf y).toNat)
  case atStart => exact ⟨0, Nat.zero_le _, rfl, HSTART⟩
  case round =>
    clear HSTART
    obtain ⟨k, hk, rfl, HH⟩ := hrel
    have hN := HN.out
    by_cases hlt : a + k ≤ M
    · obtain ⟨e1, hh, hold, hbW⟩ := HH.out
      have HGL := HGO.out k hlt
      have hls : lagS zs ((a : Int) + (k : Int)) = (((a + k : Nat) : Int), scoreI zs ((a + k : Nat) : Int)) := by
        unfold lagS
        rw [Int.natCast_add]
      have HBW : Hid (Below B w1 wr) := hbW
      have HZW : Hid (Zs wr x1 n (s16L zs)) := HR1.out.1.keep (by rw [HB.out]; exact hbW)
      obtain ⟨q, hq⟩ : ∃ q, a + k = q := ⟨_, rfl⟩
      rw [hq] at HGL hls
      rw [hq]
      have HGL : Hid (goodLagsB n (q : Int) (q : Int) = true) := HGL
      have HLAG : Hid (0 ≤ (q : Int) ∧ (q : Int) < 1000) := by
        show _ ∧ _
        omega
      have hqM : (q : Int) ≤ (M : Int) := by omega
      have HQ : Hid (a + k = q ∧ k < d + 1 ∧ q ≤ M ∧ k < 1000) := ⟨hq, by omega, by omega, by omega⟩
      have HA : Hid ((1 : Int) ≤ a ∧ (a : Int) + (k : Int) ≤ 1000) := by
        show _ ∧ _
        omega
      have HPL : Hid (∀ m, min b k = m → Pl m e1) := fun m hm => topL_pl HA.out.1 HA.out.2 hold hm
      have HW1 : Hid (wrap64 ((q : Int) + 1) = ((q + 1 : Nat) : Int)) := by
        show _ = _
        rw [show (q : Int) + 1 = ((q + 1 : Nat) : Int) by omega]
        exact i64_wrap (by omega) (by omega)
      by_cases hkb : k < b
      · have hmk : min b k = k := Nat.min_eq_right (by omega)
        have HNEXT : Hid (Hold keyL (pushF e1 k ((q : Int), scoreI zs (q : Int))) (topL zs a b (k + 1)) ∧ min b (k + 1) = k + 1) := ⟨by rw [← hls]; exact hold_more HA.out.1 HA.out.2 hold hkb, Nat.min_eq_right (by omega)⟩
        have HH1 : Hid (Hp B (B + 1) k e1 wr) := by rw [hmk] at hh; exact hh
        have HPLk : Hid (Pl k e1) := HPL.out k hmk
        obtain ⟨sc, hsc⟩ : ∃ sc, scoreI zs (q : Int) = sc := ⟨_, rfl⟩
        have HSC : Hid (scoreI zs (q : Int) = sc) := hsc
        rw [hsc] at HNEXT
        have hcmp : ((b : Int) < (k : Int) + 1) = False := eq_false (by omega)
        clear hls hq hlt hk hN hold hbW hh HH hmk HPL hkb hsc
        go_wp2_with (first
          | (go_at_call 17; refine (score_is x1 n n zs _ _ HZW.out HGL.out).mono ?_; rw [HSC.out]; rintro e' w2 ⟨rfl, j, rfl⟩)
          | (go_at_call 16; go_loud (refine (heapPush_any (HH1.out.drewN j) HPLk.out HQ.out.2.2.2 _ _ HLAG.out).mono ?_; rintro e' w3 ⟨rfl, hh3, hb3⟩; obtain ⟨v3, hv3⟩ := hh3; obtain ⟨g3, cap3, rfl, _, _⟩ := hv3.inRow (Nat.succ_pos k); have hc3 := hv3.at; have HV3 : Hid (HpV B (B + 1) (k + 1) (.slice (some ⟨g3, 0, none⟩) (k + 1) cap3) (pushF e1 k ((q : Int), sc)) w3) := hv3; have HB3 : Hid (Below B w1 w3) := (below_drewN HBW.out j).trans hb3; clear hv3 hb3))
          | (go_at_call 18; refine (len_any _ (k + 1) cap3 _).mono ?_; rintro e' w3 ⟨rfl, rfl⟩))
        go_roundw
        case rel => exact ⟨k + 1, by have := HQ.out; omega, by rw [← Nat.add_assoc, HQ.out.1]; first | rw [HW1.out] | go_num, ⟨_, by rw [HNEXT.out.2]; exact ⟨_, HV3.out⟩, HNEXT.out.1, HB3.out⟩⟩
        case measure =>
          have := HQ.out
          first
            | (rw [HW1.out]; simp [intOf]; omega)
            | (simp [intOf]; omega)
      · have hmk : min b k = b := Nat.min_eq_left (by omega)
        have hfull := hold_full HA.out.1 HA.out.2 hold (by omega)
        obtain ⟨hf1, hf2, hf3⟩ := hfull
        have hpop := hf1.pop hf2
        rw [hls] at hf1 hf2 hf3 hpop
        rw [hf3] at hpop
        obtain ⟨sc, hsc⟩ : ∃ sc, scoreI zs (q : Int) = sc := ⟨_, rfl⟩
        have HSC : Hid (scoreI zs (q : Int) = sc) := hsc
        rw [hsc] at hpop hf1
        have HNEXT : Hid (Hold keyL (downF keyL b (swapF (pushF e1 b ((q : Int), sc)) 0 b) 0 b).1 (topL zs a b (k + 1)) ∧ min b (k + 1) = b) := ⟨hpop.1, Nat.min_eq_left (by omega)⟩
        have HH1 : Hid (Hp B (B + 1) b e1 wr) := by rw [hmk] at hh; exact hh
        have HPLk : Hid (Pl b e1) := HPL.out b hmk
        have HPL2 : Hid (Pl (b + 1) (pushF e1 b ((q : Int), sc))) := by
          have h1 := Hold.pl hf1 (fun x hx => by
            rcases (mem_insD keyL _ _ _).1 hx with rfl | hx
            · exact HLAG.out
            · have := (mem_topL hx).1
              have := HA.out
              omega)
          rw [hsc] at hf2
          rw [hf2] at h1
          exact h1
        have hcmp : ((b : Int) < (b : Int) + 1) = True := eq_true (by omega)
        clear hls hq hlt hk hN hold hbW hh HH hmk HPL hkb hsc hf1 hf2 hf3 hpop
        go_wp2_with (first
          | (go_at_call 17; refine (score_is x1 n n zs _ _ HZW.out HGL.out).mono ?_; rw [HSC.out]; rintro e' w2 ⟨rfl, j, rfl⟩)
          | (go_at_call 16; go_loud (refine (heapPush_any (HH1.out.drewN j) HPLk.out (by have := HN.out; omega) _ _ HLAG.out).mono ?_; rintro e' w3 ⟨rfl, hh3, hb3⟩; obtain ⟨v3, hv3⟩ := hh3; obtain ⟨g3, cap3, rfl, _, _⟩ := hv3.inRow (Nat.succ_pos b); have hc3 := hv3.at; have HV3 : Hid (HpV B (B + 1) (b + 1) (.slice (some ⟨g3, 0, none⟩) (b + 1) cap3) (pushF e1 b ((q : Int), sc)) w3) := hv3; have HB3 : Hid (Below B w1 w3) := (below_drewN HBW.out j).trans hb3; clear hv3 hb3))
          | (go_at_call 18; refine (len_any _ (b + 1) cap3 _).mono ?_; rintro e' w3 ⟨rfl, rfl⟩)
          | (go_at_call 19; go_loud (refine (heapPop_any ⟨_, HV3.out⟩ HPL2.out (by have := HN.out; omega)).mono ?_; rintro e' w4 ⟨rfl, hh4, hb4⟩; have HH4 : Hid (Hp B (B + 1) b (downF keyL b (swapF (pushF e1 b ((q : Int), sc)) 0 b) 0 b).1 w4 ∧ Below B w1 w4) := ⟨hh4, HB3.out.trans hb4⟩; clear hh4 hb4)))
        go_roundw
        case rel => exact ⟨k + 1, by have := HQ.out; omega, by rw [← Nat.add_assoc, HQ.out.1]; first | rw [HW1.out] | go_num, ⟨_, by rw [HNEXT.out.2]; exact HH4.out.1, HNEXT.out.1, HH4.out.2⟩⟩
        case measure =>
          have := HQ.out
          first
            | (rw [HW1.out]; simp [intOf]; omega)
            | (simp [intOf]; omega)
    · obtain rfl : k = d + 1 := by omega
      obtain ⟨e1, hh, hold, hbW⟩ := HH.out
      have hpos : 0 < min b (d + 1) := by omega
      have hxs : ∀ x ∈ topL zs a b (d + 1), 0 ≤ x.1 ∧ x.1 < 1000 := fun x hx => by
        have := (mem_topL hx).1
        omega
      have hle : min b (d + 1) ≤ 100 := by omega
      have hlen := topL_len zs a b (d + 1)
      obtain ⟨c, hc⟩ : ∃ c, min b (d + 1) = c := ⟨_, rfl⟩
      have HC : Hid (min b (d + 1) = c) := hc
      rw [hc] at hh hpos hle hlen
      obtain ⟨v, hv⟩ := hh
      obtain ⟨g, cp, rfl, _, _⟩ := hv.inRow hpos
      have HBF : Hid (HpV B (B + 1) c (.slice (some ⟨g, 0, none⟩) c cp) e1 wr ∧ Hold keyL e1 (topL zs a b (d + 1)) ∧ (topL zs a b (d + 1)).length = c ∧ c ≤ 100 ∧ (∀ x ∈ topL zs a b (d + 1), 0 ≤ x.1 ∧ x.1 < 1000) ∧ B ≤ wr.heap.size ∧ Below B w1 wr) :=
        ⟨hv, hold, hlen, hle, hxs, by rw [← HB.out]; exact hbW.size, hbW⟩
      have HWW : Hid (w.heap.size ≤ wr.heap.size ∧ w.heap.size ≤ B) := ⟨Nat.le_trans HR1.out.2.size hbW.size, by rw [← HB.out]; exact HR1.out.2.size⟩
      clear hv hold hlen hle hxs hbW hpos hc hN HH hk
      go_wp2_with (go_at_call 20; go_loud (refine (bestFirst_any HBF.out.1 HBF.out.2.1 HBF.out.2.2.1 HBF.out.2.2.2.1 HBF.out.2.2.2.2.1 HBF.out.2.2.2.2.2.1).mono ?_; rintro e' w5 ⟨r, rfl, hr5, hb5⟩; have HR5 : Hid (SRow w.heap.size w5 r c c (fun j => (topL zs a b (d + 1))[j]?.getD (0, 0)) ∧ Below w.heap.size w w5) := ⟨hr5.lower HWW.out.1, HR1.out.2.trans ((HBF.out.2.2.2.2.2.2.trans hb5).mono HWW.out.2)⟩; clear hr5 hb5))
      go_ret2
      rw [HC.out]
      exact ⟨r, rfl, HR5.out⟩

end Pit
end Go.Proofs.Ytamiokleolfnoaa
