/- Package levin's own calls: samples of 16 bits, how much a sound is like itself, its power. -/
import Derived.Test.YtjaccokmficfdaaLevA
import Derived.Test.YtjaccokmficfdaaLastOp
import Derived.Test.YtjaccokmficfdaaSynQ
import Derived.Test.YtjaccokmficfdaaMA
import Derived.Deep.RegionWith
import Derived.Deep.Light
namespace Go.Proofs.Ytjaccokmficfdaa
namespace Lev
open Go.RowKit

/-- 'l[:hi]', of a list that may be none. -/
theorem slice_to64 (a : Option Addr) (n cap hi : Nat) (h3 : hi ≤ cap) : (∀ W, (Instr.slice 23 (.slice a n cap) none (some (.int .i64 (hi : Int))) none).run Try.prog W = .ok (.slice a hi cap) W) ∧
    ∀ W, (Instr.sliceAt 23 (.slice a n cap) none (some (.int .i64 (hi : Int))) none).run Try.prog W = .ok (.slice a hi cap) W := by
  have hr : ∀ W, (Instr.slice 23 (.slice a n cap) none (some (.int .i64 (hi : Int))) none).run Try.prog W = .ok (.slice a hi cap) W := fun W => by
    rw [run_slice_h (P := Try.prog) (w := W) 23 a n cap elem_numbers .i64 hi (by omega) (by omega), size_numbers]
    show Result.ok (sliced _ _ _ _ 1) W = _
    unfold sliced
    rw [Int.toNat_natCast]
    cases a <;> simp [Addr.add]
  exact ⟨hr, fun W => by rw [run_sliceAt_slice (P := Try.prog) (w := W) (h := elem_numbers)]; exact hr W⟩

set_option maxHeartbeats 1000000 in
theorem psat_any (a : Option Addr) (n cap : Nat) (zs : List Int) (w : World) (hz : Zs w a n zs) (hn : n ≤ 100000) :
    Calls Try.prog 22 #[.slice a n cap] w fun e w' => ∃ a', e = .returned (.slice a' n n) ∧ NewRow 2 w.heap.size w' a' (s16L zs) ∧ Below w.heap.size w w' := by
  have hl := hz.len
  have HZ : Hid (∀ W, Below w.heap.size w W → Zs W a n zs) := fun W hb => hz.keep hb
  have HF : Hid (∀ j, (s16L zs)[j]?.getD 0 = s16 (zs[j]?.getD 0)) := fun j => s16L_at zs j
  have HL : Hid ((s16L zs).length = n) := by show _ = _; rw [s16L_len, hl]
  clear hz hl
  generalize s16L zs = f at *
  have hmk := fun W : World => run_make_row' (P := Try.prog) 23 2 (.int .i64 0) 8 Try.underlying23 info_int64 rfl .i64 .i64 n (by omega) (by omega) W
  go_enter Try.func22, Try.ntmps22
  go_wp2
  go_loopw [4, 5, 11] (fun _ _ k W => ∃ m : Nat, m ≤ n ∧ k = .int .i64 m ∧ W.rowIs w.heap.size 2 n (fun j => .int .i64 (if j < m then f[j]?.getD 0 else 0)) ∧ Below w.heap.size w W) (fun _ _ k _ => n - (intOf k).toNat)
  case atStart => exact ⟨0, Nat.zero_le _, rfl, World.rowIs_made w _ _ _, (Below.refl _ _).alloc (Nat.le_refl _) _⟩
  case round =>
    obtain ⟨m, hm, rfl, hrow, hbel⟩ := hrel
    by_cases hlt : m < n
    · have hfz := hrow.frozen m
      obtain ⟨x, hx⟩ : ∃ x, wr.cell? ⟨w.heap.size, m, none⟩ = some x := ⟨_, hrow.cell hlt⟩
      obtain ⟨b, off, rfl, hb, hc⟩ := (HZ.out wr hbel).at_ (by omega)
      have hcm := hc m hlt
      have hfm := HF.out m
      generalize zs[m]?.getD 0 = z at hcm hfm
      have HFm : Hid (clampI z (-32768) 32767 = f[m]?.getD 0) := hfm.symm
      have HR : Hid ((wr.setCell ⟨w.heap.size, m, none⟩ (.int .i64 (f[m]?.getD 0))).rowIs w.heap.size 2 n (fun j => .int .i64 (if j < m + 1 then f[j]?.getD 0 else 0))) := rowIs_step (f := fun j => f[j]?.getD 0) hrow (by omega)
      have HB : Hid (Below w.heap.size w (wr.setCell ⟨w.heap.size, m, none⟩ (.int .i64 (f[m]?.getD 0)))) := hbel.setCell (Nat.le_refl _) _
      clear hrow hbel HF hc HZ hfm
      generalize f[m]?.getD 0 = fm at HFm HR HB
      go_wp2_with (go_at_call 40; refine (sat16_any _ _).mono ?_; rw [HFm.out]; rintro e w' ⟨rfl, rfl⟩)
      go_roundw
      case rel => exact ⟨m + 1, by omega, by go_num, HR.out, HB.out⟩
      case measure => simp [intOf]; omega
    · have hm' : m = n := by omega
      subst hm'
      have HR : Hid (NewRow 2 w.heap.size wr (some ⟨w.heap.size, 0, none⟩) f) := NewRow.of_rowIs hrow (Nat.le_refl _) HL.out (fun j hj => by rw [if_pos hj])
      clear hrow HF HZ
      go_wp2
      go_ret
      exact ⟨_, rfl, HR.out, hbel⟩

theorem qAuto_no (a : Option Addr) (n cap : Nat) (o : Int) (w : World) (h : ¬ (n ≤ 960 ∧ 1 ≤ o ∧ o ≤ 32)) :
    Calls Try.prog 10 #[.slice a n cap, .int .i64 o] w fun e w' => e = .returned (.tuple #[.slice none 0 0, .int .i64 1]) ∧ w' = w := by
  by_cases h1 : n ≤ 960
  · by_cases h2 : 1 ≤ o
    · have h3 : ¬ o ≤ 32 := fun h3 => h ⟨h1, h2, h3⟩
      clear h
      go_enter Try.func10, Try.ntmps10
      go_wp2
      go_ret2
      exact ⟨rfl, rfl⟩
    · clear h
      go_enter Try.func10, Try.ntmps10
      go_wp2
      go_ret2
      exact ⟨rfl, rfl⟩
  · clear h
    go_enter Try.func10, Try.ntmps10
    go_wp2
    go_ret2
    exact ⟨rfl, rfl⟩

set_option maxRecDepth 100000 in
set_option maxHeartbeats 3200000 in
theorem qAuto_yes (a : Option Addr) (n cap O : Nat) (zs : List Int) (w : World) (hz : Zs w a n zs) (hn : n ≤ 960) (h1 : 1 ≤ O) (hO : O ≤ 32) :
    Calls Try.prog 10 #[.slice a n cap, .int .i64 O] w fun e w' => ∃ a', e = .returned (.tuple #[.slice a' (O + 1) (O + 1), .int .i64 0]) ∧ NewRow 2 w.heap.size w' a' (autoL zs O) ∧ Below w.heap.size w w' := by
  obtain ⟨q, hq⟩ : ∃ q, O + 1 = q := ⟨_, rfl⟩
  rw [hq]
  have hqI : (O : Int) + 1 = (q : Int) := by omega
  have HQ : Hid (O + 1 = q ∧ 1 ≤ O ∧ O ≤ 32 ∧ n ≤ 960) := ⟨hq, h1, hO, hn⟩
  have HZ : Hid (Zs w a n zs ∧ zs.length = n) := ⟨hz, hz.len⟩
  have HSL : Hid ((s16L zs).length = n) := by show _ = _; rw [s16L_len]; exact hz.len
  have HAL : Hid ((autoL zs O).length = q ∧ (List.replicate q (0:Int)).length = q) := ⟨by rw [autoL_len]; exact hq, List.length_replicate⟩
  have HAT : Hid (∀ k, k < q → (autoL zs O)[k]?.getD 0 = corrI zs k k (n - k)) := fun k hk => by
    rw [autoL_at (by omega)]
    unfold autoI
    rw [hz.len]
  have HR0 : Hid (∀ k, k < q → (List.replicate q (0 : Int))[k]?.getD 0 = 0) := fun k hk => by rw [List.getElem?_replicate]; split <;> rfl
  have hmk := fun W : World => run_make_row' (P := Try.prog) 23 2 (.int .i64 0) 8 Try.underlying23 info_int64 rfl .i64 .i64 q (by omega) (by omega) W
  have hnI : (n : Int) ≤ 960 := by omega
  have hOI : (O : Int) ≤ 32 := by omega
  have h1I : (1 : Int) ≤ (O : Int) := by omega
  have hqI2 : (q : Int) ≤ 33 := by omega
  clear hz hq hn h1 hO
  generalize autoL zs O = F at *
  go_enter Try.func10, Try.ntmps10
  go_wp2_with (go_at_call 22; go_loud (refine (psat_any a n cap zs _ HZ.out.1 (by omega)).mono ?_; rintro e w1 ⟨a1, rfl, hr1, hb1⟩; have HS : Hid (∀ W, Below w1.heap.size w1 W → Zs W a1 n (s16L zs)) := (fun W hW => (Zs.of_new hr1 HSL.out).keep hW); have HB1 : Hid (Below w.heap.size w w1) := hb1; clear hr1 hb1))
  have HM0 : Hid (NewRow 2 w1.heap.size (w1.alloc (.cells (madeCells #[.int .i64 0] q) 2)) (some ⟨w1.heap.size, 0, none⟩) (List.replicate q 0) ∧ Below w1.heap.size w1 (w1.alloc (.cells (madeCells #[.int .i64 0] q) 2))) := ⟨NewRow.made w1 q, (Below.refl _ _).alloc (Nat.le_refl _) _⟩
  generalize List.replicate q (0 : Int) = R at *
  go_loopw [8, 28] (fun _ i W => ∃ k : Nat, k ≤ q ∧ i = .int .i64 k ∧ Hid (NewRow 2 w1.heap.size W (some ⟨w1.heap.size, 0, none⟩) (mixL F R k) ∧ Below w1.heap.size w1 W)) (fun _ i _ => q - (intOf i).toNat)
  case atStart => exact ⟨0, Nat.zero_le _, rfl, HM0.out⟩
  case round =>
    clear HM0
    obtain ⟨k, hk, rfl, HH⟩ := hrel
    by_cases hlt : k < q
    · obtain ⟨K, hK⟩ : ∃ K, n - k = K := ⟨_, rfl⟩
      have HK : Hid (n - k = K ∧ k < q) := ⟨hK, hlt⟩
      have hml := mixL_len HAL.out.1 HAL.out.2 (m := k) (by omega)
      have hme := mixL_at HAL.out.1 HAL.out.2 (m := k) hlt
      have hms := mixL_step HAL.out.1 HAL.out.2 (m := k) hlt
      rw [HR0.out k hlt] at hme
      rw [HAT.out k hlt, hK] at hms
      have hown := set_own (l := mixL F R k) (i := k) (by omega)
      rw [hme] at hown
      have HCI : Hid (∀ j, corrI zs k k (j + 1) = corrI zs k k j + s16 (zs[k + j]?.getD 0) * s16 (zs[k + j - k]?.getD 0)) := fun _ => rfl
      have HCB : Hid (∀ j : Nat, -((j : Int) * 1073741824) ≤ corrI zs k k j ∧ corrI zs k k j ≤ (j : Int) * 1073741824) := corrI_in zs k k
      have HC0 : Hid (corrI zs k k 0 = 0) := rfl
      generalize corrI zs k k = C at *
      generalize hM : mixL F R k = M at *
      have HEND : Hid (M.set k (C K) = mixL F R (k + 1)) := hms.symm
      have HST : Hid (M.set k (C 0) = M ∧ M.length = q) := ⟨by rw [HC0.out]; exact hown, hml⟩
      have HSS : Hid (∀ u v : Int, (M.set k u).set k v = M.set k v ∧ (M.set k u)[k]?.getD 0 = u ∧ (M.set k u).length = q) := fun u v => ⟨List.set_set .., by rw [List.getElem?_set_self (by omega)]; rfl, by rw [List.length_set]; exact hml⟩
      have HH2 : Hid (NewRow 2 w1.heap.size wr (some ⟨w1.heap.size, 0, none⟩) (M.set k (C 0)) ∧ Below w1.heap.size w1 wr) := by rw [HST.out.1]; exact HH.out
      have hkq : (k : Int) < (q : Int) := by omega
      clear hK hml hme hms hown hM HH
      go_wp2
      go_loopw [9] (fun i W => ∃ j : Nat, j ≤ K ∧ i = .int .i64 ((k + j : Nat) : Int) ∧ Hid (NewRow 2 w1.heap.size W (some ⟨w1.heap.size, 0, none⟩) (M.set k (C j)) ∧ Below w1.heap.size w1 W)) (fun i _ => n - (intOf i).toNat)
      case atStart => exact ⟨0, Nat.zero_le _, rfl, HH2.out⟩
      case round =>
        clear HH2
        obtain ⟨j, hj, rfl, HH⟩ := hrel
        obtain ⟨m, hm⟩ : ∃ m, k + j = m := ⟨_, rfl⟩
        rw [hm]
        have hKN := HK.out
        by_cases hmn : m < n
        · obtain ⟨b, off, rfl, hb0, hc⟩ := (HS.out wr HH.out.2).at_ (by omega)
          have hcm := hc m hmn
          have hcq := hc j (by omega)
          rw [s16L_at] at hcm hcq
          have hci := HCI.out j
          rw [hm, show m - k = j by omega] at hci
          have hcb := HCB.out j
          have hcb1 := HCB.out (j + 1)
          have hp1 := prod16 (s16_in (zs[m]?.getD 0)).1 (s16_in (zs[m]?.getD 0)).2 (s16_in (zs[j]?.getD 0)).1 (s16_in (zs[j]?.getD 0)).2
          have hcr := HH.out.1.cellAt (i := k) (by rw [(HSS.out (C j) 0).2.2]; exact hKN.2)
          have hfr := HH.out.1.frozenAt (by rw [(HSS.out (C j) 0).2.2]; omega) k
          rw [(HSS.out (C j) 0).2.1] at hcr
          have HX : Hid (∀ nq, Hid (NewRow 2 w1.heap.size ((wr.drewN nq).setCell ⟨w1.heap.size, k, none⟩ (.int .i64 (C (j + 1)))) (some ⟨w1.heap.size, 0, none⟩) (M.set k (C (j + 1))) ∧ Below w1.heap.size w1 ((wr.drewN nq).setCell ⟨w1.heap.size, k, none⟩ (.int .i64 (C (j + 1)))))) := fun nq =>
            ⟨by have h := (HH.out.1.drewN nq).set k (C (j + 1)); rw [(HSS.out _ _).1] at h; exact h, (below_drewN HH.out.2 nq).setCell (p := ⟨w1.heap.size, k, none⟩) (Nat.le_refl _) _⟩
          generalize s16 (zs[m]?.getD 0) = x at *
          generalize s16 (zs[j]?.getD 0) = y at *
          obtain ⟨xy, hxy⟩ : ∃ z, x * y = z := ⟨_, rfl⟩
          rw [hxy] at hp1 hci
          have hw2 : IntKind.i64.wrap ((m : Int) - (k : Int)) = (j : Int) := by
            rw [show (m : Int) - (k : Int) = (j : Int) by omega]
            exact i64k_wrap (by omega) (by omega)
          have HX1 : Hid (IntKind.i64.wrap (x * y) = xy) := by show _ = _; rw [hxy]; exact i64k_wrap (by omega) (by omega)
          have HA1 : Hid (IntKind.i64.wrap (C j + xy) = C (j + 1)) := by show _ = _; rw [hci]; exact i64k_wrap (by omega) (by omega)
          have hj0 : (0 : Int) ≤ (j : Int) := by omega
          have hjn : (j : Int) < (n : Int) := by omega
          have hk0 : (0 : Int) ≤ (k : Int) := by omega
          have hm0 : (0 : Int) ≤ (m : Int) := by omega
          have hmn2 : (m : Int) < (n : Int) := by omega
          have HM : Hid (k + j = m ∧ j < K ∧ m < n) := ⟨hm, by omega, hmn⟩
          clear hm hKN hci hcb hcb1 hp1 hxy hj hc HH
          go_wp2
          refine wp_region_last (by kernel_rfl) (by kernel_rfl) (by rfl) (by kernel_rfl) ?_
          dsimp only [List.dropLast]
          repeat (quiet_step (fail))
          refine wpQuiet_nil ?_
          rintro _ ⟨nq, rfl⟩
          go_simp
          rw [HX1.out, HA1.out]
          have HS2 := HX.out nq
          clear HX hcm hcq hcr hfr
          go_wp2
          go_roundw
          case rel => exact ⟨j + 1, by have := HM.out; omega, by rw [← Nat.add_assoc, HM.out.1]; go_num, HS2⟩
          case measure =>
            have := HM.out.2.2
            simp [intOf]
            omega
        · have hjK : j = K := by omega
          subst hjK
          have HE : Hid (NewRow 2 w1.heap.size wr (some ⟨w1.heap.size, 0, none⟩) (mixL F R (k + 1)) ∧ Below w1.heap.size w1 wr) := by rw [← HEND.out]; exact HH.out
          clear HH
          go_wp2
          go_roundw
          case rel => exact ⟨k + 1, by have := HK.out; omega, by go_num, HE⟩
          case measure => simp [intOf]; omega
    · obtain rfl : k = q := by omega
      have HE : Hid (NewRow 2 w.heap.size wr (some ⟨w1.heap.size, 0, none⟩) F ∧ Below w.heap.size w wr) := by
        have h := HH.out
        rw [mixL_all HAL.out.1 HAL.out.2] at h
        exact ⟨newRow_low h.1 HB1.out.size, HB1.out.trans (h.2.mono HB1.out.size)⟩
      clear HH
      go_wp2
      go_ret2
      exact ⟨_, rfl, HE.out⟩

set_option maxHeartbeats 1600000 in
theorem qPower (a : Option Addr) (n cap : Nat) (zs : List Int) (w : World) (hz : Zs w a n zs) (hn : n ≤ maxLen) (hcap : n ≤ cap) :
    Calls Try.prog 15 #[.slice a n cap] w fun e w' => e = .returned (.int .i64 (powI zs)) ∧ w' = w := by
  have HZ : Hid (0 < n → ∃ b off, a = some ⟨b, off, none⟩ ∧ b < w.heap.size ∧ ∀ i, i < n → w.cell? ⟨b, off + i, none⟩ = some (.int .i64 (zs[i]?.getD 0))) := hz.at_
  have hm2 : (n : Int) ≤ 9223372036854775807 := by simp only [maxLen] at hn; omega
  obtain ⟨K, hK⟩ : ∃ K, min n 960 = K := ⟨_, rfl⟩
  have hmin : ∀ (ts : Array TypeId) (t : TypeId) (W : World), (Builtin.min_ ts t #[.int .i64 (n : Int), .int .i64 (960 : Int)]).run Try.prog W = .ok (.int .i64 (K : Int)) W := fun ts t W => by
    rw [run_min_int2]
    have : (if (960 : Int) < (n : Int) then (960 : Int) else (n : Int)) = (K : Int) := by split <;> omega
    rw [this]
  obtain ⟨hs1, hs2⟩ := slice_to64 a n cap K (by omega)
  have HK : Hid (K ≤ n ∧ K ≤ 960) := by
    show _ ∧ _
    omega
  have HE : Hid (powI zs = powN zs K) := by
    show _ = _
    unfold powI
    rw [hz.len, hK]
  have HS : Hid (∀ k, powN zs (k + 1) = powN zs k + c20 (zs[k]?.getD 0) * c20 (zs[k]?.getD 0)) := fun _ => rfl
  have HB : Hid (∀ k : Nat, 0 ≤ powN zs k ∧ powN zs k ≤ (k : Int) * 1099511627776) := powN_in zs
  have H0 : Hid (powN zs 0 = 0) := rfl
  generalize powN zs = C at *
  clear hz hn hK
  go_enter Try.func15, Try.ntmps15
  go_wp2
  go_loop [3, 5, 12] (fun c _ i => ∃ k : Nat, k ≤ K ∧ c = .int .i64 (C k) ∧ i = .int .i64 (k : Int)) (fun _ _ i => K - (intOf i).toNat)
  case atStart => exact ⟨0, Nat.zero_le _, by rw [H0.out], rfl⟩
  case round =>
    obtain ⟨k, hk, rfl, rfl⟩ := hrel
    have hKK := HK.out
    by_cases hlt : k < K
    · obtain ⟨b, off, rfl, _, hc⟩ := HZ.out (by omega)
      have hck := hc k (by omega)
      have hs := HS.out k
      have hb := HB.out k
      have hb1 := HB.out (k + 1)
      have hcc := c20_in (zs[k]?.getD 0)
      have HCL : Hid (clampI (zs[k]?.getD 0) (-1048576) 1048576 = c20 (zs[k]?.getD 0)) := rfl
      generalize zs[k]?.getD 0 = z at *
      generalize c20 z = u at *
      have hp := prod_le hcc hcc
      obtain ⟨uu, huu⟩ : ∃ v, u * u = v := ⟨_, rfl⟩
      rw [huu] at hs hp
      have HX : Hid (wrap64 (u * u) = uu) := by show _ = _; rw [huu]; exact i64_wrap (by omega) (by omega)
      have HA : Hid (wrap64 (C k + uu) = C (k + 1)) := by show _ = _; rw [hs]; exact i64_wrap (by omega) (by omega)
      have hkn : (k : Int) < (K : Int) := by omega
      have hk9 : (k : Int) < 960 := by omega
      clear hs hb hb1 hcc hp huu hc hKK
      go_wp2_with (go_at_call 29; refine (clamp_any _ _ _ _).mono ?_; rw [HCL.out]; rintro e w ⟨rfl, rfl⟩)
      go_round
      case rel => exact ⟨k + 1, by omega, by rw [HX.out, HA.out], by go_num⟩
      case measure => simp [intOf]; omega
    · obtain rfl : k = K := by omega
      clear hKK
      go_wp2
      go_ret
      rw [HE.out]
      exact ⟨rfl, rfl⟩

end Lev
end Go.Proofs.Ytjaccokmficfdaa
