/- Package levin's own calls: what a filter foretells, what it leaves. -/
import Derived.Test.YtjaccokmficfdaaLevE
import Derived.Test.YtjaccokmficfdaaLevB
import Derived.BigQuiet
namespace Go.Proofs.Ytjaccokmficfdaa
namespace Lev
open Go.RowKit

/-- What the first j numbers of a filter make of the m samples ahead. -/
def foreN (x a : List Int) (m : Nat) : Nat → Int
  | 0 => 0
  | j + 1 => foreN x a m j + mulI (c17 (a[j]?.getD 0)) (s16 (x[m - 1 - j]?.getD 0)) 12
theorem foreN_in (x a : List Int) (m : Nat) : ∀ j : Nat, -((j : Int) * 1048576) ≤ foreN x a m j ∧ foreN x a m j ≤ (j : Int) * 1048576
  | 0 => by
    show -(((0 : Nat) : Int) * 1048576) ≤ 0 ∧ (0 : Int) ≤ ((0 : Nat) : Int) * 1048576
    omega
  | j + 1 => by
    have h1 := foreN_in x a m j
    have h2 := rest_mul (c17_in (a[j]?.getD 0)) (v := s16 (x[m - 1 - j]?.getD 0)) (by have := s16_in (x[m - 1 - j]?.getD 0); omega)
    show -(((j + 1 : Nat) : Int) * 1048576) ≤ foreN x a m j + mulI (c17 (a[j]?.getD 0)) (s16 (x[m - 1 - j]?.getD 0)) 12 ∧ foreN x a m j + mulI (c17 (a[j]?.getD 0)) (s16 (x[m - 1 - j]?.getD 0)) 12 ≤ ((j + 1 : Nat) : Int) * 1048576
    omega
theorem rest_fore (x a : List Int) (m : Nat) : ∀ j, restN x a m j = s16 (x[m]?.getD 0) - foreN x a m j
  | 0 => by
    show s16 (x[m]?.getD 0) = s16 (x[m]?.getD 0) - 0
    omega
  | j + 1 => by
    show restN x a m j - mulI (c17 (a[j]?.getD 0)) (s16 (x[m - 1 - j]?.getD 0)) 12 = s16 (x[m]?.getD 0) - (foreN x a m j + mulI (c17 (a[j]?.getD 0)) (s16 (x[m - 1 - j]?.getD 0)) 12)
    rw [rest_fore x a m j]
    omega

set_option maxRecDepth 100000 in
set_option maxHeartbeats 3200000 in
theorem foretold_any (b off m c1 : Nat) (a2 : Option Addr) (p c2 : Nat) (zs fs : List Int) (w : World) (hc1 : ∀ i, i < m → w.cell? ⟨b, off + i, none⟩ = some (.int .i64 (s16 (zs[i]?.getD 0)))) (hm : m ≤ 960) (hz2 : Zs w a2 p fs) (hp : p ≤ 32) (hcap : p ≤ c2) :
    Calls Try.prog 27 #[.slice (some ⟨b, off, none⟩) m c1, .slice a2 p c2] w fun e w' => e = .returned (.int .i64 (foreN zs fs m (min p m))) ∧ ∃ k, w' = w.drewN k := by
  obtain ⟨K, hK⟩ : ∃ K, min p m = K := ⟨_, rfl⟩
  rw [hK]
  have hmin : ∀ (ts : Array TypeId) (t : TypeId) (W : World), (Builtin.min_ ts t #[.int .i64 (p : Int), .int .i64 (m : Int)]).run Try.prog W = .ok (.int .i64 (K : Int)) W := fun ts t W => by
    rw [run_min_int2]
    have : (if (m : Int) < (p : Int) then (m : Int) else (p : Int)) = (K : Int) := by split <;> omega
    rw [this]
  obtain ⟨hs1, hs2⟩ := slice_to64 a2 p c2 K (by omega)
  have HK : Hid (K ≤ p ∧ K ≤ m ∧ p ≤ 32 ∧ m ≤ 960) := by
    show _ ∧ _
    omega
  have HC1 : Hid (∀ i, i < m → w.cell? ⟨b, off + i, none⟩ = some (.int .i64 (s16 (zs[i]?.getD 0)))) := hc1
  have HZ2 : Hid (Zs w a2 p fs) := hz2
  have HS : Hid (∀ j, foreN zs fs m (j + 1) = foreN zs fs m j + mulI (c17 (fs[j]?.getD 0)) (s16 (zs[m - 1 - j]?.getD 0)) 12) := fun _ => rfl
  have HB : Hid (∀ j : Nat, -((j : Int) * 1048576) ≤ foreN zs fs m j ∧ foreN zs fs m j ≤ (j : Int) * 1048576) := foreN_in zs fs m
  have H0 : Hid (foreN zs fs m 0 = 0) := rfl
  have hmI : (m : Int) ≤ 960 := by omega
  generalize foreN zs fs m = C at *
  clear hK hc1 hz2 hm hp hcap
  go_enter Try.func27, Try.ntmps27
  go_wp2
  go_loopw [5, 7, 8, 20] (fun s _ _ i W => (∃ d, W = w.drewN d) ∧ ∃ j : Nat, j ≤ K ∧ s = .int .i64 (C j) ∧ i = .int .i64 (j : Int)) (fun _ _ _ i _ => K - (intOf i).toNat)
  case atStart => exact ⟨⟨0, rfl⟩, 0, Nat.zero_le _, by rw [H0.out], rfl⟩
  case round =>
    obtain ⟨⟨d, rfl⟩, j, hj, rfl, rfl⟩ := hrel
    have hKN := HK.out
    by_cases hjK : j < K
    · obtain ⟨bb, offb, rfl, hbb0, hcb⟩ := HZ2.out.at_ (by omega)
      have hcj := hcb j (by omega)
      obtain ⟨q, hq⟩ : ∃ q, m - 1 - j = q := ⟨_, rfl⟩
      have hcq := HC1.out q (by omega)
      have hs := HS.out j
      rw [hq] at hs
      have hbj := HB.out j
      have hbj1 := HB.out (j + 1)
      have hmb := rest_mul (c17_in (fs[j]?.getD 0)) (v := s16 (zs[q]?.getD 0)) (by have := s16_in (zs[q]?.getD 0); omega)
      have HCL : Hid (∀ W, Calls Try.prog 29 #[.int .i64 (fs[j]?.getD 0), .int .i64 (-131072), .int .i64 131072] W fun e w' => e = .returned (.int .i64 (c17 (fs[j]?.getD 0))) ∧ w' = W) := fun W => clamp_any _ _ _ W
      generalize c17 (fs[j]?.getD 0) = u at *
      generalize fs[j]?.getD 0 = u0 at *
      generalize s16 (zs[q]?.getD 0) = v at *
      have HM : Hid (∀ W, Calls Try.prog 25 #[.int .i64 u, .int .i64 v, .int .i64 12] W fun e w' => e = .returned (.int .i64 (mulI u v 12)) ∧ w' = W) := fun W => mul_any u v 12 W
      generalize mulI u v 12 = z at *
      have HA : Hid (wrap64 (C j + z) = C (j + 1)) := by show _ = _; rw [hs]; exact i64_wrap (by omega) (by omega)
      have HAk : Hid (IntKind.i64.wrap (C j + z) = C (j + 1)) := by show _ = _; rw [hs]; exact i64k_wrap (by omega) (by omega)
      have hjKI : (j : Int) < (K : Int) := by omega
      have hw1 : wrap64 ((m : Int) - 1) = (m : Int) - 1 := i64_wrap (by omega) (by omega)
      have hw2 : wrap64 ((m : Int) - 1 - (j : Int)) = (q : Int) := by
        rw [show (m : Int) - 1 - (j : Int) = (q : Int) by omega]
        exact i64_wrap (by omega) (by omega)
      have hw3 : (m : Int) - 1 - (j : Int) = (q : Int) := by omega
      have hk1 : IntKind.i64.wrap ((m : Int) - 1) = (m : Int) - 1 := i64k_wrap (by omega) (by omega)
      have hk3 : IntKind.i64.wrap (q : Int) = (q : Int) := i64k_wrap (by omega) (by omega)
      have hk2 : IntKind.i64.wrap ((m : Int) - 1 - (j : Int)) = (q : Int) := by
        rw [hw3]
        exact i64k_wrap (by omega) (by omega)
      have hqm : (q : Int) < (m : Int) := by omega
      have hj9 : (j : Int) < 32 := by omega
      have HJ : Hid (j < K ∧ K ≤ p) := ⟨hjK, by omega⟩
      clear hq hs hbj hbj1 hmb hcb hKN hj
      go_wp2
      go_quiet (first
        | (go_at_call 29; first | exact Calls.quiet_of_same (HCL.out _) | exact (HCL.out _).mono (fun _ _ ⟨he, hw⟩ => ⟨he, _, hw⟩))
        | (go_at_call 25; first | exact Calls.quiet_of_same (HM.out _) | exact (HM.out _).mono (fun _ _ ⟨he, hw⟩ => ⟨he, _, hw⟩)))
      go_wp2
      go_roundw
      case rel => exact ⟨⟨_, rfl⟩, j + 1, by have := HJ.out; omega, by first | rw [HA.out] | rw [HAk.out], by go_num⟩
      case measure =>
        have := HJ.out
        simp [intOf]
        omega
    · obtain rfl : j = K := by omega
      clear hKN
      go_wp2
      go_ret
      exact ⟨rfl, _, rfl⟩

theorem qRest_no (a1 a2 : Option Addr) (n c1 p c2 : Nat) (w : World) (h : ¬ (n ≤ 960 ∧ p ≤ 32)) :
    Calls Try.prog 12 #[.slice a1 n c1, .slice a2 p c2] w fun e w' => e = .returned (.tuple #[.slice none 0 0, .int .i64 1]) ∧ w' = w := by
  by_cases h1 : n ≤ 960
  · have h2 : ¬ p ≤ 32 := fun h2 => h ⟨h1, h2⟩
    clear h
    go_enter Try.func12, Try.ntmps12
    go_wp2
    go_ret2
    exact ⟨rfl, rfl⟩
  · clear h
    go_enter Try.func12, Try.ntmps12
    go_wp2
    go_ret2
    exact ⟨rfl, rfl⟩

set_option maxRecDepth 100000 in
set_option maxHeartbeats 3200000 in
theorem qRest_yes (a1 a2 : Option Addr) (n c1 p c2 : Nat) (zs fs : List Int) (w : World) (hz1 : Zs w a1 n zs) (hz2 : Zs w a2 p fs) (hn : n ≤ 960) (hp : p ≤ 32) (hcap : p ≤ c2) :
    Calls Try.prog 12 #[.slice a1 n c1, .slice a2 p c2] w fun e w' => ∃ a', e = .returned (.tuple #[.slice a' n n, .int .i64 0]) ∧ NewRow 2 w.heap.size w' a' (restL zs fs) ∧ Below w.heap.size w w' := by
  have HZ1 : Hid (Zs w a1 n zs ∧ zs.length = n) := ⟨hz1, hz1.len⟩
  have HZ2 : Hid (∀ W, Below w.heap.size w W → Zs W a2 p fs) := fun W hW => hz2.keep hW
  have HSL : Hid ((s16L zs).length = n) := by show _ = _; rw [s16L_len]; exact hz1.len
  have HAL : Hid ((restL zs fs).length = n ∧ (List.replicate n (0:Int)).length = n) := ⟨by rw [restL_len]; exact hz1.len, List.length_replicate⟩
  have HAT : Hid (∀ k, k < n → (restL zs fs)[k]?.getD 0 = s16 (zs[k]?.getD 0) - foreN zs fs k (min p k)) := fun k hk => by
    rw [← rest_fore, ← hz2.len]
    unfold restL
    rw [List.getElem?_map, List.getElem?_range (by rw [hz1.len]; exact hk)]
    rfl
  have HFB : Hid (∀ k, -33554432 ≤ foreN zs fs k (min p k) ∧ foreN zs fs k (min p k) ≤ 33554432) := fun k => by
    have := foreN_in zs fs k (min p k)
    omega
  have HN : Hid (n ≤ 960 ∧ p ≤ 32 ∧ p ≤ c2) := ⟨hn, hp, hcap⟩
  have hmk := fun W : World => run_make_row' (P := Try.prog) 23 2 (.int .i64 0) 8 Try.underlying23 info_int64 rfl .i64 .i64 n (by omega) (by omega) W
  have hsl := fun (A : Option Addr) (m : Nat) (h : m ≤ n) => slice_to64 A n n m h
  have HSC : Hid (∀ (A : Option Addr) (m : Nat), m ≤ n → (∀ W, (Instr.slice 23 (.slice A n n) none (some (.int .i64 (m : Int))) none).run Try.prog W = .ok (.slice A m n) W) ∧ ∀ W, (Instr.sliceAt 23 (.slice A n n) none (some (.int .i64 (m : Int))) none).run Try.prog W = .ok (.slice A m n) W) := hsl
  have hnI : (n : Int) ≤ 960 := by omega
  have hpI : (p : Int) ≤ 32 := by omega
  clear hz1 hz2 hsl hn hp hcap
  generalize restL zs fs = F at *
  go_enter Try.func12, Try.ntmps12
  go_wp2_with (go_at_call 22; go_loud (refine (psat_any a1 n c1 zs _ HZ1.out.1 (by omega)).mono ?_; rintro e w1 ⟨b1, rfl, hr1, hb1⟩; have HS : Hid (∀ W, Below w1.heap.size w1 W → Zs W b1 n (s16L zs)) := (fun W hW => (Zs.of_new hr1 HSL.out).keep hW); have HB1 : Hid (Below w.heap.size w w1) := hb1; clear hr1 hb1))
  have HM0 : Hid (NewRow 2 w1.heap.size (w1.alloc (.cells (madeCells #[.int .i64 0] n) 2)) (some ⟨w1.heap.size, 0, none⟩) (List.replicate n 0) ∧ Below w1.heap.size w1 (w1.alloc (.cells (madeCells #[.int .i64 0] n) 2))) := ⟨NewRow.made w1 n, (Below.refl _ _).alloc (Nat.le_refl _) _⟩
  generalize List.replicate n (0 : Int) = R at *
  go_loopw [8, 9, 25] (fun _ _ i W => ∃ m : Nat, m ≤ n ∧ i = .int .i64 m ∧ Hid (NewRow 2 w1.heap.size W (some ⟨w1.heap.size, 0, none⟩) (mixL F R m) ∧ Below w1.heap.size w1 W)) (fun _ _ i _ => n - (intOf i).toNat)
  case atStart => exact ⟨0, Nat.zero_le _, rfl, HM0.out⟩
  case round =>
    clear HM0
    obtain ⟨m, hm, rfl, HH⟩ := hrel
    by_cases hlt : m < n
    · obtain ⟨b, off, rfl, hb0, hc⟩ := (HS.out wr HH.out.2).at_ (by omega)
      have HC1 : Hid (∀ i, i < m → wr.cell? ⟨b, off + i, none⟩ = some (.int .i64 (s16 (zs[i]?.getD 0)))) := fun i hi => by rw [hc i (by omega), s16L_at]
      have hcm := hc m hlt
      rw [s16L_at] at hcm
      have HZ2r : Hid (Zs wr a2 p fs) := HZ2.out wr (HB1.out.trans (HH.out.2.mono HB1.out.size))
      have hml := mixL_len HAL.out.1 HAL.out.2 (m := m) (by omega)
      have hms := mixL_step HAL.out.1 HAL.out.2 (m := m) hlt
      rw [HAT.out m hlt] at hms
      have hfz := HH.out.1.frozenAt (by omega) m
      obtain ⟨x, hx⟩ : ∃ x, wr.cell? ⟨w1.heap.size, m, none⟩ = some x := ⟨_, HH.out.1.cellAt (by omega)⟩
      have hfb := HFB.out m
      have hsb := s16_in (zs[m]?.getD 0)
      have HFT : Hid (Calls Try.prog 27 #[.slice (some ⟨b, off, none⟩) m n, .slice a2 p c2] wr fun e w' => e = .returned (.int .i64 (foreN zs fs m (min p m))) ∧ ∃ k, w' = wr.drewN k) := foretold_any b off m n a2 p c2 zs fs wr HC1.out (by have := HN.out; omega) HZ2r.out HN.out.2.1 HN.out.2.2
      generalize foreN zs fs m (min p m) = f at *
      generalize s16 (zs[m]?.getD 0) = s at *
      have HWA : Hid (wrap64 (s - f) = s - f) := i64_wrap (by omega) (by omega)
      have HX : Hid (∀ nq, Hid (NewRow 2 w1.heap.size ((wr.drewN nq).setCell ⟨w1.heap.size, m, none⟩ (.int .i64 (s - f))) (some ⟨w1.heap.size, 0, none⟩) (mixL F R (m + 1)) ∧ Below w1.heap.size w1 ((wr.drewN nq).setCell ⟨w1.heap.size, m, none⟩ (.int .i64 (s - f))))) := fun nq =>
        ⟨by rw [hms]; exact (HH.out.1.drewN nq).set m _, (below_drewN HH.out.2 nq).setCell (p := ⟨w1.heap.size, m, none⟩) (Nat.le_refl _) _⟩
      obtain ⟨hs1, hs2⟩ := HSC.out (some ⟨b, off, none⟩) m hm
      have hmnI : (m : Int) < (n : Int) := by omega
      clear hc hml hms hfb hsb HH hm
      go_wp2_with (go_at_call 27; go_loud (refine HFT.out.mono ?_; rintro e w' ⟨rfl, kd, rfl⟩))
      go_roundw
      case rel => exact ⟨m + 1, by omega, by go_num, by first | exact HX.out _ | (rw [HWA.out]; exact HX.out _)⟩
      case measure => simp [intOf]; omega
    · obtain rfl : m = n := by omega
      have HE : Hid (NewRow 2 w.heap.size wr (some ⟨w1.heap.size, 0, none⟩) F ∧ Below w.heap.size w wr) := by
        have h := HH.out
        rw [mixL_all HAL.out.1 HAL.out.2] at h
        exact ⟨newRow_low h.1 HB1.out.size, HB1.out.trans (h.2.mono HB1.out.size)⟩
      clear HH
      go_wp2
      go_ret2
      exact ⟨_, rfl, HE.out⟩

end Lev
end Go.Proofs.Ytjaccokmficfdaa
