/- Package levin's own calls: the filter that foretells a sound, number by number. -/
import Derived.Test.YtjaccokmficfdaaLevG
import Derived.Test.YtjaccokmficfdaaMB
namespace Go.Proofs.Ytjaccokmficfdaa
namespace Lev
open Go.RowKit

set_option maxRecDepth 100000 in
set_option maxHeartbeats 3200000 in
theorem missed_any (a1 a2 : Option Addr) (n c1 m c2 : Nat) (rm A : List Int) (w : World) (hz1 : Zs w a1 n rm) (hz2 : Zs w a2 m A) (hmn : m + 1 < n) (hn : n ≤ 33) (hwd : Wide rm) :
    Calls Try.prog 42 #[.slice a1 n c1, .slice a2 m c2] w fun e w' => e = .returned (.int .i64 (sumT A rm m m)) ∧ w' = w := by
  obtain ⟨b, off, rfl, _, hc⟩ := hz1.at_ (by omega)
  have HC : Hid (∀ i, i < n → w.cell? ⟨b, off + i, none⟩ = some (.int .i64 (rm[i]?.getD 0))) := hc
  have HZ2 : Hid (Zs w a2 m A) := hz2
  have hcm1 := hc (m + 1) hmn
  have HS0 : Hid (sumT A rm m 0 = rm[m + 1]?.getD 0) := rfl
  have HSS : Hid (∀ i, sumT A rm m (i + 1) = sumT A rm m i - mulI (A[i]?.getD 0) (rm[m - i]?.getD 0) 24) := fun _ => rfl
  have HSB : Hid (∀ i : Nat, -(1125899906842624 + (i : Int) * 274877906945) ≤ sumT A rm m i ∧ sumT A rm m i ≤ 1125899906842624 + (i : Int) * 274877906945) := sumT_in hwd m
  rw [← HS0.out] at hcm1
  obtain ⟨q1, hq1⟩ : ∃ q1, m + 1 = q1 := ⟨_, rfl⟩
  rw [hq1] at hcm1
  have hq1I : (m : Int) + 1 = (q1 : Int) := by omega
  have hq1n : (q1 : Int) < (n : Int) := by omega
  have hmI : (m : Int) ≤ 32 := by omega
  have hnI : (n : Int) ≤ 33 := by omega
  have HN : Hid (m + 1 < n ∧ n ≤ 33) := ⟨hmn, hn⟩
  generalize sumT A rm m = T at *
  clear hc hz1 hz2 hwd hq1 hmn hn
  go_enter Try.func42, Try.ntmps42
  go_wp2
  go_loop [6, 7, 8, 18] (fun t _ _ i => ∃ j : Nat, j ≤ m ∧ i = .int .i64 j ∧ t = .int .i64 (T j)) (fun _ _ _ i => m - (intOf i).toNat)
  case atStart => exact ⟨0, Nat.zero_le _, rfl, rfl⟩
  case round =>
    clear hcm1
    obtain ⟨j, hj, rfl, rfl⟩ := hrel
    have hN := HN.out
    by_cases hjm : j < m
    · obtain ⟨ba, offa, rfl, _, hca⟩ := HZ2.out.at_ (by omega)
      have hcj := hca j hjm
      obtain ⟨q, hq⟩ : ∃ q, m - j = q := ⟨_, rfl⟩
      have hcq := HC.out q (by omega)
      have hs := HSS.out j
      rw [hq] at hs
      have hbj := HSB.out j
      have hbj1 := HSB.out (j + 1)
      have hmb := mul24_in (A[j]?.getD 0) (rm[q]?.getD 0)
      generalize A[j]?.getD 0 = u at *
      generalize rm[q]?.getD 0 = v at *
      have HMU : Hid (∀ W, Calls Try.prog 25 #[.int .i64 u, .int .i64 v, .int .i64 24] W fun e w' => e = .returned (.int .i64 (mulI u v 24)) ∧ w' = W) := fun W => mul_any u v 24 W
      generalize mulI u v 24 = z at *
      have HW : Hid (wrap64 (T j - z) = T (j + 1)) := by
        show _ = _
        rw [hs]
        exact i64_wrap (by omega) (by omega)
      have hjI : (j : Int) < (m : Int) := by omega
      have hw3 : (m : Int) - (j : Int) = (q : Int) := by omega
      have hqn : (q : Int) < (n : Int) := by omega
      have HJ : Hid (j < m) := hjm
      clear hq hs hbj hbj1 hmb hca hj hjm hN
      go_wp2_with (go_at_call 25; refine (HMU.out _).mono ?_; rintro e w' ⟨rfl, rfl⟩)
      go_round
      case rel => exact ⟨j + 1, by have := HJ.out; omega, by go_num, by rw [HW.out]⟩
      case measure =>
        have := HJ.out
        simp [intOf]
        omega
    · obtain rfl : m = j := by omega
      clear hN
      go_wp2
      go_ret
      exact ⟨rfl, rfl⟩

theorem make_more64 (m c : Nat) (hm : m ≤ c) (hc : c ≤ 1000) (w : World) :
    (Instr.makeSlice 23 (.int .i64 (m : Int)) (.int .i64 (c : Int))).run Try.prog w = .ok (.slice (some ⟨w.heap.size, 0, none⟩) m c) (w.alloc (.cells (madeCells #[.int .i64 0] c) 2)) := by
  obtain ⟨i, hi, hzz⟩ := Option.map_eq_some_iff.1 info_int64
  simp only [Prod.mk.injEq] at hzz
  obtain ⟨hz, hs, hb⟩ := hzz
  have hr := run_make (P := Try.prog) w 23 2 i (.int .i64 0) Try.underlying23 hi hz .i64 .i64 m c (by omega) (by omega) (by rw [hb]; omega) (by omega)
  simp only [Int.toNat_natCast, hs, Nat.mul_one] at hr
  exact hr

theorem owns_of_rowIs {B g m : Nat} {w : World} {f : Nat → Value} {F : List Int} (h : w.rowIs g 2 (m + 1) f) (hB : B ≤ g) (hm : m + 1 ≤ maxLen) (hl : F.length = m) (hf : ∀ j, j < m → f j = .int .i64 (F[j]?.getD 0)) :
    w.ownsRow B 2 1 (.slice (some ⟨g, 0, none⟩) m (m + 1)) m (F.map (Value.int .i64)) := by
  obtain ⟨c, hb, hs, hc⟩ := h
  refine ⟨by rw [List.length_map, hl, Nat.mul_one], .inr ⟨g, m + 1, c, rfl, hB, hb, Nat.le_succ _, hm, by rw [hs, Nat.mul_one], ?_⟩⟩
  rw [Nat.mul_one]
  refine List.ext_getElem? fun i => ?_
  by_cases hi : i < m
  · rw [List.getElem?_take_of_lt hi, List.getElem?_map]
    have h1 := hc i (by omega)
    rw [hf i hi] at h1
    rw [Array.getElem?_toList, h1, List.getElem?_eq_getElem (by omega)]
    rfl
  · rw [List.getElem?_eq_none (by rw [List.length_take]; omega), List.getElem?_eq_none (by rw [List.length_map]; omega)]

theorem nextTo_len (A : List Int) (K : Int) (m i : Nat) : (nextTo A K m i).length = i := by unfold nextTo; rw [List.length_map, List.length_range]
theorem nextTo_at {A : List Int} {K : Int} {m i j : Nat} (h : j < i) : (nextTo A K m i)[j]?.getD 0 = nextAt A K m j := by
  unfold nextTo
  rw [List.getElem?_map, List.getElem?_range h]
  rfl

set_option maxRecDepth 100000 in
set_option maxHeartbeats 3200000 in
theorem turned_any (a : Option Addr) (m cap : Nat) (A : List Int) (K : Int) (w : World) (hz : Zs w a m A) (hm : m ≤ 32) (hA : ∀ i : Nat, -2147483648 ≤ A[i]?.getD 0 ∧ A[i]?.getD 0 ≤ 2147483648) :
    Calls Try.prog 43 #[.slice a m cap, .int .i64 K] w fun e w' => ∃ v, e = .returned v ∧ w'.ownsRow w.heap.size 2 1 v m ((nextTo A K m m).map (Value.int .i64)) ∧ Below w.heap.size w w' := by
  have HZ : Hid (∀ W, Below w.heap.size w W → Zs W a m A) := fun W hW => hz.keep hW
  have HA : Hid (∀ i : Nat, -2147483648 ≤ A[i]?.getD 0 ∧ A[i]?.getD 0 ≤ 2147483648) := hA
  obtain ⟨c, hc⟩ : ∃ c, m + 1 = c := ⟨_, rfl⟩
  have hcI : (m : Int) + 1 = (c : Int) := by omega
  have hmk := make_more64 m c (by omega) (by omega)
  have HM : Hid (m ≤ 32 ∧ m + 1 = c) := ⟨hm, hc⟩
  have HNA : Hid (∀ j, nextAt A K m j = clampI (A[j]?.getD 0 - mulI K (A[m - 1 - j]?.getD 0) 24) (-2147483648) 2147483648) := fun _ => rfl
  have HR0 : Hid ((w.alloc (.cells (madeCells #[.int .i64 0] c) 2)).rowIs w.heap.size 2 c (fun j => .int .i64 (if j < 0 then nextAt A K m j else 0)) ∧ Below w.heap.size w (w.alloc (.cells (madeCells #[.int .i64 0] c) 2))) := ⟨World.rowIs_made w _ _ _, (Below.refl _ _).alloc (Nat.le_refl _) _⟩
  have HOW : Hid (∀ W : World, W.rowIs w.heap.size 2 c (fun j => .int .i64 (if j < m then nextAt A K m j else 0)) → W.ownsRow w.heap.size 2 1 (.slice (some ⟨w.heap.size, 0, none⟩) m c) m ((nextTo A K m m).map (Value.int .i64))) := fun W h => by
    subst hc
    exact owns_of_rowIs h (Nat.le_refl _) (by unfold maxLen; omega) (nextTo_len _ _ _ _) (fun j hj => by rw [if_pos hj, nextTo_at hj])
  have hmI : (m : Int) ≤ 32 := by omega
  have hm0 : m ≤ c := by omega
  clear hz hA hm hc
  generalize nextAt A K m = NX at *
  go_enter Try.func43, Try.ntmps43
  go_wp2
  clear hmk
  go_loopw [7, 8, 17] (fun _ _ i W => ∃ j : Nat, j ≤ m ∧ i = .int .i64 j ∧ Hid (W.rowIs w.heap.size 2 c (fun j' => .int .i64 (if j' < j then NX j' else 0)) ∧ Below w.heap.size w W)) (fun _ _ i _ => m - (intOf i).toNat)
  case atStart => exact ⟨0, Nat.zero_le _, rfl, HR0.out⟩
  case round =>
    clear HR0
    obtain ⟨j, hj, rfl, HH⟩ := hrel
    have hMM := HM.out
    by_cases hjm : j < m
    · have hfz := HH.out.1.frozen j
      obtain ⟨x, hx⟩ : ∃ x, wr.cell? ⟨w.heap.size, j, none⟩ = some x := ⟨_, HH.out.1.cell (by omega)⟩
      obtain ⟨b, off, rfl, _, hc⟩ := (HZ.out wr HH.out.2).at_ (by omega)
      have hcj := hc j hjm
      obtain ⟨q, hq⟩ : ∃ q, m - 1 - j = q := ⟨_, rfl⟩
      have hcq := hc q (by omega)
      have hn := HNA.out j
      rw [hq] at hn
      have hub := HA.out j
      have hmb := mul24_in K (A[q]?.getD 0)
      have HR : Hid ((wr.setCell ⟨w.heap.size, j, none⟩ (.int .i64 (NX j))).rowIs w.heap.size 2 c (fun j' => .int .i64 (if j' < j + 1 then NX j' else 0)) ∧ Below w.heap.size w (wr.setCell ⟨w.heap.size, j, none⟩ (.int .i64 (NX j)))) := ⟨rowIs_step (f := NX) HH.out.1 (by omega), HH.out.2.setCell (p := ⟨w.heap.size, j, none⟩) (Nat.le_refl _) _⟩
      generalize NX j = y at HR hn
      generalize A[j]?.getD 0 = u at *
      generalize A[q]?.getD 0 = v at *
      have HMU : Hid (∀ W, Calls Try.prog 25 #[.int .i64 K, .int .i64 v, .int .i64 24] W fun e w' => e = .returned (.int .i64 (mulI K v 24)) ∧ w' = W) := fun W => mul_any K v 24 W
      generalize mulI K v 24 = z at *
      have HCL : Hid (∀ W, Calls Try.prog 29 #[.int .i64 (u - z), .int .i64 (-2147483648), .int .i64 2147483648] W fun e w' => e = .returned (.int .i64 y) ∧ w' = W) := fun W => by
        have h := clamp_any (u - z) (-2147483648) 2147483648 W
        rw [← hn] at h
        exact h
      have hwz1 : wrap64 (u - z) = u - z := i64_wrap (by omega) (by omega)
      have hw3 : (m : Int) - 1 - (j : Int) = (q : Int) := by omega
      have hqm : (q : Int) < (m : Int) := by omega
      have hjI : (j : Int) < (m : Int) := by omega
      have hqmN : q < m := by omega
      have hjc : j < c := by omega
      clear hq hn hub hmb hc HH hMM
      go_wp2_with (first
        | (go_at_call 25; refine (HMU.out _).mono ?_; rintro e w' ⟨rfl, rfl⟩)
        | (go_at_call 29; refine (HCL.out _).mono ?_; rintro e w' ⟨rfl, rfl⟩))
      go_roundw
      case rel => exact ⟨j + 1, by omega, by go_num, HR⟩
      case measure => simp [intOf]; omega
    · obtain rfl : j = m := by omega
      have HE : Hid (wr.ownsRow w.heap.size 2 1 (.slice (some ⟨w.heap.size, 0, none⟩) j c) j ((nextTo A K j j).map (Value.int .i64)) ∧ Below w.heap.size w wr) := ⟨HOW.out wr HH.out.1, HH.out.2⟩
      clear HH HOW hMM
      go_wp2
      go_ret
      exact ⟨_, rfl, HE.out⟩

end Lev
end Go.Proofs.Ytjaccokmficfdaa
