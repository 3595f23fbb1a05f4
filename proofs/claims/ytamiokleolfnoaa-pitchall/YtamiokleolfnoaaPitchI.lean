/- Package pitch's bestFirst: the heap is emptied into a list, the worst last. -/
import Derived.Test.YtamiokleolfnoaaPitchH
namespace Go.Proofs.Ytamiokleolfnoaa
namespace Pit
open Go.RowKit

theorem rest_all {l : List LagS} {n j : Nat} (hl : l.length = n) : restF l n j = (0, 0) := by
  unfold restF
  split
  · rw [List.getElem?_eq_none (by omega)]
    rfl
  · rfl

set_option maxRecDepth 100000 in
set_option maxHeartbeats 1600000 in
theorem bestFirst_any {B p n g cap : Nat} {e : Nat → LagS} {l : List LagS} {w : World} (h : HpV B p n (.slice (some ⟨g, 0, none⟩) n cap) e w) (ho : Hold keyL e l) (hl : l.length = n) (hn : n ≤ 100) (hx : ∀ x ∈ l, 0 ≤ x.1 ∧ x.1 < 1000) (hB : B ≤ w.heap.size) :
    Calls Try.prog 20 #[.pointer (some ⟨p, 0, none⟩)] w fun e' w' => ∃ r, e' = .returned (.slice (some ⟨r, 0, none⟩) n n) ∧ SRow w.heap.size w' r n n (fun j => l[j]?.getD (0, 0)) ∧ Below B w w' := by
  have h0 := h.at
  have hmk := run_make_lags n (by omega)
  have HP : Hid (p < w.heap.size ∧ g < w.heap.size ∧ p ≠ w.heap.size ∧ g ≠ w.heap.size) := by
    have h1 := h.lt
    have h2 := SRow.lt (show SRow B w g n cap e from h.row)
    exact ⟨h1, h2, by omega, by omega⟩
  obtain ⟨C, hC⟩ : ∃ C, madeCells #[.int .i64 0, .int .i64 0] (n * 2) = C := ⟨_, rfl⟩
  have HSTART : Hid (HpV B p n (.slice (some ⟨g, 0, none⟩) n cap) e (w.alloc (.cells C 33)) ∧ Hold keyL e (l.take n) ∧ SRow w.heap.size (w.alloc (.cells C 33)) w.heap.size n n (restF l n) ∧ Below B w (w.alloc (.cells C 33))) := by
    refine ⟨h.keep ((Below.refl _ _).alloc (Nat.le_refl _) _), by rw [List.take_of_length_le (by omega)]; exact ho, ?_, (Below.refl B w).alloc hB _⟩
    rw [← hC]
    exact (SRow.made w n (by omega)).congr fun i _ => (rest_all hl).symm
  have HX : Hid (∀ x ∈ l, 0 ≤ x.1 ∧ x.1 < 1000) := hx
  have HL : Hid (l.length = n ∧ n ≤ 100) := ⟨hl, hn⟩
  rw [hC] at hmk
  have hwn : wrap64 ((n : Int) - 1) = (n : Int) - 1 := i64_wrap (by omega) (by omega)
  clear h ho hl hn hx hB hC
  go_enter Try.func20, Try.ntmps20
  go_wp2_with (go_at_call 18; refine (len_any _ n cap _).mono ?_; rintro e' w ⟨rfl, rfl⟩)
  go_loopw [4] (fun x W => ∃ (k : Nat) (e1 : Nat → LagS), k ≤ n ∧ x = .int .i64 ((k : Int) - 1) ∧ Hid (HpV B p k (.slice (some ⟨g, 0, none⟩) k cap) e1 W ∧ Hold keyL e1 (l.take k) ∧ SRow w.heap.size W w.heap.size n n (restF l k) ∧ Below B w W)) (fun x _ => (intOf x + 1).toNat)
  case atStart => exact ⟨n, e, Nat.le_refl _, by first | rfl | rw [hwn], HSTART⟩
  case round =>
    clear HSTART hmk h0 hwn
    obtain ⟨k, e1, hk, rfl, HH⟩ := hrel
    rcases Nat.eq_zero_or_pos k with rfl | hk0
    · have hz : (((0 : Nat) : Int) - 1) = -1 := rfl
      rw [hz]
      have HR : Hid (SRow w.heap.size wr w.heap.size n n (fun j => l[j]?.getD (0, 0)) ∧ Below B w wr) := ⟨HH.out.2.2.1.congr fun i _ => if_pos (Nat.zero_le i), HH.out.2.2.2⟩
      clear HH
      go_wp2
      go_ret
      exact ⟨_, rfl, HR.out⟩
    · obtain ⟨m, rfl⟩ : ∃ m, k = m + 1 := ⟨k - 1, by omega⟩
      have hz : (((m + 1 : Nat) : Int) - 1) = (m : Int) := by omega
      rw [hz]
      have hL := HL.out
      have htl : (l.take (m + 1)).length = m + 1 := by rw [List.length_take]; omega
      obtain ⟨x, hxm⟩ : ∃ x, l[m]? = some x := ⟨l[m], List.getElem?_eq_getElem (by omega)⟩
      obtain ⟨x1, x2⟩ := x
      have htop := HH.out.2.1.top htl
      rw [List.getElem?_take_of_lt (Nat.lt_succ_self m), hxm, Option.some.injEq] at htop
      obtain ⟨hpop, hpe⟩ := HH.out.2.1.pop htl
      have HTOP : Hid ((downF keyL m (swapF e1 0 m) 0 m).1 m = (x1, x2)) := hpe.trans htop.symm
      have HPL : Hid (Pl (m + 1) e1) := by
        have := Hold.pl HH.out.2.1 (fun y hy => HX.out y (List.mem_of_mem_take hy))
        rw [htl] at this
        exact this
      have hdl : (l.take (m + 1)).dropLast = l.take m := by
        rw [List.dropLast_eq_take, htl, List.take_take, Nat.min_eq_left (by omega)]
        rfl
      rw [hdl] at hpop
      have HPOP : Hid (Hold keyL (downF keyL m (swapF e1 0 m) 0 m).1 (l.take m)) := hpop
      have HM : Hid (m < n ∧ n ≤ 100 ∧ l[m]? = some (x1, x2)) := ⟨by omega, by omega, hxm⟩
      have HT := assert_lag x1 x2
      have hmn : (m : Int) < (n : Int) := by omega
      have hwm : Hid (wrap64 ((m : Int) - 1) = (m : Int) - 1) := by show _ = _; exact i64_wrap (by omega) (by omega)
      clear hz hL htl hxm htop hpop hpe hdl hk0 hk
      go_wp2_with (go_at_call 19; go_loud (refine (heapPop_g HH.out.1 HPL.out (by have := HM.out; omega)).mono ?_; rw [HTOP.out]; rintro e' w1 ⟨rfl, hv1, ho1, hb1⟩; have HV1 : Hid (HpV B p m (.slice (some ⟨g, 0, none⟩) m cap) (downF keyL m (swapF e1 0 m) 0 m).1 w1) := hv1; have HR1 : Hid (SRow w.heap.size w1 w.heap.size n n (restF l (m + 1))) := HH.out.2.2.1.keep (ho1.2 _ HH.out.2.2.1.lt (Ne.symm HP.out.2.2.1) (Ne.symm HP.out.2.2.2)); have HB1 : Hid (Below B w w1) := HH.out.2.2.2.trans hb1; obtain ⟨hc1, hc2⟩ := HR1.out.cells HM.out.1; have hfz := HR1.out.frozen; clear hv1 ho1 hb1))
      go_roundw
      case rel =>
        have hs := (HR1.out.set0 HM.out.1 x1).set1 HM.out.1 x2
        have hhp : ∀ i, i ≠ w.heap.size → ((w1.setCell ⟨w.heap.size, m * 2, none⟩ (.int .i64 x1)).setCell ⟨w.heap.size, m * 2 + 1, none⟩ (.int .i64 x2)).heap[i]? = w1.heap[i]? := fun i hi => by
          rw [Below.heap_setCell _ _ _ _ hi, Below.heap_setCell _ _ _ _ hi]
        refine ⟨m, _, by have := HM.out; omega, by first | rfl | rw [hwm.out], HV1.out.apart (Ne.symm HP.out.2.2.1) (fun e => HP.out.2.2.2 (by cases e; rfl)) hhp, HPOP.out, hs.congr fun i hi => ?_, (HB1.out.setCell (Nat.le_of_lt (Nat.lt_of_le_of_lt HV1.out.low HP.out.1)) _).setCell (Nat.le_of_lt (Nat.lt_of_le_of_lt HV1.out.low HP.out.1)) _⟩
        unfold putF restF
        by_cases him : i = m
        · subst him
          simp [HM.out.2.2]
        · simp only [him, if_false]
          by_cases h2 : m ≤ i
          · rw [if_pos h2, if_pos (by omega)]
          · rw [if_neg h2, if_neg (by omega)]
      case measure => simp [intOf, hwm.out]

end Pit
end Go.Proofs.Ytamiokleolfnoaa
