/- The filter that foretells a sound: the document's own Solve. -/
import Derived.Test.YtjaccokmficfdaaLevB
import Derived.Test.YtjaccokmficfdaaLevinN
import Derived.Test.YtjaccokmficfdaaLpcQ
import Derived.Test.YtjaccokmficfdaaLastOp
import Derived.Deep.AppendLies
import Derived.Deep.RegionHeld3
namespace Go.Proofs.Ytjaccokmficfdaa
namespace Lev
open Go.RowKit

theorem limL_41 (zs : List Int) : limL (-2199023255552) 2199023255552 zs = c41L zs := rfl
theorem mixL_cell {L l0 : List Int} {n m : Nat} (h : L.length = n) (h0 : l0.length = n) (hm : m < n) : (mixL L l0 m).length = n ∧ (mixL L l0 m)[m]?.getD 0 = l0[m]?.getD 0 := ⟨mixL_len h h0 (by omega), mixL_at h h0 hm⟩

theorem rSolve_nought (a : Option Addr) (n cap o : Nat) (zs : List Int) (w : World) (hz : Zs w a n zs) (hno : n = o + 1) (ho : o ≤ 32) (h0 : r0Z zs < 1) :
    Calls Try.prog 17 #[.slice a n cap] w fun e w' => ∃ a' c', e = .returned (.slice a' o c') ∧ NewRow 2 w.heap.size w' a' (solveZ zs) ∧ Below w.heap.size w w' := by
  have HE : Hid (solveZ zs = List.replicate o 0) := by
    show _ = _
    unfold solveZ
    rw [if_pos h0, hz.len, hno]
    rfl
  obtain ⟨b, off, rfl, _, hc⟩ := hz.at_ (by omega)
  have hc0 : w.cell? ⟨b, off, none⟩ = some (.int .i64 (r0Z zs)) := hc 0 (by omega)
  have hmk := fun W : World => run_make_row' (P := Try.prog) 23 2 (.int .i64 0) 8 Try.underlying23 info_int64 rfl .i64 .i64 o (by omega) (by omega) W
  have hw1 : (n : Int) - 1 = (o : Int) := by omega
  have hnI : (n : Int) ≤ 33 := by omega
  have hn0 : (0 : Int) < (n : Int) := by omega
  clear hc hz
  generalize r0Z zs = z at *
  go_enter Try.func17, Try.ntmps17
  go_wp2
  go_ret
  rw [HE.out]
  exact ⟨_, _, rfl, NewRow.made w o, (Below.refl _ _).alloc (Nat.le_refl _) _⟩

theorem own_low {e : TypeId} {B B' n : Nat} {w : World} {v : Value} {xs : List Value} (h : w.ownsRow B e 1 v n xs) (hB : B' ≤ B) : w.ownsRow B' e 1 v n xs := by
  obtain ⟨h0, h1 | ⟨g', cap', cur, hv, h1, h2⟩⟩ := h
  · exact ⟨h0, .inl h1⟩
  · exact ⟨h0, .inr ⟨g', cap', cur, hv, Nat.le_trans hB h1, h2⟩⟩

/-- 'append(.., y)' of a number as one step of a region that draws: y has been laid into a block of its own, H. -/
theorem step_push_64 {ops : Array Oper} {o : Oper} {a : Act} {W : World} {K : Act → World → Prop} {Q : Exit → Act → World → Prop} {E : Prop} (B : Nat) (v : Value) (n : Nat) (zs : List Int) (y : Int) (H : Nat)
    (hown : W.ownsRow B 2 1 v n (zs.map (Value.int .i64))) (hm : n ≤ 100000) (hB : B ≤ W.heap.size) (hnew : W.heap[H]? = some (.cells #[.int .i64 y] 2))
    (hgd : o.guard = none) (s x : Operand) (ho : o.op = .call { callee := .builtin .append, args := #[s, x], argTypes := #[23, 23] }) (hs : a.eval s = v) (hx : a.eval x = .slice (some ⟨H, 0, none⟩) 1 1)
    (hk : ∀ g cap w', w'.ownsRow B 2 1 (.slice (some ⟨g, 0, none⟩) (n + 1) cap) (n + 1) ((zs ++ [y]).map (Value.int .i64)) → Below B W w' → K (a.put o.dst (.slice (some ⟨g, 0, none⟩) (n + 1) cap)) w') :
    if Region.wanted o (yielded ops a.tmps) = true then Oper.wp Try.prog o a W K Q else E := by
  obtain ⟨i, hi, hzz⟩ := Option.map_eq_some_iff.1 info_int64
  simp only [Prod.mk.injEq] at hzz
  obtain ⟨hz, hsz, hby⟩ := hzz
  refine step_append_lies _ hgd s x 23 ho B 2 i (.int .i64 0) 1 8 Try.underlying23 hi hz hsz hby rfl (by decide) v n (zs.map (Value.int .i64)) hs hown ⟨H, 0, none⟩ 1 1 [.int .i64 y] hx rfl
    (World.news_of_block hnew) (by intro u hu; simp at hu; subst hu; rfl) (by decide) (by unfold maxLen; omega) (by omega) hB _ rfl ?_
  intro g cap w' h4 h5 h6 _
  have e : (zs ++ [y]).map (Value.int .i64) = zs.map (Value.int .i64) ++ [.int .i64 y] := by rw [List.map_append]; rfl
  exact hk g cap w' (by rw [e]; exact h4) ((Below.refl B W).grown h5 hB (fun k hk => (hown.lt k hk).1))

/-- The first i of the new numbers. -/
def nextTo (A : List Int) (k : Int) (m i : Nat) : List Int := (List.range i).map (nextAt A k m)
theorem nextTo_succ (A : List Int) (k : Int) (m i : Nat) : nextTo A k m i ++ [nextAt A k m i] = nextTo A k m (i + 1) := by
  unfold nextTo
  rw [List.range_succ, List.map_append]
  rfl
theorem nextTo_all (A : List Int) (k : Int) (m : Nat) : nextTo A k m m ++ [k] = nextA A k m := rfl

theorem nextA_in {A : List Int} {k : Int} (m : Nat) (hk : -16760438 ≤ k ∧ k ≤ 16760438) (i : Nat) : -2147483648 ≤ (nextA A k m)[i]?.getD 0 ∧ (nextA A k m)[i]?.getD 0 ≤ 2147483648 := by
  unfold nextA
  by_cases h : i < m
  · rw [List.getElem?_append_left (by rw [List.length_map, List.length_range]; exact h), List.getElem?_map, List.getElem?_range h]
    exact clampI_in _ _ _ (by decide)
  · rw [List.getElem?_append_right (by rw [List.length_map, List.length_range]; omega), List.length_map, List.length_range]
    by_cases h2 : i - m = 0
    · rw [h2]
      show -2147483648 ≤ k ∧ k ≤ 2147483648
      omega
    · rw [List.getElem?_eq_none (by simp; omega)]
      decide
theorem levA_in (r : List Int) : ∀ (m i : Nat), -2147483648 ≤ (levN r m).1[i]?.getD 0 ∧ (levN r m).1[i]?.getD 0 ≤ 2147483648
  | 0, i => by
    show -2147483648 ≤ ([] : List Int)[i]?.getD 0 ∧ ([] : List Int)[i]?.getD 0 ≤ 2147483648
    simp
  | m + 1, i => nextA_in m (turnK_in _ _ _ _) i

/-- What the doubling loop knows of its numbers. -/
def Ups (U : List Int) (o k : Nat) (cur : List Int) : Prop := cur.length = o + 1 ∧ Wide cur ∧ 1 ≤ r0Z cur ∧ (536870912 : Int) ≤ r0Z cur * 2 ^ k ∧ upN k cur = U
def Dns (U : List Int) (o k : Nat) (cur : List Int) : Prop := cur.length = o + 1 ∧ Wide cur ∧ 536870912 ≤ r0Z cur ∧ r0Z cur < 1073741824 * 2 ^ k ∧ dnN k cur = U

theorem dbl_r0 {r : List Int} (h0 : 0 < r.length) (h1 : 1 ≤ r0Z r) (hs : r0Z r < 536870912) : r0Z (dblL r) = r0Z r * 2 := by
  unfold r0Z at *
  rw [dblL_at h0]
  unfold clampI
  rw [if_neg (by omega), if_neg (by decide), if_neg (by omega)]
theorem Ups.next {U : List Int} {o k : Nat} {cur : List Int} (h : Ups U o (k + 1) cur) (hs : r0Z cur < 536870912) : Ups U o k (dblL cur) := by
  obtain ⟨h1, h2, h3, h4, h5⟩ := h
  have e := dbl_r0 (by omega) h3 hs
  refine ⟨by rw [dblL_len]; exact h1, dblL_wide _, by omega, ?_, by rw [← h5, upN_step hs]⟩
  rw [e, Int.mul_assoc, Int.mul_comm 2, ← Int.pow_succ]
  exact h4
theorem Ups.more {U : List Int} {o k : Nat} {cur : List Int} (h : Ups U o k cur) (hs : r0Z cur < 536870912) : ∃ j, k = j + 1 := by
  cases k with
  | zero =>
    have := h.2.2.2.1
    rw [Int.pow_zero, Int.mul_one] at this
    omega
  | succ j => exact ⟨j, rfl⟩
theorem Dns.next {U : List Int} {o k : Nat} {cur : List Int} (h : Dns U o (k + 1) cur) (hs : ¬ r0Z cur < 1073741824) : Dns U o k (hlfL cur) := by
  obtain ⟨h1, h2, h3, h4, h5⟩ := h
  have e : r0Z (hlfL cur) = r0Z cur / 2 := hlfL_at cur 0
  rw [Int.pow_succ] at h4
  exact ⟨by rw [hlfL_len]; exact h1, hlfL_wide h2, by omega, by omega, by rw [← h5, dnN_step hs]⟩
theorem Dns.more {U : List Int} {o k : Nat} {cur : List Int} (h : Dns U o k cur) (hs : ¬ r0Z cur < 1073741824) : ∃ j, k = j + 1 := by
  cases k with
  | zero =>
    have := h.2.2.2.1
    rw [Int.pow_zero, Int.mul_one] at this
    omega
  | succ j => exact ⟨j, rfl⟩

set_option maxRecDepth 100000 in
set_option maxHeartbeats 6400000 in
theorem rSolve_some (a : Option Addr) (n cap o : Nat) (zs : List Int) (w : World) (hz : Zs w a n zs) (hno : n = o + 1) (ho1 : 1 ≤ o) (ho : o ≤ 32) (h0 : ¬ r0Z zs < 1) :
    Calls Try.prog 17 #[.slice a n cap] w fun e w' => ∃ a' c', e = .returned (.slice a' o c') ∧ NewRow 2 w.heap.size w' a' (solveZ zs) ∧ Below w.heap.size w w' := by
  have hl := hz.len
  have HE : Hid (solveZ zs = fitZ ((levN (moreL (normL zs)) o).1.map fun v => mulI v 1 12)) := by
    show _ = _
    unfold solveZ
    rw [if_neg h0, hl, hno]
    rfl
  have HST : Hid (Ups (upN 40 (c41L zs)) o 40 (c41L zs) ∧ dnN 40 (upN 40 (c41L zs)) = normL zs ∧ 1 ≤ r0Z zs) := by
    have e : r0Z (c41L zs) = clampI (r0Z zs) (-2199023255552) 2199023255552 := c41L_at (by omega)
    have h3 : 1 ≤ r0Z (c41L zs) := by
      rw [e]
      have h2 := clampI_in (r0Z zs) (-2199023255552) 2199023255552 (by decide)
      unfold clampI at *
      split
      · omega
      · split
        · omega
        · split <;> omega
    refine ⟨⟨by rw [c41L_len]; omega, c41L_wide zs, h3, ?_, rfl⟩, rfl, by omega⟩
    rw [show (2 : Int) ^ 40 = 1099511627776 from by decide]
    omega
  have HZ : Hid (Zs w a n zs) := hz
  have HLL : Hid ((limL (-2199023255552) 2199023255552 zs).length = n) := by show _ = _; rw [limL_len]; exact hl
  have HO : Hid (n = o + 1 ∧ 1 ≤ o ∧ o ≤ 32) := ⟨hno, ho1, ho⟩
  have HL1 : Hid (0 < (c41L zs).length ∧ n ≤ 1000000) := ⟨by rw [c41L_len]; omega, by omega⟩
  obtain ⟨b0, off0, rfl, _, hc⟩ := hz.at_ (by omega)
  have hc0 : w.cell? ⟨b0, off0, none⟩ = some (.int .i64 (r0Z zs)) := hc 0 (by omega)
  have hr0 : 1 ≤ r0Z zs := by omega
  have hw1 : (n : Int) - 1 = (o : Int) := by omega
  have hnI : (n : Int) ≤ 33 := by omega
  have hn0 : (0 : Int) < (n : Int) := by omega
  have hoI : (o : Int) ≤ 32 := by omega
  clear hc hz hl h0 ho1 hno ho
  generalize r0Z zs = z0 at hc0 hr0
  go_enter Try.func17, Try.ntmps17
  go_wp2_with (go_at_call 30; go_loud (refine (rlim_any _ n cap zs _ _ _ HZ.out HL1.out.2).mono ?_; rintro e w1 ⟨a1, c1, rfl, hr1, hb1⟩; replace hr1 : NewRow 2 w.heap.size w1 a1 (c41L zs) := hr1; obtain ⟨g, rfl, hgB, hgl⟩ := hr1.some_of HL1.out.1))
  have HG : Hid (w.heap.size ≤ g) := hgB
  have HS1 : Hid (NewRow 2 w.heap.size w1 (some ⟨g, 0, none⟩) (c41L zs) ∧ Below w.heap.size w w1) := ⟨hr1, hb1⟩
  clear hr1 hb1 hgB hgl hc0 hr0
  generalize c41L zs = r1 at *
  generalize normL zs = rn at *
  generalize upN 40 r1 = ru at *
  go_loopg [] 40 (fun k W => ∃ cur, Hid (Ups ru o k cur ∧ NewRow 2 w.heap.size W (some ⟨g, 0, none⟩) cur ∧ Below w.heap.size w W))
  case atStart => exact ⟨r1, HST.out.1, HS1.out.1, HS1.out.2⟩
  case round =>
    obtain ⟨cur, HC⟩ := hrel
    have hlc := HC.out.1.1
    have hc0 : wr.cell? ⟨g, 0, none⟩ = some (.int .i64 (r0Z cur)) := HC.out.2.1.cellAt (by omega)
    obtain ⟨z, hz⟩ : ∃ z, r0Z cur = z := ⟨_, rfl⟩
    have HZ0 : Hid (r0Z cur = z) := hz
    rw [hz] at hc0
    by_cases hs : z < 536870912
    · obtain ⟨j, rfl⟩ := HC.out.1.more (by rw [hz]; exact hs)
      have HN := HC.out.1.next (by rw [hz]; exact hs)
      have HNX : Hid (Ups ru o j (dblL cur)) := HN
      have HLC : Hid (cur.length = o + 1 ∧ (dblL cur).length = o + 1 ∧ Wide cur) := ⟨hlc, HN.1, HC.out.1.2.1⟩
      have HF : Hid (∀ i, i < o + 1 → (dblL cur)[i]?.getD 0 = clampI (cur[i]?.getD 0 * 2) (-1125899906842624) 1125899906842624) := fun i hi => dblL_at (by rw [hlc]; exact hi)
      clear HN hlc hz
      go_wp2
      go_loopw [4] (fun y W => ∃ m : Nat, m ≤ o + 1 ∧ y = .int .i64 m ∧ Hid (NewRow 2 w.heap.size W (some ⟨g, 0, none⟩) (mixL (dblL cur) cur m) ∧ Below w.heap.size w W)) (fun y _ => n - (intOf y).toNat)
      case atStart => exact ⟨0, Nat.zero_le _, rfl, HC.out.2.1, HC.out.2.2⟩
      case round =>
        clear HC hc0
        obtain ⟨m, hm, rfl, HM⟩ := hrel
        by_cases hmn : m < n
        · obtain ⟨hml, hme⟩ := mixL_cell (m := m) HLC.out.2.1 HLC.out.1 (by have := HO.out; omega)
          have hcm := HM.out.1.cellAt (i := m) (by have := HO.out; omega)
          have hfm := HM.out.1.frozenAt (by omega) m
          rw [hme] at hcm
          have HSET := HM.out.1.set m ((dblL cur)[m]?.getD 0)
          rw [← mixL_step HLC.out.2.1 HLC.out.1 (by have := HO.out; omega)] at HSET
          have hv := HF.out m (by have := HO.out; omega)
          have hwd := HLC.out.2.2 m
          generalize (dblL cur)[m]?.getD 0 = y at *
          generalize cur[m]?.getD 0 = u at *
          have HW : Hid (wrap64 (u * 2) = u * 2) := i64_wrap (by omega) (by omega)
          have HV : Hid (clampI (u * 2) (-1125899906842624) 1125899906842624 = y) := hv.symm
          have HN2 : Hid (NewRow 2 w.heap.size (wr.setCell ⟨g, m, none⟩ (.int .i64 y)) (some ⟨g, 0, none⟩) (mixL (dblL cur) cur (m + 1)) ∧ Below w.heap.size w (wr.setCell ⟨g, m, none⟩ (.int .i64 y))) := ⟨HSET, HM.out.2.setCell HG.out _⟩
          clear hml hme HSET hv hwd HM
          go_wp2_with (go_at_call 31; refine (rclamp_any _ _ _ _).mono ?_; (try rw [HW.out]); rw [HV.out]; rintro e w' ⟨rfl, rfl⟩)
          go_roundw
          case rel => exact ⟨m + 1, by have := HO.out; omega, by go_num, HN2⟩
          case measure => simp [intOf]; omega
        · have hmo : m = o + 1 := by have := HO.out; omega
          subst hmo
          have HD : Hid (NewRow 2 w.heap.size wr (some ⟨g, 0, none⟩) (dblL cur) ∧ Below w.heap.size w wr) := by
            have h := HM.out
            rw [mixL_all HLC.out.2.1 HLC.out.1] at h
            exact h
          clear HM
          go_wp2
          go_roundg j
          case measure => omega
          case rel => exact ⟨dblL cur, HNX.out, HD.out⟩
    · have HU : Hid (NewRow 2 w.heap.size wr (some ⟨g, 0, none⟩) ru ∧ Below w.heap.size w wr ∧ Dns rn o 40 ru) := by
        have h1 := HC.out
        have e : cur = ru := by
          have := h1.1.2.2.2.2
          rw [upN_stop (by rw [hz]; exact hs)] at this
          exact this
        rw [← e]
        have hwd := h1.1.2.1 0
        have hz2 : r0Z cur = cur[0]?.getD 0 := rfl
        refine ⟨h1.2.1, h1.2.2, h1.1.1, h1.1.2.1, by rw [hz]; omega, ?_, by rw [e]; exact HST.out.2.1⟩
        rw [show (2 : Int) ^ 40 = 1099511627776 from by decide]
        omega
      clear HC HST HZ0 hz
      go_wp2
      clear hs hc0
      go_loopg [] 40 (fun k W => ∃ cur, Hid (Dns rn o k cur ∧ NewRow 2 w.heap.size W (some ⟨g, 0, none⟩) cur ∧ Below w.heap.size w W))
      case atStart => exact ⟨ru, HU.out.2.2, HU.out.1, HU.out.2.1⟩
      case round =>
        clear HU
        obtain ⟨cur, HC⟩ := hrel
        have hlc := HC.out.1.1
        have hc0 : wr.cell? ⟨g, 0, none⟩ = some (.int .i64 (r0Z cur)) := HC.out.2.1.cellAt (by omega)
        obtain ⟨z, hz⟩ : ∃ z, r0Z cur = z := ⟨_, rfl⟩
        rw [hz] at hc0
        by_cases hs : z < 1073741824
        · have HU : Hid (NewRow 2 w.heap.size wr (some ⟨g, 0, none⟩) rn ∧ Below w.heap.size w wr ∧ rn.length = o + 1 ∧ Wide rn ∧ 536870912 ≤ r0Z rn ∧ r0Z rn < 1073741824) := by
            have h1 := HC.out
            have e : cur = rn := by
              have := h1.1.2.2.2.2
              rw [dnN_stop (by rw [hz]; exact hs)] at this
              exact this
            rw [← e]
            exact ⟨h1.2.1, h1.2.2, h1.1.1, h1.1.2.1, h1.1.2.2.1, by rw [hz]; exact hs⟩
          clear HC hz hlc
          have hz2 : r0Z rn = z := by
            have h1 := HU.out.1.cellAt (i := 0) (by have := HU.out.2.2.1; omega)
            rw [hc0] at h1
            have h2 : some (Value.int .i64 z) = some (Value.int .i64 (r0Z rn)) := h1
            simp at h2
            exact h2.symm
          have hfz := HU.out.1.frozenAt (by have := HU.out.2.2.1; omega) 0
          have hzl : 536870912 ≤ z := by rw [← hz2]; exact HU.out.2.2.2.2.1
          obtain ⟨y, hy⟩ : ∃ y, z + z / 1024 + 1 = y := ⟨_, rfl⟩
          have HY : Hid (wrap64 (wrap64 (z + wrap64 (z / 1024)) + 1) = y ∧ wrap64 (wrap64 (z + z / 1024) + 1) = y ∧ z + z / 1024 + 1 = y) := by
            have e1 : wrap64 (z / 1024) = z / 1024 := i64_wrap (by omega) (by omega)
            have e2 : wrap64 (z + z / 1024) = z + z / 1024 := i64_wrap (by omega) (by omega)
            have e3 : wrap64 (z + z / 1024 + 1) = y := by rw [← hy]; exact i64_wrap (by omega) (by omega)
            exact ⟨by rw [e1, e2, e3], by rw [e2, e3], hy⟩
          have hrm : moreL rn = rn.set 0 y := by
            unfold moreL
            rw [hz2, hy]
          have hrl : (moreL rn).length = o + 1 := by rw [hrm, List.length_set]; exact HU.out.2.2.1
          have HRM : Hid ((moreL rn).length = o + 1 ∧ Wide (moreL rn) ∧ 1 ≤ r0Z (moreL rn) ∧ r0Z (moreL rn) ≤ 2147483648 ∧ r0Z (moreL rn) = y) := by
            have e0 : r0Z (moreL rn) = y := by
              unfold r0Z
              rw [hrm, List.getElem?_set_self (by have := HU.out.2.2.1; omega)]
              rfl
            refine ⟨hrl, fun i => ?_, by omega, by omega, e0⟩
            rw [hrm]
            by_cases hi : i = 0
            · subst hi
              rw [List.getElem?_set_self (by have := HU.out.2.2.1; omega)]
              show -1125899906842624 ≤ y ∧ y ≤ 1125899906842624
              omega
            · rw [List.getElem?_set_ne (Ne.symm hi)]
              exact HU.out.2.2.2.1 i
          have HROW : Hid (NewRow 2 w.heap.size (wr.setCell ⟨g, 0, none⟩ (.int .i64 y)).drew (some ⟨g, 0, none⟩) (moreL rn) ∧ Below w.heap.size w (wr.setCell ⟨g, 0, none⟩ (.int .i64 y)).drew ∧ g < (wr.setCell ⟨g, 0, none⟩ (.int .i64 y)).drew.heap.size) := by
            rw [hrm]
            refine ⟨(HU.out.1.set 0 y).drew, (HU.out.2.1.setCell HG.out _).drew, ?_⟩
            have := (HU.out.1.ge (by have := HU.out.2.2.1; omega)).2
            show g < (wr.setCell _ _).heap.size
            rw [World.size_setCell]
            exact this
          clear hrm hrl hy hz2 HU
          go_wp2
          go_region
          rw [HY.out.2.2]
          generalize (wr.setCell ⟨g, 0, none⟩ (.int .i64 y)).drew = V at *
          generalize moreL rn = rm at *
          obtain ⟨X, hX⟩ : ∃ X, V.heap.size = X := ⟨_, rfl⟩
          have HX : Hid (V.heap.size = X ∧ g < X) := ⟨hX, by rw [← hX]; exact HROW.out.2.2⟩
          have HRK : Hid (∀ W, Below X V W → NewRow 2 w.heap.size W (some ⟨g, 0, none⟩) rm ∧ Below w.heap.size w W) := fun W hW => ⟨HROW.out.1.keep (by rw [hX]; exact hW), HROW.out.2.1.trans (hW.mono (by rw [← hX]; exact HROW.out.2.1.size))⟩
          have HRC : Hid (∀ W, Below X V W → ∀ i, i < o + 1 → W.cell? ⟨g, i, none⟩ = some (.int .i64 (rm[i]?.getD 0))) := fun W hW i hi => (HRK.out W hW).1.cellAt (by rw [HRM.out.1]; exact hi)
          have hc1 : V.cell? ⟨g, 0, none⟩ = some (.int .i64 y) := by
            have h1 := HRC.out V (Below.refl _ _) 0 (by omega)
            have h2 := HRM.out.2.2.2.2
            unfold r0Z at h2
            rw [h2] at h1
            exact h1
          clear hX hc0 hfz HROW hs hzl HY
          go_wp2
          go_loopw [6, 7, 8] (fun e v i W => ∃ m : Nat, m ≤ o ∧ i = .int .i64 m ∧ e = .int .i64 (levN rm m).2 ∧ Hid (W.ownsRow X 2 1 v m ((levN rm m).1.map (Value.int .i64)) ∧ Below X V W)) (fun _ _ i _ => o - (intOf i).toNat)
          case atStart => exact ⟨0, Nat.zero_le _, rfl, by show Value.int .i64 y = Value.int .i64 (r0Z rm); rw [HRM.out.2.2.2.2], World.ownsRow_nil _ _ _ _, Below.refl _ _⟩
          case round =>
            clear hc1
            obtain ⟨m, hm, rfl, rfl, HM⟩ := hrel
            have hAl := levN_len rm m
            have hEn := levN_en (r := rm) ⟨HRM.out.2.2.1, HRM.out.2.2.2.1⟩ m
            have HSUC : Hid (levN rm (m + 1) = (nextA (levN rm m).1 (turnK (levN rm m).1 rm (levN rm m).2 m) m, nextEn (levN rm m).2 (turnK (levN rm m).1 rm (levN rm m).2 m))) := rfl
            obtain ⟨_, av, ac, rfl, hnew⟩ := NewRow.of_owned HM.out.1
            obtain ⟨Wm, hWm⟩ : ∃ Wm, Wm = wr := ⟨_, rfl⟩
            subst hWm
            have HBW : Hid (Below X V Wm) := HM.out.2
            by_cases hmo : m < o
            · have HAI : Hid (∀ i : Nat, -2147483648 ≤ (levN rm m).1[i]?.getD 0 ∧ (levN rm m).1[i]?.getD 0 ≤ 2147483648) := levA_in rm m
              generalize (levN rm m).1 = A at *
              generalize (levN rm m).2 = En at *
              have HA : Hid (∀ W, Below Wm.heap.size Wm W → Zs W av m A) := fun W hW => (Zs.of_new hnew hAl).keep hW
              have HMO : Hid (m < o ∧ o ≤ 32 ∧ A.length = m ∧ 1 ≤ En ∧ En ≤ 2147483648) := ⟨hmo, HO.out.2.2, hAl, hEn.1, hEn.2⟩
              have hcm1 := HRC.out Wm HBW.out (m + 1) (by omega)
              have hmoI : (m : Int) < (o : Int) := by omega
              have HS0 : Hid (sumT A rm m 0 = rm[m + 1]?.getD 0) := rfl
              rw [← HS0.out] at hcm1
              have HSS : Hid (∀ i, sumT A rm m (i + 1) = sumT A rm m i - mulI (A[i]?.getD 0) (rm[m - i]?.getD 0) 24) := fun _ => rfl
              have HSB : Hid (∀ i : Nat, -(1125899906842624 + (i : Int) * 274877906945) ≤ sumT A rm m i ∧ sumT A rm m i ≤ 1125899906842624 + (i : Int) * 274877906945) := sumT_in HRM.out.2.1 m
              have HTK : Hid (clampI (divI (sumT A rm m m) En 24) (-16760438) 16760438 = turnK A rm En m) := rfl
              have HTI : Hid (-16760438 ≤ turnK A rm En m ∧ turnK A rm En m ≤ 16760438) := turnK_in A rm En m
              generalize turnK A rm En m = K at *
              generalize sumT A rm m = T at *
              clear hnew hAl hEn HM hm hmo
              go_wp2
              go_loopw [9, 10] (fun t i W => (∃ d, W = Wm.drewN d) ∧ ∃ j : Nat, j ≤ m ∧ i = .int .i64 j ∧ t = .int .i64 (T j)) (fun _ i _ => m - (intOf i).toNat)
              case atStart => exact ⟨⟨0, rfl⟩, 0, Nat.zero_le _, rfl, rfl⟩
              case round =>
                clear hcm1
                obtain ⟨⟨d, rfl⟩, j, hj, rfl, rfl⟩ := hrel
                by_cases hjm : j < m
                · obtain ⟨b, off, rfl, hb0, hc⟩ := (HA.out Wm (Below.refl _ _)).at_ (by omega)
                  have hcj := hc j hjm
                  obtain ⟨q, hq⟩ : ∃ q, m - j = q := ⟨_, rfl⟩
                  have hcq := HRC.out Wm HBW.out q (by have := HMO.out; omega)
                  have hs := HSS.out j
                  rw [hq] at hs
                  have hbj := HSB.out j
                  have hbj1 := HSB.out (j + 1)
                  have hmb := mul24_in (A[j]?.getD 0) (rm[q]?.getD 0)
                  generalize A[j]?.getD 0 = u at *
                  generalize rm[q]?.getD 0 = v at *
                  have HMU : Hid (∀ W, Calls Try.prog 33 #[.int .i64 u, .int .i64 v, .int .i64 24] W fun e w' => e = .returned (.int .i64 (mulI u v 24)) ∧ w' = W) := fun W => rmul_any u v 24 W
                  generalize mulI u v 24 = z at *
                  have HW : Hid (wrap64 (T j - z) = T (j + 1)) := by
                    have := HMO.out
                    show _ = _
                    rw [hs]
                    exact i64_wrap (by omega) (by omega)
                  have hjI : (j : Int) < (m : Int) := by omega
                  have hw3 : (m : Int) - (j : Int) = (q : Int) := by omega
                  have hk3 : IntKind.i64.wrap (q : Int) = (q : Int) := i64k_wrap (by have := HMO.out; omega) (by have := HMO.out; omega)
                  have hqn : (q : Int) < (n : Int) := by have := HMO.out; have := HO.out; omega
                  have HJ : Hid (j < m) := hjm
                  clear hq hs hbj hbj1 hmb hc hj hjm
                  go_wp2
                  go_quiet (first | (go_at_call 33; first | exact Calls.quiet_of_same (HMU.out _) | exact (HMU.out _).mono (fun _ _ ⟨he, hw⟩ => ⟨he, _, hw⟩)))
                  go_wp2
                  go_roundw
                  case rel => exact ⟨⟨_, rfl⟩, j + 1, by have := HJ.out; omega, by go_num, by rw [HW.out]⟩
                  case measure =>
                    have := HJ.out
                    simp [intOf]
                    omega
                · have hjm2 : m = j := by omega
                  subst hjm2
                  have HWB : Hid (Below Wm.heap.size Wm (Wm.drewN d) ∧ (Wm.drewN d).heap.size = Wm.heap.size) := ⟨below_drewN (Below.refl _ _) d, rfl⟩
                  clear hj hjm
                  go_wp2_with (first
                    | (go_at_call 34; refine (rdiv_any _ _ _ _).mono ?_; rintro e w' ⟨rfl, rfl⟩)
                    | (go_at_call 31; refine (rclamp_any _ _ _ _).mono ?_; rw [HTK.out]; rintro e w' ⟨rfl, rfl⟩))
                  go_loopw [12, 13] (fun v i W => ∃ j : Nat, j ≤ m ∧ i = .int .i64 j ∧ Hid (W.ownsRow Wm.heap.size 2 1 v j ((nextTo A K m j).map (Value.int .i64)) ∧ Below Wm.heap.size Wm W)) (fun _ i _ => m - (intOf i).toNat)
                  case atStart => exact ⟨0, Nat.zero_le _, rfl, World.ownsRow_nil _ _ _ _, HWB.out.1⟩
                  case round =>
                    obtain ⟨j, hj, rfl, HB2⟩ := hrel
                    by_cases hjm : j < m
                    · obtain ⟨hown, hbel⟩ := HB2.out
                      obtain ⟨b, off, rfl, hb0, hc⟩ := (HA.out _ hbel).at_ (by omega)
                      obtain ⟨q, hq⟩ : ∃ q, m - 1 - j = q := ⟨_, rfl⟩
                      have hcj := hc j hjm
                      have hcq := hc q (by omega)
                      have HCC : Hid (∀ W, Below Wm.heap.size Wm W → W.cell? ⟨b, off + j, none⟩ = some (.int .i64 (A[j]?.getD 0)) ∧ W.cell? ⟨b, off + q, none⟩ = some (.int .i64 (A[q]?.getD 0))) := fun W hW => by
                        obtain ⟨b2, off2, e2, _, hc2⟩ := (HA.out _ hW).at_ (by omega)
                        cases e2
                        exact ⟨hc2 j hjm, hc2 q (by omega)⟩
                      have HNA : Hid (clampI (A[j]?.getD 0 - mulI K (A[q]?.getD 0) 24) (-2147483648) 2147483648 = nextAt A K m j) := by
                        show _ = _
                        unfold nextAt
                        rw [hq]
                      have HNS : Hid (nextTo A K m j ++ [nextAt A K m j] = nextTo A K m (j + 1)) := nextTo_succ A K m j
                      have hmb := mul24_in K (A[q]?.getD 0)
                      have hub := HAI.out j
                      have HJ : Hid (j < m ∧ m < o ∧ o ≤ 32) := ⟨hjm, HMO.out.1, HMO.out.2.1⟩
                      generalize nextAt A K m j = y at *
                      generalize A[j]?.getD 0 = u at *
                      generalize A[q]?.getD 0 = v at *
                      have HMU : Hid (∀ W, Calls Try.prog 33 #[.int .i64 K, .int .i64 v, .int .i64 24] W fun e w' => e = .returned (.int .i64 (mulI K v 24)) ∧ w' = W) := fun W => rmul_any K v 24 W
                      generalize mulI K v 24 = z at *
                      have HCL : Hid (∀ W, Calls Try.prog 31 #[.int .i64 (u - z), .int .i64 (-2147483648), .int .i64 2147483648] W fun e w' => e = .returned (.int .i64 y) ∧ w' = W) := fun W => by
                        have h := rclamp_any (u - z) (-2147483648) 2147483648 W
                        rw [HNA.out] at h
                        exact h
                      have hwz1 : wrap64 (u - z) = u - z := i64_wrap (by omega) (by omega)
                      have hwz2 : IntKind.i64.wrap (u - z) = u - z := i64k_wrap (by omega) (by omega)
                      have hk1 : IntKind.i64.wrap ((m : Int) - 1) = (m : Int) - 1 := i64k_wrap (by omega) (by omega)
                      have hw3 : (m : Int) - 1 - (j : Int) = (q : Int) := by omega
                      have hk3 : IntKind.i64.wrap (q : Int) = (q : Int) := i64k_wrap (by omega) (by omega)
                      have hqm : (q : Int) < (m : Int) := by omega
                      have hjI : (j : Int) < (m : Int) := by omega
                      have hqmN : q < m := by omega
                      have HOWN : Hid (wr.ownsRow Wm.heap.size 2 1 _ j ((nextTo A K m j).map (Value.int .i64)) ∧ Below Wm.heap.size Wm wr) := ⟨hown, hbel⟩
                      have HCA : ∀ (o : Obj), (wr.alloc o).cell? ⟨b, off + j, none⟩ = some (.int .i64 u) ∧ (wr.alloc o).cell? ⟨b, off + q, none⟩ = some (.int .i64 v) := fun o => HCC.out _ (hbel.alloc hbel.size o)
                      have HJ2 : Hid (j ≤ 100000 ∧ Wm.heap.size ≤ (wr.alloc (.cells #[.int .i64 y] 2)).drew.heap.size) := ⟨by omega, by have := hbel.size; show _ ≤ (wr.alloc _).heap.size; rw [World.size_alloc]; omega⟩
                      clear hq hmb hub hown hbel hc HB2 hj hjm HNA
                      go_wp2
                      go_region_held3 (fun W => W.cell? ⟨b, off + j, none⟩ = some (.int .i64 u) ∧ W.cell? ⟨b, off + q, none⟩ = some (.int .i64 v)) (first | (exact ⟨by assumption, by assumption⟩) | (exact HCA _) | go_keep) (first
                        | (go_at_call 33; go_loud (refine (HMU.out _).mono ?_; rintro e w' ⟨rfl, rfl⟩))
                        | (go_at_call 31; go_loud (refine (HCL.out _).mono ?_; rintro e w' ⟨rfl, rfl⟩))
                        | ((refine step_push_64 (W := (wr.alloc (.cells #[.int .i64 y] 2)).drew) Wm.heap.size _ j (nextTo A K m j) y wr.heap.size (ownsRow_below HOWN.out.1 ((Below.refl _ _).alloc (Nat.le_refl _) _).drew) HJ2.out.1 HJ2.out.2 (heap_alloc_new wr _) (by rfl) (.tmp 114) (.tmp 130) (by rfl) (by rfl) (by rfl) ?_; rw [HNS.out]; intro g5 cp5 w5 ho5 hb5; have hb6 : Below Wm.heap.size Wm w5 := (HOWN.out.2.alloc HOWN.out.2.size _).drew.trans hb5; obtain ⟨c5, c6⟩ := HCC.out w5 hb6; clear hb5)))
                      go_wp2
                      go_roundw
                      case rel => exact ⟨j + 1, by have := HJ.out; omega, by go_num, ho5, hb6⟩
                      case measure =>
                        have := HJ.out
                        simp [intOf]
                        omega
                    · have hjm2 : m = j := by omega
                      subst hjm2
                      have HOWN : Hid (wr.ownsRow Wm.heap.size 2 1 _ m ((nextTo A K m m).map (Value.int .i64)) ∧ Below Wm.heap.size Wm wr) := HB2.out
                      have HJ : Hid (m < o ∧ o ≤ 32 ∧ m ≤ 1000000) := ⟨HMO.out.1, HMO.out.2.1, by have := HMO.out; omega⟩
                      have HNA : Hid (nextTo A K m m ++ [K] = nextA A K m) := nextTo_all A K m
                      have hkk : -16777216 ≤ mulI K K 24 ∧ mulI K K 24 ≤ 16777216 := by
                        have hK := HTI.out
                        have h1 := prod_le hK hK
                        rw [mul24_is, cf_same (by omega) (by omega)]
                        omega
                      have HEN : Hid ((if mulI En (16777216 - mulI K K 24) 24 < 1 then 1 else mulI En (16777216 - mulI K K 24) 24) = nextEn En K) := rfl
                      have HM1 : Hid (∀ W, Calls Try.prog 33 #[.int .i64 K, .int .i64 K, .int .i64 24] W fun e w' => e = .returned (.int .i64 (mulI K K 24)) ∧ w' = W) := fun W => rmul_any K K 24 W
                      generalize mulI K K 24 = kk at *
                      have HM2 : Hid (∀ W, Calls Try.prog 33 #[.int .i64 En, .int .i64 (16777216 - kk), .int .i64 24] W fun e w' => e = .returned (.int .i64 (mulI En (16777216 - kk) 24)) ∧ w' = W) := fun W => rmul_any En (16777216 - kk) 24 W
                      generalize mulI En (16777216 - kk) 24 = en at *
                      have y1 : Hid True := trivial
                      have HXS : Hid (X ≤ Wm.heap.size) := by
                        have := HBW.out.size
                        rw [HX.out.1] at this
                        exact this
                      clear HB2 hj hjm
                      by_cases hen : en < 1
                      · have HE2 : Hid (nextEn En K = 1) := HEN.out.symm.trans (if_pos hen)
                        go_wp2_with (first
                          | (at_builtin; go_loud (refine wpList_append_one 23 2 Try.underlying23 info_int64 Wm.heap.size _ m _ _ HOWN.out.1 HJ.out.2.2 HOWN.out.2.size rfl _ _ rfl rfl rfl ?_; rw [HNA.out]; intro v' w10 hown2 hb2; have HN2 : Hid (w10.ownsRow X 2 1 v' (m + 1) ((nextA A K m).map (Value.int .i64)) ∧ Below X V w10) := ⟨own_low hown2 HXS.out, HBW.out.trans ((HOWN.out.2.trans hb2).mono HXS.out)⟩; clear hown2 hb2))
                          | (go_at_call 33; clear y1; refine (HM1.out _).mono ?_; rintro e w' ⟨rfl, rfl⟩)
                          | (go_at_call 33; refine (HM2.out _).mono ?_; rintro e w' ⟨rfl, rfl⟩))
                        go_roundw
                        case rel =>
                          refine ⟨m + 1, by have := HJ.out; omega, by go_num, ?_, ?_⟩
                          · rw [HSUC.out, HE2.out]
                          · rw [HSUC.out]
                            exact HN2
                        case measure =>
                          have := HJ.out
                          simp [intOf]
                          omega
                      · have HE2 : Hid (nextEn En K = en) := HEN.out.symm.trans (if_neg hen)
                        go_wp2_with (first
                          | (at_builtin; go_loud (refine wpList_append_one 23 2 Try.underlying23 info_int64 Wm.heap.size _ m _ _ HOWN.out.1 HJ.out.2.2 HOWN.out.2.size rfl _ _ rfl rfl rfl ?_; rw [HNA.out]; intro v' w10 hown2 hb2; have HN2 : Hid (w10.ownsRow X 2 1 v' (m + 1) ((nextA A K m).map (Value.int .i64)) ∧ Below X V w10) := ⟨own_low hown2 HXS.out, HBW.out.trans ((HOWN.out.2.trans hb2).mono HXS.out)⟩; clear hown2 hb2))
                          | (go_at_call 33; clear y1; refine (HM1.out _).mono ?_; rintro e w' ⟨rfl, rfl⟩)
                          | (go_at_call 33; refine (HM2.out _).mono ?_; rintro e w' ⟨rfl, rfl⟩))
                        go_roundw
                        case rel =>
                          refine ⟨m + 1, by have := HJ.out; omega, by go_num, ?_, ?_⟩
                          · rw [HSUC.out, HE2.out]
                          · rw [HSUC.out]
                            exact HN2
                        case measure =>
                          have := HJ.out
                          simp [intOf]
                          omega
            · have hmo2 : o = m := by omega
              subst hmo2
              have hAI := levA_in rm o
              have hrow := hnew.mono (B' := w.heap.size) (by have := HX.out; have := HG.out; omega)
              obtain ⟨ga, rfl, hgaB, hgal⟩ := hrow.some_of (by rw [hAl]; have := HO.out; omega)
              have HEE : Hid (solveZ zs = fitZ ((levN rm o).1.map fun v => mulI v 1 12)) := HE.out
              generalize (levN rm o).1 = A at *
              obtain ⟨F, hF⟩ : ∃ F, (A.map fun v => mulI v 1 12) = F := ⟨_, rfl⟩
              have hFl : F.length = o := by rw [← hF, List.length_map]; exact hAl
              have HF : Hid (∀ i, i < o → F[i]?.getD 0 = mulI (A[i]?.getD 0) 1 12) := fun i hi => by
                rw [← hF, List.getElem?_map, List.getElem?_eq_getElem (by omega)]
                rfl
              rw [hF] at HEE
              have HLC : Hid (A.length = o ∧ F.length = o ∧ w.heap.size ≤ ga ∧ o ≤ 32 ∧ 1 ≤ o) := ⟨hAl, hFl, hgaB, HO.out.2.2, HO.out.2.1⟩
              have HSTA : Hid (NewRow 2 w.heap.size Wm (some ⟨ga, 0, none⟩) (mixL F A 0) ∧ Below w.heap.size w Wm) := ⟨hrow, (HRK.out Wm HBW.out).2⟩
              clear hnew hAl hEn HM hm hmo hAI hrow hgaB hgal hF hFl HSUC
              go_wp2
              go_loopw [14] (fun y W => ∃ j : Nat, j ≤ o ∧ y = .int .i64 j ∧ Hid (NewRow 2 w.heap.size W (some ⟨ga, 0, none⟩) (mixL F A j) ∧ Below w.heap.size w W)) (fun y _ => o - (intOf y).toNat)
              case atStart => exact ⟨0, Nat.zero_le _, rfl, HSTA⟩
              case round =>
                clear HSTA
                obtain ⟨j, hj, rfl, HJ⟩ := hrel
                by_cases hjo : j < o
                · obtain ⟨hml, hme⟩ := mixL_cell (m := j) HLC.out.2.1 HLC.out.1 hjo
                  have hcm := HJ.out.1.cellAt (i := j) (by omega)
                  have hfm := HJ.out.1.frozenAt (by omega) j
                  rw [hme] at hcm
                  have HSET := HJ.out.1.set j (F[j]?.getD 0)
                  rw [← mixL_step HLC.out.2.1 HLC.out.1 hjo] at HSET
                  have hv := HF.out j hjo
                  generalize F[j]?.getD 0 = y at *
                  generalize A[j]?.getD 0 = u at *
                  have HV : Hid (mulI u 1 12 = y) := hv.symm
                  have HN2 : Hid (NewRow 2 w.heap.size (wr.setCell ⟨ga, j, none⟩ (.int .i64 y)) (some ⟨ga, 0, none⟩) (mixL F A (j + 1)) ∧ Below w.heap.size w (wr.setCell ⟨ga, j, none⟩ (.int .i64 y))) := ⟨HSET, HJ.out.2.setCell HLC.out.2.2.1 _⟩
                  have hjI : (j : Int) < (o : Int) := by omega
                  clear hml hme HSET hv HJ
                  go_wp2_with (go_at_call 33; refine (rmul_any _ _ _ _).mono ?_; rw [HV.out]; rintro e w' ⟨rfl, rfl⟩)
                  go_roundw
                  case rel => exact ⟨j + 1, by omega, by go_num, HN2⟩
                  case measure => simp [intOf]; omega
                · have hjo2 : o = j := by omega
                  subst hjo2
                  have HD : Hid (NewRow 2 w.heap.size wr (some ⟨ga, 0, none⟩) F ∧ Below w.heap.size w wr) := by
                    have h := HJ.out
                    rw [mixL_all HLC.out.2.1 HLC.out.1] at h
                    exact h
                  clear HJ hj hjo
                  go_wp2_with (go_at_call 35; go_loud (refine (rfit_any _ o ac F _ (Zs.of_new HD.out.1 HLC.out.2.1) HLC.out.2.2.2.1).mono ?_; rintro e w9 ⟨a9, c9, rfl, hr9, hb9⟩; have HR9 : Hid (NewRow 2 w.heap.size w9 a9 (fitZ F) ∧ Below w.heap.size w w9) := ⟨hr9.mono HD.out.2.size, HD.out.2.trans (hb9.mono HD.out.2.size)⟩; clear hr9 hb9))
                  go_ret
                  rw [HEE.out]
                  exact ⟨_, _, rfl, HR9.out⟩
        · obtain ⟨j, rfl⟩ := HC.out.1.more (by rw [hz]; exact hs)
          have HN := HC.out.1.next (by rw [hz]; exact hs)
          have HNX : Hid (Dns rn o j (hlfL cur)) := HN
          have HLC : Hid (cur.length = o + 1 ∧ (hlfL cur).length = o + 1 ∧ Wide cur) := ⟨hlc, HN.1, HC.out.1.2.1⟩
          have HF : Hid (∀ i, i < o + 1 → (hlfL cur)[i]?.getD 0 = cur[i]?.getD 0 / 2) := fun i _ => hlfL_at cur i
          clear HN hlc hz
          go_wp2
          go_loopw [5] (fun y W => ∃ m : Nat, m ≤ o + 1 ∧ y = .int .i64 m ∧ Hid (NewRow 2 w.heap.size W (some ⟨g, 0, none⟩) (mixL (hlfL cur) cur m) ∧ Below w.heap.size w W)) (fun y _ => n - (intOf y).toNat)
          case atStart => exact ⟨0, Nat.zero_le _, rfl, HC.out.2.1, HC.out.2.2⟩
          case round =>
            clear HC hc0
            obtain ⟨m, hm, rfl, HM⟩ := hrel
            by_cases hmn : m < n
            · obtain ⟨hml, hme⟩ := mixL_cell (m := m) HLC.out.2.1 HLC.out.1 (by have := HO.out; omega)
              have hcm := HM.out.1.cellAt (i := m) (by have := HO.out; omega)
              have hfm := HM.out.1.frozenAt (by omega) m
              rw [hme] at hcm
              have HSET := HM.out.1.set m ((hlfL cur)[m]?.getD 0)
              rw [← mixL_step HLC.out.2.1 HLC.out.1 (by have := HO.out; omega)] at HSET
              have hv := HF.out m (by have := HO.out; omega)
              have hwd := HLC.out.2.2 m
              generalize (hlfL cur)[m]?.getD 0 = y at *
              generalize cur[m]?.getD 0 = u at *
              have HB : Hid (-4611686018427387904 ≤ u ∧ u ≤ 4611686018427387904) := by
                show _ ∧ _
                omega
              have HV : Hid (u / 2 = y) := hv.symm
              have HN2 : Hid (NewRow 2 w.heap.size (wr.setCell ⟨g, m, none⟩ (.int .i64 y)) (some ⟨g, 0, none⟩) (mixL (hlfL cur) cur (m + 1)) ∧ Below w.heap.size w (wr.setCell ⟨g, m, none⟩ (.int .i64 y))) := ⟨HSET, HM.out.2.setCell HG.out _⟩
              clear hml hme HSET hv hwd HM
              go_wp2_with (go_at_call 32; refine (rdown_any u 2 _ HB.out.1 HB.out.2 (by decide)).mono ?_; rw [HV.out]; rintro e w' ⟨rfl, rfl⟩)
              go_roundw
              case rel => exact ⟨m + 1, by have := HO.out; omega, by go_num, HN2⟩
              case measure => simp [intOf]; omega
            · have hmo : m = o + 1 := by have := HO.out; omega
              subst hmo
              have HD : Hid (NewRow 2 w.heap.size wr (some ⟨g, 0, none⟩) (hlfL cur) ∧ Below w.heap.size w wr) := by
                have h := HM.out
                rw [mixL_all HLC.out.2.1 HLC.out.1] at h
                exact h
              clear HM
              go_wp2
              go_roundg j
              case measure => omega
              case rel => exact ⟨hlfL cur, HNX.out, HD.out⟩

theorem rSolve_any (a : Option Addr) (n cap o : Nat) (zs : List Int) (w : World) (hz : Zs w a n zs) (hno : n = o + 1) (ho1 : 1 ≤ o) (ho : o ≤ 32) :
    Calls Try.prog 17 #[.slice a n cap] w fun e w' => ∃ a' c', e = .returned (.slice a' o c') ∧ NewRow 2 w.heap.size w' a' (solveZ zs) ∧ Below w.heap.size w w' := by
  by_cases h0 : r0Z zs < 1
  · exact rSolve_nought a n cap o zs w hz hno ho h0
  · exact rSolve_some a n cap o zs w hz hno ho1 ho h0

end Lev
end Go.Proofs.Ytjaccokmficfdaa
