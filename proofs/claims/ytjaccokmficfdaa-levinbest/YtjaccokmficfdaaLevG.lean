/- Package levin's own calls: a sound's likeness brought between two bounds. -/
import Derived.Test.YtjaccokmficfdaaLevE
import Derived.Test.YtjaccokmficfdaaLevC
namespace Go.Proofs.Ytjaccokmficfdaa
namespace Lev
open Go.RowKit

set_option maxRecDepth 100000 in
set_option maxHeartbeats 6400000 in
theorem prepared_any (a : Option Addr) (n cap o : Nat) (zs : List Int) (w : World) (hz : Zs w a n zs) (hno : n = o + 1) (ho : o ≤ 32) (h0 : ¬ r0Z zs < 1) :
    Calls Try.prog 24 #[.slice a n cap] w fun e w' => ∃ a', e = .returned (.slice a' n n) ∧ NewRow 2 w.heap.size w' a' (moreL (normL zs)) ∧ Below w.heap.size w w' := by
  have hl := hz.len
  have HST : Hid (Ups (upN 40 (c41L zs)) o 40 (c41L zs) ∧ dnN 40 (upN 40 (c41L zs)) = normL zs) := by
    have e : r0Z (c41L zs) = clampI (r0Z zs) (-2199023255552) 2199023255552 := c41L_at (by omega)
    have h3 : 1 ≤ r0Z (c41L zs) := by
      rw [e]
      have h2 := clampI_in (r0Z zs) (-2199023255552) 2199023255552 (by decide)
      unfold clampI at *
      split
      · omega
      · split
        · omega
        · split <;> omega
    refine ⟨⟨by rw [c41L_len]; omega, c41L_wide zs, h3, ?_, rfl⟩, rfl⟩
    rw [show (2 : Int) ^ 40 = 1099511627776 from by decide]
    omega
  have HZ : Hid (∀ W, Below w.heap.size w W → Zs W a n zs) := fun W hW => hz.keep hW
  have HO : Hid (n = o + 1 ∧ o ≤ 32) := ⟨hno, ho⟩
  have HAL : Hid ((c41L zs).length = n ∧ (List.replicate n (0 : Int)).length = n) := ⟨by rw [c41L_len]; exact hl, List.length_replicate⟩
  have HAT : Hid (∀ k, k < n → clampI (zs[k]?.getD 0) (-2199023255552) 2199023255552 = (c41L zs)[k]?.getD 0) := fun k hk => (c41L_at (by omega)).symm
  have hmk := fun W : World => run_make_row' (P := Try.prog) 23 2 (.int .i64 0) 8 Try.underlying23 info_int64 rfl .i64 .i64 n (by omega) (by omega) W
  have HM0 : Hid (NewRow 2 w.heap.size (w.alloc (.cells (madeCells #[.int .i64 0] n) 2)) (some ⟨w.heap.size, 0, none⟩) (List.replicate n 0) ∧ Below w.heap.size w (w.alloc (.cells (madeCells #[.int .i64 0] n) 2))) := ⟨NewRow.made w n, (Below.refl _ _).alloc (Nat.le_refl _) _⟩
  have hnI : (n : Int) ≤ 33 := by omega
  have hn0 : (0 : Int) < (n : Int) := by omega
  clear hz hl h0 hno ho
  generalize c41L zs = r1 at *
  generalize normL zs = rn at *
  generalize upN 40 r1 = ru at *
  generalize List.replicate n (0 : Int) = R at *
  go_enter Try.func24, Try.ntmps24
  go_wp2
  clear hmk
  go_loopw [4, 5, 14] (fun _ _ i W => ∃ m : Nat, m ≤ n ∧ i = .int .i64 m ∧ Hid (NewRow 2 w.heap.size W (some ⟨w.heap.size, 0, none⟩) (mixL r1 R m) ∧ Below w.heap.size w W)) (fun _ _ i _ => n - (intOf i).toNat)
  case atStart => exact ⟨0, Nat.zero_le _, rfl, HM0.out⟩
  case round =>
    clear HM0
    obtain ⟨m, hm, rfl, HH⟩ := hrel
    by_cases hmn : m < n
    · obtain ⟨b, off, rfl, hb0, hc⟩ := (HZ.out wr HH.out.2).at_ (by omega)
      have hcm := hc m hmn
      have hfm := HH.out.1.frozenAt (by rw [mixL_len HAL.out.1 HAL.out.2 hm]; omega) m
      obtain ⟨x, hx⟩ : ∃ x, wr.cell? ⟨w.heap.size, m, none⟩ = some x := ⟨_, HH.out.1.cellAt (by rw [mixL_len HAL.out.1 HAL.out.2 hm]; exact hmn)⟩
      have hv := HAT.out m hmn
      have HSET := HH.out.1.set m (r1[m]?.getD 0)
      rw [← mixL_step HAL.out.1 HAL.out.2 hmn] at HSET
      generalize r1[m]?.getD 0 = y at *
      generalize zs[m]?.getD 0 = u at *
      have HV : Hid (clampI u (-2199023255552) 2199023255552 = y) := hv
      have HN2 : Hid (NewRow 2 w.heap.size (wr.setCell ⟨w.heap.size, m, none⟩ (.int .i64 y)) (some ⟨w.heap.size, 0, none⟩) (mixL r1 R (m + 1)) ∧ Below w.heap.size w (wr.setCell ⟨w.heap.size, m, none⟩ (.int .i64 y))) := ⟨HSET, HH.out.2.setCell (p := ⟨w.heap.size, m, none⟩) (Nat.le_refl _) _⟩
      clear hc HSET hv HH
      go_wp2_with (go_at_call 29; refine (clamp_any _ _ _ _).mono ?_; rw [HV.out]; rintro e w' ⟨rfl, rfl⟩)
      go_roundw
      case rel => exact ⟨m + 1, by omega, by go_num, HN2⟩
      case measure => simp [intOf]; omega
    · obtain rfl : m = n := by omega
      have HS1 : Hid (NewRow 2 w.heap.size wr (some ⟨w.heap.size, 0, none⟩) r1 ∧ Below w.heap.size w wr) := by
        have h := HH.out
        rw [mixL_all HAL.out.1 HAL.out.2] at h
        exact h
      clear HH hmn
      obtain ⟨g, hg⟩ : ∃ g, w.heap.size = g := ⟨_, rfl⟩
      have HG : Hid (w.heap.size = g) := hg
      rw [hg]
      rw [hg] at HS1
      clear hg
      go_wp2
      go_loopg [] 40 (fun k W => ∃ cur, Hid (Ups ru o k cur ∧ NewRow 2 g W (some ⟨g, 0, none⟩) cur ∧ Below g w W))
      case atStart => exact ⟨r1, HST.out.1, HS1.out.1, HS1.out.2⟩
      case round =>
        clear HS1
        obtain ⟨cur, HC⟩ := hrel
        have hmo := HO.out
        have hlc := HC.out.1.1
        have hc0 : wr.cell? ⟨g, 0, none⟩ = some (.int .i64 (r0Z cur)) := HC.out.2.1.cellAt (by omega)
        obtain ⟨z, hz⟩ : ∃ z, r0Z cur = z := ⟨_, rfl⟩
        have HZ0 : Hid (r0Z cur = z) := hz
        rw [hz] at hc0
        clear hmo
        by_cases hs : z < 536870912
        · obtain ⟨j, rfl⟩ := HC.out.1.more (by rw [hz]; exact hs)
          have HN := HC.out.1.next (by rw [hz]; exact hs)
          have HNX : Hid (Ups ru o j (dblL cur)) := HN
          have HLC : Hid (cur.length = o + 1 ∧ (dblL cur).length = o + 1 ∧ Wide cur) := ⟨hlc, HN.1, HC.out.1.2.1⟩
          have HF : Hid (∀ i, i < o + 1 → (dblL cur)[i]?.getD 0 = clampI (cur[i]?.getD 0 * 2) (-1125899906842624) 1125899906842624) := fun i hi => dblL_at (by rw [hlc]; exact hi)
          clear HN hlc hz
          go_wp2
          go_loopw [6, 7, 31] (fun _ _ y W => ∃ q : Nat, q ≤ m ∧ y = .int .i64 q ∧ Hid (NewRow 2 g W (some ⟨g, 0, none⟩) (mixL (dblL cur) cur q) ∧ Below g w W)) (fun _ _ y _ => m - (intOf y).toNat)
          case atStart => exact ⟨0, Nat.zero_le _, rfl, HC.out.2.1, HC.out.2.2⟩
          case round =>
            clear HC hc0
            obtain ⟨q, hq, rfl, HM⟩ := hrel
            by_cases hqm : q < m
            · obtain ⟨hml, hme⟩ := mixL_cell (m := q) HLC.out.2.1 HLC.out.1 (by have := HO.out; omega)
              have hcm := HM.out.1.cellAt (i := q) (by have := HO.out; omega)
              have hfm := HM.out.1.frozenAt (by omega) q
              rw [hme] at hcm
              have HSET := HM.out.1.set q ((dblL cur)[q]?.getD 0)
              rw [← mixL_step HLC.out.2.1 HLC.out.1 (by have := HO.out; omega)] at HSET
              have hv := HF.out q (by have := HO.out; omega)
              have hwd := HLC.out.2.2 q
              generalize (dblL cur)[q]?.getD 0 = y at *
              generalize cur[q]?.getD 0 = u at *
              have HW : Hid (wrap64 (2 * u) = 2 * u) := i64_wrap (by omega) (by omega)
              have HV : Hid (clampI (2 * u) (-1125899906842624) 1125899906842624 = y) := by
                show _ = _
                rw [Int.mul_comm 2 u]
                exact hv.symm
              have HN2 : Hid (NewRow 2 g (wr.setCell ⟨g, q, none⟩ (.int .i64 y)) (some ⟨g, 0, none⟩) (mixL (dblL cur) cur (q + 1)) ∧ Below g w (wr.setCell ⟨g, q, none⟩ (.int .i64 y))) := ⟨HSET, HM.out.2.setCell (p := ⟨g, q, none⟩) (Nat.le_refl _) _⟩
              clear hml hme HSET hv hwd HM
              go_wp2_with (go_at_call 29; refine (clamp_any _ _ _ _).mono ?_; (try rw [HW.out]); rw [HV.out]; rintro e w' ⟨rfl, rfl⟩)
              go_roundw
              case rel => exact ⟨q + 1, by omega, by go_num, HN2⟩
              case measure => simp [intOf]; omega
            · have hmo : q = o + 1 := by have := HO.out; omega
              subst hmo
              have HD : Hid (NewRow 2 g wr (some ⟨g, 0, none⟩) (dblL cur) ∧ Below g w wr) := by
                have h := HM.out
                rw [mixL_all HLC.out.2.1 HLC.out.1] at h
                exact h
              clear HM
              go_wp2
              go_roundg j
              case measure => omega
              case rel => exact ⟨dblL cur, HNX.out, HD.out⟩
        · have HU : Hid (NewRow 2 g wr (some ⟨g, 0, none⟩) ru ∧ Below g w wr ∧ Dns rn o 40 ru) := by
            have h1 := HC.out
            have e : cur = ru := by
              have := h1.1.2.2.2.2
              rw [upN_stop (by rw [hz]; exact hs)] at this
              exact this
            rw [← e]
            have hwd := h1.1.2.1 0
            have hz2 : r0Z cur = cur[0]?.getD 0 := rfl
            refine ⟨h1.2.1, h1.2.2, h1.1.1, h1.1.2.1, by rw [hz]; omega, ?_, by rw [e]; exact HST.out.2⟩
            rw [show (2 : Int) ^ 40 = 1099511627776 from by decide]
            omega
          clear HC HST HZ0 hz
          go_wp2
          clear hs hc0
          go_loopg [] 40 (fun k W => ∃ cur, Hid (Dns rn o k cur ∧ NewRow 2 g W (some ⟨g, 0, none⟩) cur ∧ Below g w W))
          case atStart => exact ⟨ru, HU.out.2.2, HU.out.1, HU.out.2.1⟩
          case round =>
            clear HU
            obtain ⟨cur, HC⟩ := hrel
            have hlc := HC.out.1.1
            have hc0 : wr.cell? ⟨g, 0, none⟩ = some (.int .i64 (r0Z cur)) := HC.out.2.1.cellAt (by omega)
            obtain ⟨z, hz⟩ : ∃ z, r0Z cur = z := ⟨_, rfl⟩
            rw [hz] at hc0
            by_cases hs : z < 1073741824
            · have HU : Hid (NewRow 2 g wr (some ⟨g, 0, none⟩) rn ∧ Below g w wr ∧ rn.length = o + 1 ∧ Wide rn ∧ 536870912 ≤ r0Z rn ∧ r0Z rn < 1073741824) := by
                have h1 := HC.out
                have e : cur = rn := by
                  have := h1.1.2.2.2.2
                  rw [dnN_stop (by rw [hz]; exact hs)] at this
                  exact this
                rw [← e]
                exact ⟨h1.2.1, h1.2.2, h1.1.1, h1.1.2.1, h1.1.2.2.1, by rw [hz]; exact hs⟩
              clear HC hz hlc
              have hz2 : r0Z rn = z := by
                have h1 := HU.out.1.cellAt (i := 0) (by have := HU.out.2.2.1; omega)
                rw [hc0] at h1
                have h2 : some (Value.int .i64 z) = some (Value.int .i64 (r0Z rn)) := h1
                simp at h2
                exact h2.symm
              have hfz := HU.out.1.frozenAt (by have := HU.out.2.2.1; omega) 0
              have hzl : 536870912 ≤ z := by rw [← hz2]; exact HU.out.2.2.2.2.1
              obtain ⟨y, hy⟩ : ∃ y, z + z / 1024 + 1 = y := ⟨_, rfl⟩
              have HY : Hid (z + (z / 1024 + 1) = y) := by
                show _ = _
                omega
              have hrm : moreL rn = rn.set 0 y := by
                unfold moreL
                rw [hz2, hy]
              have HROW : Hid (NewRow 2 w.heap.size (wr.setCell ⟨g, 0, none⟩ (.int .i64 y)).drew (some ⟨g, 0, none⟩) (moreL rn) ∧ Below w.heap.size w (wr.setCell ⟨g, 0, none⟩ (.int .i64 y)).drew) := by
                rw [hrm, HG.out]
                exact ⟨(HU.out.1.set 0 y).drew, (HU.out.2.1.setCell (p := ⟨g, 0, none⟩) (Nat.le_refl _) _).drew⟩
              clear hrm hy hz2 HU
              go_wp2
              go_region
              rw [HY.out]
              go_wp2
              go_ret
              exact ⟨_, rfl, HROW.out⟩
            · obtain ⟨j, rfl⟩ := HC.out.1.more (by rw [hz]; exact hs)
              have HN := HC.out.1.next (by rw [hz]; exact hs)
              have HNX : Hid (Dns rn o j (hlfL cur)) := HN
              have HLC : Hid (cur.length = o + 1 ∧ (hlfL cur).length = o + 1 ∧ Wide cur) := ⟨hlc, HN.1, HC.out.1.2.1⟩
              have HF : Hid (∀ i, i < o + 1 → (hlfL cur)[i]?.getD 0 = cur[i]?.getD 0 / 2) := fun i _ => hlfL_at cur i
              clear HN hlc hz
              go_wp2
              go_loopw [8, 49] (fun _ y W => ∃ q : Nat, q ≤ m ∧ y = .int .i64 q ∧ Hid (NewRow 2 g W (some ⟨g, 0, none⟩) (mixL (hlfL cur) cur q) ∧ Below g w W)) (fun _ y _ => m - (intOf y).toNat)
              case atStart => exact ⟨0, Nat.zero_le _, rfl, HC.out.2.1, HC.out.2.2⟩
              case round =>
                clear HC hc0
                obtain ⟨q, hq, rfl, HM⟩ := hrel
                by_cases hqm : q < m
                · obtain ⟨hml, hme⟩ := mixL_cell (m := q) HLC.out.2.1 HLC.out.1 (by have := HO.out; omega)
                  have hcm := HM.out.1.cellAt (i := q) (by have := HO.out; omega)
                  have hfm := HM.out.1.frozenAt (by omega) q
                  rw [hme] at hcm
                  have HSET := HM.out.1.set q ((hlfL cur)[q]?.getD 0)
                  rw [← mixL_step HLC.out.2.1 HLC.out.1 (by have := HO.out; omega)] at HSET
                  have hv := HF.out q (by have := HO.out; omega)
                  rw [hv] at HSET
                  generalize cur[q]?.getD 0 = u at *
                  have HN2 : Hid (NewRow 2 g (wr.setCell ⟨g, q, none⟩ (.int .i64 (u / 2))) (some ⟨g, 0, none⟩) (mixL (hlfL cur) cur (q + 1)) ∧ Below g w (wr.setCell ⟨g, q, none⟩ (.int .i64 (u / 2)))) := ⟨HSET, HM.out.2.setCell (p := ⟨g, q, none⟩) (Nat.le_refl _) _⟩
                  clear hml hme HSET hv HM
                  go_wp2
                  go_roundw
                  case rel => exact ⟨q + 1, by omega, by go_num, HN2⟩
                  case measure => simp [intOf]; omega
                · have hmo : q = o + 1 := by have := HO.out; omega
                  subst hmo
                  have HD : Hid (NewRow 2 g wr (some ⟨g, 0, none⟩) (hlfL cur) ∧ Below g w wr) := by
                    have h := HM.out
                    rw [mixL_all HLC.out.2.1 HLC.out.1] at h
                    exact h
                  clear HM
                  go_wp2
                  go_roundg j
                  case measure => omega
                  case rel => exact ⟨hlfL cur, HNX.out, HD.out⟩

end Lev
end Go.Proofs.Ytjaccokmficfdaa
