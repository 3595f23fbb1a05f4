/- Does a filter die away: what package lpc's call comes to; a filter fitted. -/
import Derived.Test.YtefecpidccpimaaLpcC
namespace Go.Proofs.Ytefecpidccpimaa
open Go.RowKit

def wide32 (zs : List Int) : List Int := wideL zs ++ List.replicate (32 - zs.length) 0
theorem wide32_len {zs : List Int} (h : zs.length ≤ 32) : (wide32 zs).length = 32 := by
  unfold wide32
  rw [List.length_append, wideL_len, List.length_replicate]
  omega
theorem wide32_at {zs : List Int} {k : Nat} (h : k < zs.length) : (wide32 zs)[k]?.getD 0 = (wideL zs)[k]?.getD 0 := by
  unfold wide32
  rw [List.getElem?_append_left (by rw [wideL_len]; exact h)]
theorem wideL_at {zs : List Int} {k : Nat} (h : k < zs.length) : (wideL zs)[k]?.getD 0 = c17 (zs[k]?.getD 0) * 4096 := by
  unfold wideL
  rw [List.getElem?_map, List.getElem?_eq_getElem h]
  rfl
theorem wide32_mix {zs : List Int} : mixL (wide32 zs) zero32 zs.length = wide32 zs := by
  unfold mixL wide32 zero32
  rw [List.take_left' (wideL_len zs), List.drop_replicate]

theorem cstable_far (a : Option Addr) (n cap : Nat) (w : World) (hn : 32 < n) :
    Calls Try.prog 11 #[.slice a n cap] w fun e w' => e = .returned (.bool false) ∧ w' = w := by
  have hn' : ((32 : Int) < n) = True := eq_true (by omega)
  go_enter Try.func11, Try.ntmps11
  go_wp2
  go_ret
  exact ⟨rfl, rfl⟩

set_option maxRecDepth 100000 in
set_option maxHeartbeats 4000000 in
theorem cstable_any (a : Option Addr) (n cap : Nat) (zs : List Int) (w : World) (hz : Zs w a n zs) (hn : n ≤ 32) :
    Calls Try.prog 11 #[.slice a n cap] w fun e w' => e = .returned (.bool (stableZ zs)) ∧ Below w.heap.size w w' := by
  have hl := hz.len
  have HZ : Hid (∀ W, Below w.heap.size w W → Zs W a n zs) := fun W hb => hz.keep hb
  have HL : Hid ((wide32 zs).length = 32) := wide32_len (by omega)
  have HX : Hid (mixL (wide32 zs) zero32 n = wide32 zs) := by show _ = _; rw [← hl]; exact wide32_mix
  have HV : Hid (∀ j, j < n → c17 (zs[j]?.getD 0) * 4096 = (wide32 zs)[j]?.getD 0) := fun j hj => by rw [wide32_at (by omega), wideL_at (by omega)]
  have HI : Hid (∀ j, j < n → -2147483648 ≤ (wide32 zs)[j]?.getD 0 ∧ (wide32 zs)[j]?.getD 0 ≤ 2147483648) := fun j hj => by
    rw [wide32_at (by omega), wideL_at (by omega)]
    have := c17_in (zs[j]?.getD 0)
    omega
  have HS : Hid (stableZ zs = stableN n (wide32 zs)) := by
    show _ = _
    rw [stableZ_near (by omega), hl]
    exact stableN_congr n fun k hk => (wide32_at (by omega)).symm
  have HA0 : Hid (ArrAt (w.alloc (.cells (arrV zero32) 39)) w.heap.size zero32) := arrAt_alloc w zero32 _
  have HB0 : Hid (Below w.heap.size w (w.alloc (.cells (arrV zero32) 39))) := (Below.refl _ _).alloc (Nat.le_refl _) _
  clear hz hl
  have hn' : ((32 : Int) < n) = False := eq_false (by omega)
  generalize hsv : stableZ zs = sv at *
  clear hsv
  generalize wide32 zs = L at *
  go_enter Try.func11, Try.ntmps11
  go_wp2
  rw [← zero32_arr]
  go_loopw [4, 5, 12] (fun _ _ k W => ∃ m : Nat, m ≤ n ∧ k = .int .i64 m ∧ Hid (ArrAt W w.heap.size (mixL L zero32 m) ∧ Below w.heap.size w W)) (fun _ _ k _ => n - (intOf k).toNat)
  case atStart => exact ⟨0, Nat.zero_le _, rfl, HA0.out, HB0.out⟩
  case round =>
    clear HA0 HB0
    obtain ⟨m, hm, rfl, HW⟩ := hrel
    by_cases hlt : m < n
    · obtain ⟨b, off, rfl, hb, hc⟩ := (HZ.out wr HW.out.2).at_ (by omega)
      have hlen := mixL_len HL.out (show zero32.length = 32 from rfl) (show m ≤ 32 by omega)
      have hcm := hc m hlt
      have hf := HW.out.1.frozen m
      have ho := HW.out.1.cell (i := m) (by omega)
      have hst := mixL_step HL.out (show zero32.length = 32 from rfl) (show m < 32 by omega)
      have hv := HV.out m hlt
      have hin := c17_in (zs[m]?.getD 0)
      generalize (mixL L zero32 m)[m]?.getD 0 = old at *
      generalize zs[m]?.getD 0 = z at *
      generalize L[m]?.getD 0 = v at *
      have hn1 : (0 : Int) ≤ (m : Int) := by omega
      have hn2 : (m : Int) < 32 := by omega
      have HC : Hid (∀ W, Calls Try.prog 26 #[.int .i64 z] W fun e w' => e = .returned (.int .i64 (c17 z)) ∧ w' = W) := fun W => clampNumber_any z W
      obtain rfl : v = 4096 * c17 z := by omega
      generalize c17 z = cz at *
      have HN : Hid (ArrAt (wr.setCell ⟨w.heap.size, m, none⟩ (.int .i64 (4096 * cz))) w.heap.size (mixL L zero32 (m + 1)) ∧ Below w.heap.size w (wr.setCell ⟨w.heap.size, m, none⟩ (.int .i64 (4096 * cz)))) :=
        ⟨by rw [hst]; exact HW.out.1.set m _, HW.out.2.setCell (p := ⟨w.heap.size, m, none⟩) (Nat.le_refl _) _⟩
      clear hc hst hlen hv HV HI HS HZ HW HX HL
      go_wp2_with (go_at_call 26; refine (HC.out _).mono ?_; rintro e w' ⟨rfl, rfl⟩)
      go_roundw
      case rel => exact ⟨m + 1, by omega, by go_num, HN.out⟩
      case measure => simp [intOf]; omega
    · have hm' : m = n := by omega
      subst hm'
      rw [HX.out] at HW
      clear HX HV HZ
      go_wp2
      go_loopw [6] (fun k W => ∃ t : Nat, ∃ b : List Int, t ≤ m ∧ k = .int .i64 ((t : Int) - 1) ∧ Hid (ArrAt W w.heap.size b ∧ b.length = 32 ∧ stableN t b = sv ∧ (∀ j, j < t → -2147483648 ≤ b[j]?.getD 0 ∧ b[j]?.getD 0 ≤ 2147483648) ∧ Below w.heap.size w W)) (fun k _ => (intOf k + 1).toNat)
      case atStart => exact ⟨m, L, Nat.le_refl _, rfl, HW.out.1, HL.out, HS.out.symm, HI.out, HW.out.2⟩
      case round =>
        clear HW HL HS HI
        obtain ⟨t, b, ht, rfl, HH⟩ := hrel
        cases t with
        | zero =>
          have e : sv = true := HH.out.2.2.1.symm
          have HB : Hid (Below w.heap.size w wr) := HH.out.2.2.2.2
          subst e
          clear HH
          go_wp2
          go_ret
          exact ⟨rfl, HB.out⟩
        | succ t =>
          have hk : ((t + 1 : Nat) : Int) - 1 = (t : Int) := by omega
          have hlen := HH.out.2.1
          have hct := HH.out.1.cell (i := t) (by omega)
          have hst := HH.out.2.2.1
          have hin := HH.out.2.2.2.1
          have ht1 : (0 : Int) ≤ (t : Int) := by omega
          have ht2 : (t : Int) < 32 := by omega
          have HB : Hid (Below w.heap.size w wr) := HH.out.2.2.2.2
          by_cases h1 : 16760438 < b[t]?.getD 0
          · rw [stableN_bad (.inl h1)] at hst
            subst hst
            generalize b[t]?.getD 0 = r at *
            clear HH hin
            go_wp2
            go_ret
            exact ⟨rfl, HB.out⟩
          · by_cases h2 : b[t]?.getD 0 < -16760438
            · rw [stableN_bad (.inr h2)] at hst
              subst hst
              generalize b[t]?.getD 0 = r at *
              clear HH hin
              go_wp2
              go_ret
              exact ⟨rfl, HB.out⟩
            · rw [stableN_step (by omega)] at hst
              have HL2 := lessL_len (m := t) hlen (by omega)
              have HC : Hid (Calls Try.prog 27 #[.agg (arrV b), .int .i64 (t : Int)] wr fun e w' => e = .returned (.agg (arrV (lessL b t))) ∧ Below wr.heap.size wr w') :=
                less_any b t wr hlen (by omega) (by omega) (fun k hk' => hin k (by omega))
              have HN : Hid (∀ W, Below wr.heap.size wr W → ArrAt (W.setRow w.heap.size (arrV (lessL b t))) w.heap.size (lessL b t) ∧ (lessL b t).length = 32 ∧ stableN t (lessL b t) = sv ∧ (∀ j, j < t → -2147483648 ≤ (lessL b t)[j]?.getD 0 ∧ (lessL b t)[j]?.getD 0 ≤ 2147483648) ∧ Below w.heap.size w (W.setRow w.heap.size (arrV (lessL b t)))) := fun W hW =>
                ⟨(HH.out.1.keep hW).row _, HL2, by rw [← hst]; exact stableN_congr t (fun k hk' => lessL_down hk'), fun j hj => by rw [lessL_at hj]; exact downAt_in b t j,
                  below_setRow (HB.out.trans (hW.mono HB.out.size)) (Nat.le_refl _) _⟩
              have HA := HH.out.1
              have HK : Hid (∀ W, Below wr.heap.size wr W → ArrAt W w.heap.size b) := fun W hW => HA.keep hW
              obtain ⟨t1, h3⟩ := HA
              generalize b[t]?.getD 0 = r at *
              clear HH hin hst
              go_wp2_with (first
                | (refine wpList_load_row rfl 39 _ rfl w.heap.size rfl t1 (arrV b) (0, 0) _ h3 Try.underlying39 rfl (by rw [arrV_size, hlen]; exact info_arr) ?_)
                | (go_at_call 27; refine HC.out.mono ?_; rintro e w4 ⟨rfl, hb4⟩; obtain ⟨t4, h4⟩ := HK.out _ hb4)
                | (refine wpList_store_row rfl 39 _ _ rfl w.heap.size (arrV (lessL b t)) rfl rfl t4 _ h4 (by rw [arrV_size, HL2]; exact info_arr) (by rw [arrV_size, arrV_size, HL2, hlen]) (arrV_one _) ?_))
              go_roundw
              case rel => exact ⟨t, _, by omega, by go_num, HN.out _ hb4⟩
              case measure => simp [intOf]

end Go.Proofs.Ytefecpidccpimaa
