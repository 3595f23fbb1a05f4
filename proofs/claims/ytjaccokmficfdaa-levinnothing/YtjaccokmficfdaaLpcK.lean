/- Does a filter die away: what the document's own call comes to. -/
import Derived.Test.YtjaccokmficfdaaLpcI
import Derived.Test.YtjaccokmficfdaaMA
namespace Go.Proofs.Ytjaccokmficfdaa
open Go.RowKit

theorem NewRow.setFar {e : TypeId} {B : Nat} {w : World} {a : Option Addr} {zs : List Int} (h : NewRow e B w a zs) (h0 : 0 < zs.length) {g i : Nat} (hg : g < B) (v : Value) : NewRow e B (w.setCell ⟨g, i, .none⟩ v) a zs := by
  refine h.setOther (fun b e => ?_) v
  subst e
  have := (h.ge h0).1
  show b ≠ g
  omega
theorem clB_c17 (zs : List Int) : clB (-131072) 131072 zs = zs.map c17 := rfl

theorem rstable_far (a : Option Addr) (n cap : Nat) (w : World) (hn : 32 < n) :
    Calls Try.prog 49 #[.slice a n cap] w fun e w' => e = .returned (.bool false) ∧ w' = w := by
  have hn' : ((32 : Int) < n) = True := eq_true (by omega)
  go_enter Try.func49, Try.ntmps49
  go_wp2
  go_ret
  exact ⟨rfl, rfl⟩

set_option maxRecDepth 100000 in
set_option maxHeartbeats 8000000 in
theorem rstable_any (a : Option Addr) (n cap : Nat) (zs : List Int) (w : World) (hz : Zs w a n zs) (hn : n ≤ 32) :
    Calls Try.prog 49 #[.slice a n cap] w fun e w' => e = .returned (.bool (stableZ zs)) ∧ Below w.heap.size w w' := by
  have hl := hz.len
  have hn' : ((32 : Int) < n) = False := eq_false (by omega)
  have HC : Hid (Calls Try.prog 30 #[.slice a n cap, .int .i64 (-131072), .int .i64 131072] w fun e w' => ∃ a' c', e = .returned (.slice a' n c') ∧ NewRow 2 w.heap.size w' a' (zs.map c17) ∧ Below w.heap.size w w') := rclamped_all (-131072) 131072 a n cap zs w hz (by omega)
  have HL1 : Hid ((zs.map c17).length = n) := by show _ = _; rw [List.length_map, hl]
  have HL2 : Hid ((wideL zs).length = n) := by show _ = _; rw [wideL_len, hl]
  have HV : Hid (∀ j, j < n → (zs.map c17)[j]?.getD 0 * 4096 = (wideL zs)[j]?.getD 0 ∧ -131072 ≤ (zs.map c17)[j]?.getD 0 ∧ (zs.map c17)[j]?.getD 0 ≤ 131072) := fun j hj => by
    rw [c17_at (by omega), wideL_at (by omega)]
    exact ⟨rfl, c17_in _⟩
  have HI : Hid (∀ j, j < n → -2147483648 ≤ (wideL zs)[j]?.getD 0 ∧ (wideL zs)[j]?.getD 0 ≤ 2147483648) := fun j hj => by
    have := wideL_in zs _ (mem_at (l := wideL zs) (k := j) (by rw [wideL_len, hl]; exact hj))
    omega
  have HS : Hid (stableZ zs = stableN n (wideL zs)) := by show _ = _; rw [stableZ_near (by omega), hl]
  clear hz hl
  generalize hsv : stableZ zs = sv at *
  clear hsv
  generalize wideL zs = L at *
  generalize zs.map c17 = l0 at *
  go_enter Try.func49, Try.ntmps49
  go_wp2_with (go_at_call 30; refine HC.out.mono ?_; rintro e w1 ⟨a1, c1, rfl, hn1, hb1⟩)
  have HN1 : Hid (NewRow 2 w.heap.size w1 a1 l0 ∧ Below w.heap.size w w1) := ⟨hn1, hb1⟩
  clear hn1 hb1 HC
  go_loopw [4] (fun k W => ∃ m : Nat, m ≤ n ∧ k = .int .i64 m ∧ Hid (NewRow 2 w.heap.size W a1 (mixL L l0 m) ∧ Below w.heap.size w W)) (fun k _ => n - (intOf k).toNat)
  case atStart => exact ⟨0, Nat.zero_le _, rfl, HN1.out⟩
  case round =>
    clear HN1
    obtain ⟨m, hm, rfl, HW⟩ := hrel
    have hlen := mixL_len HL2.out HL1.out hm
    by_cases hlt : m < n
    · have hlt' : ((m : Int) < (n : Int)) = True := eq_true (by omega)
      obtain ⟨g, rfl, hg1, hg2⟩ := HW.out.1.some_of (by omega)
      have hcm := HW.out.1.cellAt (i := m) (by omega)
      have hfm := HW.out.1.frozenAt (by omega) m
      rw [mixL_at HL2.out HL1.out hlt] at hcm
      have hst := mixL_step HL2.out HL1.out hlt
      obtain ⟨hv, hv1, hv2⟩ := HV.out m hlt
      generalize l0[m]?.getD 0 = z at *
      generalize L[m]?.getD 0 = v at *
      subst hv
      have hm0 : (0 : Int) ≤ (m : Int) := by omega
      have HX : Hid (NewRow 2 w.heap.size (wr.setCell ⟨g, m, none⟩ (.int .i64 (z * 4096))) (some ⟨g, 0, none⟩) (mixL L l0 (m + 1)) ∧ Below w.heap.size w (wr.setCell ⟨g, m, none⟩ (.int .i64 (z * 4096)))) :=
        ⟨by rw [hst]; exact HW.out.1.set m _, HW.out.2.setCell (p := ⟨g, m, none⟩) hg1 _⟩
      have HM : Hid (n - (m + 1) < n - m) := by show _ < _; omega
      clear hst HV HI HS HW hlen
      go_wp2
      go_roundw
      case rel => exact ⟨m + 1, by omega, by go_num, HX.out⟩
      case measure => simp [intOf]; exact HM.out
    · have hlt' : ((m : Int) < (n : Int)) = False := eq_false (by omega)
      have hm' : m = n := by omega
      subst hm'
      rw [mixL_all HL2.out HL1.out] at HW
      have HS0 : Hid (∃ t : Nat, ∃ b : List Int, t ≤ m ∧ (m : Int) - 1 = (t : Int) - 1 ∧ NewRow 2 w.heap.size wr a1 b ∧ b.length = m ∧ stableN t b = sv ∧ (∀ j, j < t → -2147483648 ≤ b[j]?.getD 0 ∧ b[j]?.getD 0 ≤ 2147483648) ∧ Below w.heap.size w wr) := ⟨m, L, Nat.le_refl _, rfl, HW.out.1, HL2.out, HS.out.symm, HI.out, HW.out.2⟩
      have hw0 : IntKind.i64.wrap ((m : Int) - 1) = (m : Int) - 1 := by rw [IntKind.wrap_i64]; omega
      clear HV HI HS HW HL1 HL2 hlen
      go_wp2
      go_loopw [5, 6, 7, 8, 9, 10] (fun k _ _ _ _ _ W => ∃ t : Nat, ∃ b : List Int, t ≤ m ∧ k = .int .i64 ((t : Int) - 1) ∧ Hid (NewRow 2 w.heap.size W a1 b ∧ b.length = m ∧ stableN t b = sv ∧ (∀ j, j < t → -2147483648 ≤ b[j]?.getD 0 ∧ b[j]?.getD 0 ≤ 2147483648) ∧ Below w.heap.size w W)) (fun k _ _ _ _ _ _ => (intOf k + 1).toNat)
      case atStart =>
        obtain ⟨t, b, h1, h2, h3⟩ := HS0.out
        exact ⟨t, b, h1, by rw [h2], h3⟩
      case round =>
        clear HS0 hw0
        obtain ⟨t, b, ht, rfl, HH⟩ := hrel
        cases t with
        | zero =>
          have e : sv = true := HH.out.2.2.1.symm
          have HB : Hid (Below w.heap.size w wr) := HH.out.2.2.2.2
          subst e
          clear HH
          go_wp2
          go_ret
          exact ⟨rfl, HB.out⟩
        | succ t =>
          have hk : ((t + 1 : Nat) : Int) - 1 = (t : Int) := by omega
          have hbl := HH.out.2.1
          obtain ⟨g, rfl, hg1, hg2⟩ := HH.out.1.some_of (by omega)
          have hct := HH.out.1.cellAt (i := t) (by omega)
          have hst := HH.out.2.2.1
          have hin := HH.out.2.2.2.1
          have ht1 : (0 : Int) ≤ (t : Int) := by omega
          have ht2 : (t : Int) < (m : Int) := by omega
          have HB : Hid (Below w.heap.size w wr) := HH.out.2.2.2.2
          by_cases h1 : 16760438 < b[t]?.getD 0
          · rw [stableN_bad (.inl h1)] at hst
            subst hst
            generalize b[t]?.getD 0 = r at *
            clear HH hin
            go_wp2
            go_ret
            exact ⟨rfl, HB.out⟩
          · by_cases h2 : b[t]?.getD 0 < -16760438
            · rw [stableN_bad (.inr h2)] at hst
              subst hst
              generalize b[t]?.getD 0 = r at *
              clear HH hin
              go_wp2
              go_ret
              exact ⟨rfl, HB.out⟩
            · rw [stableN_step (by omega)] at hst
              have HL3 : Hid ((lessL b t).length = m) := by
                show _ = _
                unfold lessL
                rw [List.length_append, downL_len, List.length_drop]
                omega
              have HBL : Hid (b.length = m) := hbl
              have HT : Hid (t < m ∧ m ≤ 32) := ⟨by omega, hn⟩
              have HD : Hid (∀ j, j < t → clampI (divI (b[j]?.getD 0 + mulI (b[t]?.getD 0) (b[t - 1 - j]?.getD 0) 24) (16777216 - mulI (b[t]?.getD 0) (b[t]?.getD 0) 24) 24) (-2147483648) 2147483648 = (lessL b t)[j]?.getD 0) := fun j hj => by rw [lessL_at hj]; rfl
              have HE : Hid (stableN t (lessL b t) = sv ∧ ∀ j, j < t → -2147483648 ≤ (lessL b t)[j]?.getD 0 ∧ (lessL b t)[j]?.getD 0 ≤ 2147483648) :=
                ⟨by rw [← hst]; exact stableN_congr t (fun k hk' => lessL_down hk'), fun j hj => by rw [lessL_at hj]; exact downAt_in b t j⟩
              have HIN : Hid (∀ j, j < t → -2147483648 ≤ b[j]?.getD 0 ∧ b[j]?.getD 0 ≤ 2147483648) := fun j hj => hin j (by omega)
              have HMX : Hid (mixL (lessL b t) b t = lessL b t) := lessL_mix
              obtain ⟨hd1, hd2⟩ := lead_in (r := b[t]?.getD 0) (by omega)
              have HROW : Hid (NewRow 2 w.heap.size wr (some ⟨g, 0, none⟩) b) := HH.out.1
              have HZB : Hid (Zs wr (some ⟨g, 0, none⟩) m b) := Zs.of_new HH.out.1 hbl
              generalize b[t]?.getD 0 = r at *
              generalize hrr : mulI r r 24 = rr at *
              have HRE : Hid (mulI r r 24 = rr) := hrr
              have HRR : Hid (∀ W, Calls Try.prog 33 #[.int .i64 r, .int .i64 r, .int .i64 24] W fun e w' => e = .returned (.int .i64 rr) ∧ w' = W) := fun W => by rw [← hrr]; exact rmul_any _ _ _ _
              have hm8 : m * 8 ≤ 140737488355328 := by omega
              have hsz1 := HB.out.size
              clear hrr HH hin hst hbl
              go_wp2_with (first
                | (go_at_call 33; refine (HRR.out _).mono ?_; rintro e wr ⟨rfl, rfl⟩)
                | (at_builtin; refine wpList_append_copy 23 2 Try.underlying23 info_int64 _ m _ b HBL.out hm8 (fun h => zs_adds HZB.out h) rfl _ _ rfl rfl rfl ?_; intro a8 c8 w8 hn8 hb8))
              obtain ⟨B8, hB8⟩ : ∃ B8, B8 = wr.heap.size := ⟨_, rfl⟩
              have HS1 : Hid (NewRow 2 w.heap.size w8 (some ⟨g, 0, none⟩) (mixL (lessL b t) b 0) ∧ NewRow 2 B8 w8 a8 b ∧ Below w.heap.size w w8) :=
                ⟨HROW.out.keep hb8, by rw [hB8]; exact hn8, HB.out.trans (hb8.mono hsz1)⟩
              have HGB : Hid (g < B8 ∧ w.heap.size ≤ g) := by show _ ∧ _; omega
              clear hn8 hb8 HROW HZB hB8 HB hsz1 hg1 hg2 hct h1 h2 HRR
              go_loopw [9, 10] (fun k _ W => ∃ j : Nat, j ≤ t ∧ k = .int .i64 j ∧ Hid (NewRow 2 w.heap.size W (some ⟨g, 0, none⟩) (mixL (lessL b t) b j) ∧ NewRow 2 B8 W a8 b ∧ Below w.heap.size w W)) (fun k _ _ => t - (intOf k).toNat)
              case atStart => exact ⟨0, Nat.zero_le _, rfl, HS1.out⟩
              case round =>
                clear HS1
                obtain ⟨j, hj, rfl, HW⟩ := hrel
                have hlen := mixL_len HL3.out HBL.out (show j ≤ m by have := HT.out; omega)
                have htm := HT.out.1
                have htm2 := HT.out.2
                by_cases hjt : j < t
                · have hjt' : ((j : Int) < (t : Int)) = True := eq_true (by omega)
                  obtain ⟨i, hi⟩ : ∃ i : Nat, i = t - 1 - j := ⟨_, rfl⟩
                  have hA := HW.out.1.cellAt (i := j) (by omega)
                  rw [mixL_at HL3.out HBL.out (by omega)] at hA
                  have hF := HW.out.1.frozenAt (by omega) j
                  obtain ⟨g8, rfl, hg8, hg9⟩ := HW.out.2.1.some_of (by rw [HBL.out]; omega)
                  have hx := HW.out.2.1.cellAt (i := j) (by rw [HBL.out]; omega)
                  have hy := HW.out.2.1.cellAt (i := i) (by rw [HBL.out]; omega)
                  have h1 := HIN.out j hjt
                  have h2 := HIN.out i (by omega)
                  have h3 := HD.out j hjt
                  rw [← hi] at h3
                  have hst := mixL_step HL3.out HBL.out (show j < m by omega)
                  have h4 := mul24_in r (b[i]?.getD 0)
                  generalize b[j]?.getD 0 = x at *
                  generalize b[i]?.getD 0 = y at *
                  generalize (lessL b t)[j]?.getD 0 = v at *
                  generalize hp0 : mulI r y 24 = p at *
                  have HV : Hid (clampI (divI (x + p) (16777216 - rr) 24) (-2147483648) 2147483648 = v) := h3
                  have HMU : Hid (∀ W, Calls Try.prog 33 #[.int .i64 r, .int .i64 y, .int .i64 24] W fun e w' => e = .returned (.int .i64 p) ∧ w' = W) := fun W => by rw [← hp0]; exact rmul_any _ _ _ _
                  have hlb : 0 < b.length := by rw [HBL.out]; omega
                  have HX : Hid (∀ d, NewRow 2 w.heap.size ((wr.drewN d).setCell ⟨g, j, none⟩ (.int .i64 v)) (some ⟨g, 0, none⟩) (mixL (lessL b t) b (j + 1)) ∧ NewRow 2 B8 ((wr.drewN d).setCell ⟨g, j, none⟩ (.int .i64 v)) (some ⟨g8, 0, none⟩) b ∧ Below w.heap.size w ((wr.drewN d).setCell ⟨g, j, none⟩ (.int .i64 v))) := fun d =>
                    ⟨by rw [hst]; exact (HW.out.1.drewN d).set j v, (HW.out.2.1.drewN d).setFar hlb HGB.out.1 _, (below_drewN HW.out.2.2 d).setCell (p := ⟨g, j, none⟩) HGB.out.2 _⟩
                  have hw1 : IntKind.i64.wrap ((t : Int) - 1) = (t : Int) - 1 := by rw [IntKind.wrap_i64]; omega
                  have hw2 : IntKind.i64.wrap ((t : Int) - 1 - (j : Int)) = (i : Int) := by rw [IntKind.wrap_i64]; omega
                  have hw3 : IntKind.i64.wrap (x + p) = x + p := by rw [IntKind.wrap_i64]; omega
                  have hk0 : (0 : Int) ≤ (j : Int) := by omega
                  have hk1 : (j : Int) < (m : Int) := by omega
                  have hi0 : (0 : Int) ≤ (i : Int) := by omega
                  have hi1 : (i : Int) < (m : Int) := by omega
                  have HM : Hid (t - (j + 1) < t - j) := by show _ < _; omega
                  clear h3 hst hlen HW hp0 hi HD HIN h1 h2 h4 htm htm2
                  go_wp2
                  go_quiet (first | (go_at_call 33; exact Calls.quiet_of_same (HMU.out _)))
                  go_wp2_with (first
                    | (go_at_call 34; refine (rdiv_any _ _ _ _).mono ?_; rintro e _ ⟨rfl, rfl⟩)
                    | (go_at_call 31; refine (rclamp_any _ _ _ _).mono ?_; rw [HV.out]; rintro e _ ⟨rfl, rfl⟩))
                  go_roundw
                  case rel => exact ⟨j + 1, by omega, by go_num, HX.out _⟩
                  case measure => simp [intOf]; exact HM.out
                · have hjt' : ((j : Int) < (t : Int)) = False := eq_false (by omega)
                  have hj' : j = t := by omega
                  subst hj'
                  rw [HMX.out] at HW
                  have HR2 : Hid (NewRow 2 w.heap.size wr (some ⟨g, 0, none⟩) (lessL b j) ∧ Below w.heap.size w wr) := ⟨HW.out.1, HW.out.2.2⟩
                  clear HW HD HIN hlen htm htm2
                  go_wp2
                  go_roundw
                  case rel => exact ⟨j, lessL b j, by omega, by go_num, HR2.out.1, HL3.out, HE.out.1, HE.out.2, HR2.out.2⟩
                  case measure => simp [intOf]

end Go.Proofs.Ytjaccokmficfdaa
