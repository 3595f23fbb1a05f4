/- Frequencies become a filter: the document's own call. -/
import Derived.Test.YtjaccokmficfdaaLpcS
import Derived.Test.YtjaccokmficfdaaTwo
namespace Go.Proofs.Ytjaccokmficfdaa
open Go.RowKit

set_option maxRecDepth 100000 in
set_option maxHeartbeats 8000000 in
theorem rfrom_any (a : Option Addr) (n cap h : Nat) (zs : List Int) (w : World) (hz : Zs w a n zs) (hn : n = 10 ∧ h = 5 ∨ n = 16 ∧ h = 8) :
    Calls Try.prog 38 #[.slice a n cap] w fun e w' => ∃ a' c', e = .returned (.slice a' n c') ∧ NewRow 2 w.heap.size w' a' (fromZ zs) ∧ Below w.heap.size w w' := by
  have hl := hz.len
  have hn2 : n = 2 * h := by omega
  have hh : 1 ≤ h ∧ h ≤ 8 := by omega
  have HF : Hid (fromZ zs = fitZ (fromP (polyZ (wavesL zs 0)) (polyZ (wavesL zs 1)) n)) := by show _ = _; rw [← hl]; rfl
  have HPL : Hid (∀ f, (wavesL zs f).length = h) := fun f => by rw [wavesL_len]; omega
  have HPI : Hid (∀ f, ∀ x ∈ wavesL zs f, -262148 ≤ x ∧ x ≤ 262148) := fun f => wavesL_in zs f
  have H5 : Hid (∀ P Q : List Int, ∀ k, k < h → (fromP P Q n)[k]?.getD 0 = lowZ P Q k ∧ (fromP P Q n)[n - 1 - k]?.getD 0 = highZ P Q k) := fun P Q k hk => ⟨fromP_low hn2 hk, fromP_high hn2 hk⟩
  have HFL : Hid (∀ P Q : List Int, (fromP P Q n).length = n) := fun P Q => fromP_len P Q n
  have HB8 : Hid (∀ f i : Nat, -251871798400 ≤ (polyZ (wavesL zs f))[i]?.getD 0 ∧ (polyZ (wavesL zs f))[i]?.getD 0 ≤ 251871798400) := fun f i => polyZ_in (by rw [HPL.out f]; omega) (by rw [HPL.out f]; omega) (HPI.out f) i
  have HZL : Hid (∀ f, (polyZ (wavesL zs f)).length = h + 1) := fun f => by rw [polyZ_len (by rw [HPL.out f]; omega), HPL.out f]
  have HMK := fun W : World => run_make_row' (P := Try.prog) 23 2 (.int .i64 0) 8 Try.underlying23 info_int64 rfl .i64 .i64 n (by omega) (by omega) W
  have HC : Hid (Calls Try.prog 30 #[.slice a n cap, .int .i64 0, .int .i64 32768] w fun e w' => ∃ a' c', e = .returned (.slice a' n c') ∧ NewRow 2 w.heap.size w' a' (clB 0 32768 zs) ∧ Below w.heap.size w w') := rclamped_all 0 32768 a n cap zs w hz (by omega)
  have HCL : Hid ((clB 0 32768 zs).length = n) := by show _ = _; rw [clB_len, hl]
  have HWV : Hid (∀ f j, j < h → 2 * j + f < n → 4 * cosI ((clB 0 32768 zs)[2 * j + f]?.getD 0) = (wavesL zs f)[j]?.getD 0) := fun f j hj hjf => by rw [wavesL_at (by omega), clB_at (by omega)]
  have HN : Hid (n = 2 * h ∧ 1 ≤ h ∧ h ≤ 8) := ⟨hn2, hh⟩
  have hh8 : h ≤ 8 := hh.2
  have hn16 : n ≤ 16 := by omega
  have HPC : Hid (∀ f W a1 c1, Zs W a1 h (wavesL zs f) → Calls Try.prog 52 #[.slice a1 h c1] W fun e w' => ∃ a', e = .returned (.slice a' (h + 1 : Nat) (h + 1 : Nat)) ∧ NewRow 2 W.heap.size w' a' (polyZ (wavesL zs f)) ∧ Below W.heap.size W w') := fun f W a1 c1 hz1 =>
    rpoly_any a1 h c1 _ W hz1 hh.1 hh.2 (HPI.out f)
  clear hz hl hn hn2 hh
  go_enter Try.func38, Try.ntmps38
  go_wp2_with (go_at_call 30; refine HC.out.mono ?_; rintro e w1 ⟨a1, c1, rfl, hn1, hb1⟩)
  have HB1 : Hid (Below w.heap.size w w1) := hb1
  have HZ1 : Hid (∀ W, Below w1.heap.size w1 W → Zs W a1 n (clB 0 32768 zs)) := fun W hW => (Zs.of_new hn1 HCL.out).keep hW
  clear hn1 hb1 HC HCL
  generalize hE : wavesL zs 0 = E at *
  generalize hO : wavesL zs 1 = O at *
  have HEE : Hid (wavesL zs 0 = E) := hE
  have HOO : Hid (wavesL zs 1 = O) := hO
  generalize clB 0 32768 zs = ls at *
  clear hE hO
  go_loopw [3, 4, 5, 6] (fun v1 v2 i _ W => ∃ k : Nat, k ≤ n ∧ i = .int .i64 k ∧ Hid (Two w1.heap.size v1 v2 (E.take ((k + 1) / 2)) (O.take (k / 2)) W ∧ Below w1.heap.size w1 W)) (fun _ _ i _ _ => n - (intOf i).toNat)
  case atStart => exact ⟨0, Nat.zero_le _, rfl, Two.nil _ _, Below.refl _ _⟩
  case round =>
    obtain ⟨k, hk, rfl, HH⟩ := hrel
    by_cases hlt : k < n
    · have hlt' : ((k : Int) < (n : Int)) = True := eq_true (by omega)
      obtain ⟨b, off, rfl, _, hc⟩ := (HZ1.out _ HH.out.2).at_ (by omega)
      have hck := hc k hlt
      have HT2 : Hid (∀ W, Below wr.heap.size wr W → Two w1.heap.size u3 u4 (E.take ((k + 1) / 2)) (O.take (k / 2)) W ∧ Below w1.heap.size w1 W ∧ w1.heap.size ≤ W.heap.size) := fun W hW =>
        ⟨HH.out.1.keep hW, HH.out.2.trans (hW.mono HH.out.2.size), (HH.out.2.trans (hW.mono HH.out.2.size)).size⟩
      have HM : Hid (n - (k + 1) < n - k) := by show _ < _; omega
      have hEl := HPL.out 0
      have hOl := HPL.out 1
      rw [HEE.out] at hEl
      rw [HOO.out] at hOl
      obtain ⟨j, hj⟩ : ∃ j, k = 2 * j ∨ k = 2 * j + 1 := ⟨k / 2, by omega⟩
      have hN1 := HN.out.1
      rcases hj with hj | hj
      · have hv := HWV.out 0 j (by omega) (by omega)
        rw [HEE.out, Nat.add_zero, ← hj] at hv
        have e1 : (k + 1) / 2 = j := by omega
        have e2 : k / 2 = j := by omega
        have HLX : Hid ((E.take j).length = j) := by show _ = _; rw [List.length_take]; omega
        have HTK : Hid (E.take j ++ [E[j]?.getD 0] = E.take ((k + 1 + 1) / 2) ∧ O.take j = O.take ((k + 1) / 2)) := ⟨by rw [show (k + 1 + 1) / 2 = j + 1 by omega]; exact (take_snoc (by omega)).symm, by rw [e1]⟩
        rw [e1, e2] at HT2
        have hr : Int.tmod (k : Int) 2 = 0 := by rw [Int.tmod_eq_emod_of_nonneg (by omega)]; omega
        have hj6 : j ≤ 1000 := by omega
        have hw := wave_in (ls[k]?.getD 0)
        have HCS : Hid (∀ W, Calls Try.prog 51 #[.int .i64 (ls[k]?.getD 0)] W fun e w' => e = .returned (.int .i64 (cosI (ls[k]?.getD 0))) ∧ Below W.heap.size W w') := fun W => rcos_any _ W
        generalize ls[k]?.getD 0 = z at *
        generalize cosI z = y at *
        generalize E[j]?.getD 0 = ev at *
        subst hv
        have h4 : IntKind.i64.wrap (4 * y) = 4 * y := by rw [IntKind.wrap_i64]; omega
        clear HH hc hN1 hj e1 e2 hw hEl hOl HWV HZ1 HEE HOO
        go_wp2_with (first
          | (go_at_call 51; refine (HCS.out _).mono ?_; rintro e w5 ⟨rfl, hb5⟩; obtain ⟨ht5, hbl5, hs5⟩ := HT2.out _ hb5)
          | (at_builtin; refine wpList_push_int64 w1.heap.size j _ (E.take j) _ HLX.out ht5.own1 hj6 hs5 rfl _ _ rfl rfl rfl ?_; intro g6 c6 w6 ho6 hg6 hat6; have ht6 := ht5.push (by rw [HLX.out]) ho6 hg6 hat6; have hb6 := ht5.below hbl5 hg6 hs5))
        rw [HTK.out.1, HTK.out.2] at ht6
        go_roundw
        case rel => exact ⟨k + 1, by omega, by go_num, ht6, hb6⟩
        case measure => simp [intOf]; exact HM.out
      · have hv := HWV.out 1 j (by omega) (by omega)
        rw [HOO.out, ← hj] at hv
        have e1 : (k + 1) / 2 = j + 1 := by omega
        have e2 : k / 2 = j := by omega
        have HLX : Hid ((O.take j).length = j) := by show _ = _; rw [List.length_take]; omega
        have HTK : Hid (E.take (j + 1) = E.take ((k + 1 + 1) / 2) ∧ O.take j ++ [O[j]?.getD 0] = O.take ((k + 1) / 2)) := ⟨by rw [show (k + 1 + 1) / 2 = j + 1 by omega], by rw [e1]; exact (take_snoc (by omega)).symm⟩
        rw [e1, e2] at HT2
        have hr : Int.tmod (k : Int) 2 = 1 := by rw [Int.tmod_eq_emod_of_nonneg (by omega)]; omega
        have hj6 : j ≤ 1000 := by omega
        have hw := wave_in (ls[k]?.getD 0)
        have HCS : Hid (∀ W, Calls Try.prog 51 #[.int .i64 (ls[k]?.getD 0)] W fun e w' => e = .returned (.int .i64 (cosI (ls[k]?.getD 0))) ∧ Below W.heap.size W w') := fun W => rcos_any _ W
        generalize ls[k]?.getD 0 = z at *
        generalize cosI z = y at *
        generalize O[j]?.getD 0 = ev at *
        subst hv
        have h4 : IntKind.i64.wrap (4 * y) = 4 * y := by rw [IntKind.wrap_i64]; omega
        clear HH hc hN1 hj e1 e2 hw hEl hOl HWV HZ1 HEE HOO
        go_wp2_with (first
          | (go_at_call 51; refine (HCS.out _).mono ?_; rintro e w5 ⟨rfl, hb5⟩; obtain ⟨ht5, hbl5, hs5⟩ := HT2.out _ hb5)
          | (at_builtin; refine wpList_push_int64 w1.heap.size j _ (O.take j) _ HLX.out ht5.own2 hj6 hs5 rfl _ _ rfl rfl rfl ?_; intro g6 c6 w6 ho6 hg6 hat6; have ht6 := ht5.turn.push (by rw [HLX.out]) ho6 hg6 hat6; have hb6 := ht5.turn.below hbl5 hg6 hs5))
        replace ht6 := ht6.turn
        rw [HTK.out.1, HTK.out.2] at ht6
        go_roundw
        case rel => exact ⟨k + 1, by omega, by go_num, ht6, hb6⟩
        case measure => simp [intOf]; exact HM.out
    · have hlt' : ((k : Int) < (n : Int)) = False := eq_false (by omega)
      have hk' : k = n := by omega
      subst hk'
      have hEl := HPL.out 0
      have hOl := HPL.out 1
      rw [HEE.out] at hEl
      rw [HOO.out] at hOl
      have hN1 := HN.out.1
      rw [List.take_of_length_le (by omega), List.take_of_length_le (by omega)] at HH
      have ho1 := HH.out.1.own1
      have ho2 := HH.out.1.own2
      rw [hEl] at ho1
      rw [hOl] at ho2
      obtain ⟨_, a2, c2, rfl, hne⟩ := NewRow.of_owned ho1
      obtain ⟨_, a3, c3, rfl, hno⟩ := NewRow.of_owned ho2
      have HZE : Hid (Zs wr a2 h (wavesL zs 0)) := by have := Zs.of_new hne hEl; rw [← HEE.out] at this; exact this
      have HZO : Hid (∀ W, Below wr.heap.size wr W → Zs W a3 h (wavesL zs 1)) := fun W hW => by have := (Zs.of_new hno hOl).keep hW; rw [← HOO.out] at this; exact this
      have HB2 : Hid (Below w.heap.size w wr) := HB1.out.trans (HH.out.2.mono HB1.out.size)
      have hq : Int.tdiv (k : Int) 2 = (h : Int) := by rw [Int.tdiv_eq_ediv_of_nonneg (by omega)]; omega
      have HQ2 : Hid (IntKind.i64.wrap (Int.tdiv (k : Int) 2) = (h : Int)) := by show _ = _; rw [hq, IntKind.wrap_i64]; omega
      have y1 : Hid True := trivial
      have hmk := HMK
      clear ho1 ho2 HH hne hno hEl hOl hN1 HWV HZ1 hq
      go_wp2_with (first
        | (go_at_call 52; clear y1; refine (HPC.out 0 _ _ _ HZE.out).mono ?_; rintro e w4 ⟨a4, rfl, hn4, hb4⟩; have hz4 := HZO.out _ hb4)
        | (go_at_call 52; refine (HPC.out 1 _ _ _ hz4).mono ?_; rintro e w5 ⟨a5, rfl, hn5, hb5⟩))
      have HB5 : Hid (Below w.heap.size w w5) := (HB2.out.trans (hb4.mono HB2.out.size)).trans (hb5.mono (HB2.out.trans (hb4.mono HB2.out.size)).size)
      have HPQ : Hid (∀ W, Below w5.heap.size w5 W → Zs W a4 (h + 1) (polyZ (wavesL zs 0)) ∧ Zs W a5 (h + 1) (polyZ (wavesL zs 1))) := fun W hW =>
        ⟨((Zs.of_new hn4 (HZL.out 0)).keep hb5).keep hW, (Zs.of_new hn5 (HZL.out 1)).keep hW⟩
      rw [← HEE.out, ← HOO.out] at HF
      have HLO0 := HB8.out 0
      have HHI0 := HB8.out 1
      have HLO : Hid _ := HLO0
      have HHI : Hid _ := HHI0
      have H5' := H5.out (polyZ (wavesL zs 0)) (polyZ (wavesL zs 1))
      have HFL' := HFL.out (polyZ (wavesL zs 0)) (polyZ (wavesL zs 1))
      clear H5 HFL HB8 hz4 hn4 hn5 hb4 hb5 HPL HPI HZL HMK hmk HPC HEE HOO HZE HZO HLO0 HHI0
      have H5 : Hid _ := H5'
      have HFL : Hid _ := HFL'
      clear H5' HFL'
      generalize polyZ (wavesL zs 0) = P at *
      generalize polyZ (wavesL zs 1) = Q at *
      generalize fromP P Q k = F at *
      have HS : Hid (NewRow 2 w5.heap.size (w5.alloc (.cells (madeCells #[.int .i64 0] k) 2)) (some ⟨w5.heap.size, 0, none⟩) (outL F k 0) ∧ Below w5.heap.size w5 (w5.alloc (.cells (madeCells #[.int .i64 0] k) 2))) :=
        ⟨by rw [outL_zero]; exact NewRow.made w5 k, (Below.refl _ _).alloc (Nat.le_refl _) _⟩
      generalize w5.alloc (.cells (madeCells #[.int .i64 0] k) 2) = W0 at *
      have hq2 := HQ2.out
      have hq3 : Int.tdiv (k : Int) 2 = (h : Int) := by have := HN.out.1; rw [Int.tdiv_eq_ediv_of_nonneg (by omega)]; omega
      go_loopw [10, 11, 12] (fun i _ _ W => ∃ t : Nat, t ≤ h ∧ i = .int .i64 t ∧ Hid (NewRow 2 w5.heap.size W (some ⟨w5.heap.size, 0, none⟩) (outL F k t) ∧ Below w5.heap.size w5 W)) (fun i _ _ _ => h - (intOf i).toNat)
      case atStart => exact ⟨0, Nat.zero_le _, rfl, HS.out⟩
      case round =>
        clear HS
        obtain ⟨t, ht, rfl, HH⟩ := hrel
        by_cases hlt2 : t < h
        · have hlt2' : ((t : Int) < (h : Int)) = True := eq_true (by omega)
          have hN1 := HN.out.1
          have hN2 := HN.out.2.1
          obtain ⟨hzp, hzq⟩ := HPQ.out _ HH.out.2
          obtain ⟨pb, po, rfl, _, hcp⟩ := hzp.at_ (by omega)
          obtain ⟨qb, qo, rfl, _, hcq⟩ := hzq.at_ (by omega)
          have hp0 := hcp t (by omega)
          have hp1 := hcp (t + 1) (by omega)
          have hq0 := hcq t (by omega)
          have hq1 := hcq (t + 1) (by omega)
          obtain ⟨hlo, hhi⟩ := H5.out t hlt2
          have ip0 := HLO.out t
          have ip1 := HLO.out (t + 1)
          have iq0 := HHI.out t
          have iq1 := HHI.out (t + 1)
          unfold lowZ atZ at hlo
          unfold highZ atZ at hhi
          obtain ⟨j, hj⟩ : ∃ j : Nat, j = t + 1 := ⟨_, rfl⟩
          obtain ⟨i, hi⟩ : ∃ i : Nat, i = k - 1 - t := ⟨_, rfl⟩
          rw [← hj] at hp1 hq1 ip1 iq1 hlo hhi
          rw [← hi] at hhi
          have hlen := outL_len F k t
          have hf0 := HH.out.1.frozenAt (by omega) t
          have hc0 := HH.out.1.cellAt (i := t) (by omega)
          have hst := outL_step (F := F) (n := k) (k := t)
          rw [← hi, hlo, hhi] at hst
          generalize P[t]?.getD 0 = p0 at *
          generalize P[j]?.getD 0 = p1 at *
          generalize Q[t]?.getD 0 = q0 at *
          generalize Q[j]?.getD 0 = q1 at *
          generalize (outL F k t)[t]?.getD 0 = old at *
          generalize hv : mulI (-(q1 - q0) - (p1 + p0)) 1 5 = v at *
          generalize hu : mulI ((q1 - q0) - (p1 + p0)) 1 5 = u at *
          have HMV : Hid (∀ W, Calls Try.prog 33 #[.int .i64 (-(q1 - q0) - (p1 + p0)), .int .i64 1, .int .i64 5] W fun e w' => e = .returned (.int .i64 v) ∧ w' = W) := fun W => by rw [← hv]; exact rmul_any _ _ _ _
          have HMU : Hid (∀ W, Calls Try.prog 33 #[.int .i64 ((q1 - q0) - (p1 + p0)), .int .i64 1, .int .i64 5] W fun e w' => e = .returned (.int .i64 u) ∧ w' = W) := fun W => by rw [← hu]; exact rmul_any _ _ _ _
          have HX : Hid (∀ nq, NewRow 2 w5.heap.size (((wr.drewN nq).setCell ⟨w5.heap.size, t, none⟩ (.int .i64 v)).setCell ⟨w5.heap.size, i, none⟩ (.int .i64 u)) (some ⟨w5.heap.size, 0, none⟩) (outL F k (t + 1)) ∧ Below w5.heap.size w5 (((wr.drewN nq).setCell ⟨w5.heap.size, t, none⟩ (.int .i64 v)).setCell ⟨w5.heap.size, i, none⟩ (.int .i64 u))) := fun nq =>
            ⟨by rw [← hst]; exact ((HH.out.1.drewN nq).set t v).set i u, ((below_drewN HH.out.2 nq).setCell (p := ⟨w5.heap.size, t, none⟩) (Nat.le_refl _) _).setCell (p := ⟨w5.heap.size, i, none⟩) (Nat.le_refl _) _⟩
          have HCI : Hid (∀ nq x, ∃ y, ((wr.drewN nq).setCell ⟨w5.heap.size, t, none⟩ (.int .i64 x)).cell? ⟨w5.heap.size, i, none⟩ = some y ∧ ((wr.drewN nq).setCell ⟨w5.heap.size, t, none⟩ (.int .i64 x)).frozen? ⟨w5.heap.size, i, none⟩ = false) := fun nq x =>
            ⟨_, ((HH.out.1.drewN nq).set t x).cellAt (i := i) (by rw [List.length_set]; omega), ((HH.out.1.drewN nq).set t x).frozenAt (by rw [List.length_set]; omega) i⟩
          have hw1 : IntKind.i64.wrap ((t : Int) + 1) = (j : Int) := by rw [IntKind.wrap_i64]; omega
          have hw2 : IntKind.i64.wrap ((k : Int) - 1) = (k : Int) - 1 := by rw [IntKind.wrap_i64]; omega
          have hw3 : IntKind.i64.wrap ((k : Int) - 1 - (t : Int)) = (i : Int) := by rw [IntKind.wrap_i64]; omega
          have hw4 : IntKind.i64.wrap (p1 + p0) = p1 + p0 := by rw [IntKind.wrap_i64]; omega
          have hw5 : IntKind.i64.wrap (q1 - q0) = q1 - q0 := by rw [IntKind.wrap_i64]; omega
          have hw6 : IntKind.i64.wrap (-(q1 - q0)) = -(q1 - q0) := by rw [IntKind.wrap_i64]; omega
          have hw7 : IntKind.i64.wrap (-(q1 - q0) - (p1 + p0)) = -(q1 - q0) - (p1 + p0) := by rw [IntKind.wrap_i64]; omega
          have hw8 : IntKind.i64.wrap ((q1 - q0) - (p1 + p0)) = (q1 - q0) - (p1 + p0) := by rw [IntKind.wrap_i64]; omega
          have hj1 : (0 : Int) ≤ (j : Int) := by omega
          have hj2 : (j : Int) < ((h + 1 : Nat) : Int) := by omega
          have hk1 : (0 : Int) ≤ (t : Int) := by omega
          have hk2 : (t : Int) < ((h + 1 : Nat) : Int) := by omega
          have hk3 : (t : Int) < (k : Int) := by omega
          have hi1 : (0 : Int) ≤ (i : Int) := by omega
          have hi2 : (i : Int) < (k : Int) := by omega
          have HM2 : Hid (h - (t + 1) < h - t) := by show _ < _; omega
          have HJ : Hid (j = t + 1 ∧ j ≤ h) := by show _ ∧ _; omega
          clear hst hlo hhi hv hu HH hcp hcq hzp hzq hlen hj hi hN1 hN2 H5 HLO HHI
          go_wp2
          go_quiet (fail)
          go_wp2
          go_quiet (fail)
          rw [World.drewN_drewN]
          generalize _ + nq = nn
          obtain ⟨y, hcy, hfy⟩ := HCI.out nn v
          have y1 : Hid True := trivial
          go_wp2_with (first
            | (go_at_call 33; clear y1; refine (HMV.out _).mono ?_; rintro e w' ⟨rfl, rfl⟩)
            | (go_at_call 33; refine (HMU.out _).mono ?_; rintro e w' ⟨rfl, rfl⟩))
          go_roundw
          case rel => exact ⟨j, HJ.out.2, rfl, by rw [HJ.out.1]; exact HX.out nn⟩
          case measure => simp [intOf]; rw [HJ.out.1]; exact HM2.out
        · have hlt2' : ((t : Int) < (h : Int)) = False := eq_false (by omega)
          have ht' : t = h := by omega
          subst ht'
          rw [outL_end HN.out.1 HFL.out] at HH
          have HZ2 : Hid (Zs wr (some ⟨w5.heap.size, 0, none⟩) k F) := Zs.of_new HH.out.1 HFL.out
          have HB6 : Hid (Below w.heap.size w wr) := HB5.out.trans (HH.out.2.mono HB5.out.size)
          have hn32 : k ≤ 32 := by omega
          clear HH H5 HLO HHI HPQ
          go_wp2_with (go_at_call 35; refine (rfit_any _ _ _ F _ HZ2.out hn32).mono ?_; rintro e w6 ⟨a6, c6, rfl, hn6, hb6⟩)
          go_ret
          exact ⟨_, _, rfl, by rw [HF.out]; exact hn6.mono HB6.out.size, HB6.out.trans (hb6.mono HB6.out.size)⟩

end Go.Proofs.Ytjaccokmficfdaa
