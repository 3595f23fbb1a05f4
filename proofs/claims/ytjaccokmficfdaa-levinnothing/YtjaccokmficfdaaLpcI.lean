/- Frequencies become a filter: package lpc's call. -/
import Derived.Test.YtjaccokmficfdaaLpcH
namespace Go.Proofs.Ytjaccokmficfdaa
open Go.RowKit

/-- From both ends inwards: k numbers at each end stand. -/
def outL (F : List Int) (n k : Nat) : List Int := (List.range n).map fun i => if i < k ∨ n - 1 - i < k then F[i]?.getD 0 else 0
theorem outL_len (F : List Int) (n k : Nat) : (outL F n k).length = n := by unfold outL; rw [List.length_map, List.length_range]
theorem outL_at {F : List Int} {n k i : Nat} (h : i < n) : (outL F n k)[i]?.getD 0 = if i < k ∨ n - 1 - i < k then F[i]?.getD 0 else 0 := by
  unfold outL
  rw [List.getElem?_map, List.getElem?_range h]
  rfl
theorem outL_zero (F : List Int) (n : Nat) : outL F n 0 = List.replicate n 0 := by
  apply list_ext_at
  · rw [outL_len, List.length_replicate]
  · intro i hi
    rw [outL_len] at hi
    rw [outL_at hi, if_neg (by omega), zero_at]
theorem outL_step {F : List Int} {n k : Nat} : ((outL F n k).set k (F[k]?.getD 0)).set (n - 1 - k) (F[n - 1 - k]?.getD 0) = outL F n (k + 1) := by
  apply list_ext_at
  · rw [List.length_set, List.length_set, outL_len, outL_len]
  · intro i hi
    rw [List.length_set, List.length_set, outL_len] at hi
    rw [outL_at hi, List.getElem?_set, List.length_set, outL_len]
    by_cases h1 : n - 1 - k = i
    · subst h1
      rw [if_pos rfl, if_pos hi, if_pos (by omega)]
      rfl
    · rw [if_neg h1, List.getElem?_set, outL_len]
      by_cases h2 : k = i
      · subst h2
        rw [if_pos rfl, if_pos hi, if_pos (by omega)]
        rfl
      · rw [if_neg h2, outL_at hi]
        by_cases h3 : i < k ∨ n - 1 - i < k
        · rw [if_pos h3, if_pos (by omega)]
        · rw [if_neg h3, if_neg (by omega)]
theorem outL_end {F : List Int} {n h : Nat} (hn : n = 2 * h) (hF : F.length = n) : outL F n h = F := by
  apply list_ext_at
  · rw [outL_len, hF]
  · intro i hi
    rw [outL_len] at hi
    rw [outL_at hi, if_pos (by omega)]
theorem polyZ_in {ys : List Int} (h0 : 0 < ys.length) (h8 : ys.length ≤ 8) (hy : ∀ x ∈ ys, -262148 ≤ x ∧ x ≤ 262148) (i : Nat) : -251871798400 ≤ (polyZ ys)[i]?.getD 0 ∧ (polyZ ys)[i]?.getD 0 ≤ 251871798400 := by
  rw [← polyP_done h0 rfl]
  exact polyP_in hy h8 i
theorem fromP_low {p q : List Int} {n h k : Nat} (hn : n = 2 * h) (hk : k < h) : (fromP p q n)[k]?.getD 0 = lowZ p q k := by
  unfold fromP
  rw [List.getElem?_map, List.getElem?_range (by omega)]
  show (if k < n / 2 then lowZ p q k else highZ p q (n - 1 - k)) = _
  rw [if_pos (by omega)]
theorem fromP_high {p q : List Int} {n h k : Nat} (hn : n = 2 * h) (hk : k < h) : (fromP p q n)[n - 1 - k]?.getD 0 = highZ p q k := by
  unfold fromP
  rw [List.getElem?_map, List.getElem?_range (by omega)]
  show (if n - 1 - k < n / 2 then lowZ p q (n - 1 - k) else highZ p q (n - 1 - (n - 1 - k))) = _
  rw [if_neg (by omega), show n - 1 - (n - 1 - k) = k by omega]

set_option maxHeartbeats 1000000 in
theorem cfrom_far (a : Option Addr) (n cap : Nat) (w : World) (h10 : n ≠ 10) (h16 : n ≠ 16) :
    Calls Try.prog 48 #[.slice a n cap] w fun e w' => e = .returned (.tuple #[.slice none 0 0, .int .i64 1]) ∧ w' = w := by
  have e1 : ((n : Int) != 10) = true := by simp; omega
  have e2 : ((n : Int) != 16) = true := by simp; omega
  have e3 : ((n : Int) == 10) = false := by simp; omega
  have e4 : ((n : Int) == 16) = false := by simp; omega
  go_enter Try.func48, Try.ntmps48
  go_wp2
  go_ret2
  exact ⟨rfl, rfl⟩

set_option maxRecDepth 100000 in
set_option maxHeartbeats 8000000 in
theorem cfrom_any (a : Option Addr) (n cap h : Nat) (zs : List Int) (w : World) (hz : Zs w a n zs) (hn : n = 10 ∧ h = 5 ∨ n = 16 ∧ h = 8) :
    Calls Try.prog 48 #[.slice a n cap] w fun e w' => ∃ a', e = .returned (.tuple #[.slice a' n n, .int .i64 0]) ∧ NewRow 2 w.heap.size w' a' (fromZ zs) ∧ Below w.heap.size w w' := by
  have hl := hz.len
  have hn2 : n = 2 * h := by omega
  have hh : 1 ≤ h ∧ h ≤ 8 := by omega
  have HZ : Hid (∀ W, Below w.heap.size w W → Zs W a n zs) := fun W hb => hz.keep hb
  have HF : Hid (fromZ zs = fitZ (fromP (polyZ (wavesL zs 0)) (polyZ (wavesL zs 1)) n)) := by show _ = _; rw [← hl]; rfl
  have HPL : Hid (∀ f, (wavesL zs f).length = h) := fun f => by rw [wavesL_len]; omega
  have HPI : Hid (∀ f, ∀ x ∈ wavesL zs f, -262148 ≤ x ∧ x ≤ 262148) := fun f => wavesL_in zs f
  have H5 : Hid (∀ P Q : List Int, ∀ k, k < h → (fromP P Q n)[k]?.getD 0 = lowZ P Q k ∧ (fromP P Q n)[n - 1 - k]?.getD 0 = highZ P Q k) := fun P Q k hk => ⟨fromP_low hn2 hk, fromP_high hn2 hk⟩
  have HFL : Hid (∀ P Q : List Int, (fromP P Q n).length = n) := fun P Q => fromP_len P Q n
  have HB8 : Hid (∀ f i : Nat, -251871798400 ≤ (polyZ (wavesL zs f))[i]?.getD 0 ∧ (polyZ (wavesL zs f))[i]?.getD 0 ≤ 251871798400) := fun f i => polyZ_in (by rw [HPL.out f]; omega) (by rw [HPL.out f]; omega) (HPI.out f) i
  have HZL : Hid (∀ f, (polyZ (wavesL zs f)).length = h + 1) := fun f => by rw [polyZ_len (by rw [HPL.out f]; omega), HPL.out f]
  have hw0 := Below.refl w.heap.size w
  have HMK := fun W : World => run_make_row' (P := Try.prog) 23 2 (.int .i64 0) 8 Try.underlying23 info_int64 rfl .i64 .i64 n (by omega) (by omega) W
  have hq : Int.tdiv (n : Int) 2 = (h : Int) := by rw [Int.tdiv_eq_ediv_of_nonneg (by omega)]; omega
  have hq2 : IntKind.i64.wrap (Int.tdiv (n : Int) 2) = (h : Int) := by rw [hq, IntKind.wrap_i64]; omega
  clear hz hl
  have HN : Hid (n = 2 * h ∧ 1 ≤ h ∧ h ≤ 8) := ⟨hn2, hh⟩
  have h10 : ((n : Int) != 10) = false ∨ ((n : Int) != 10) = true ∧ ((n : Int) != 16) = false := by
    rcases hn with ⟨rfl, _⟩ | ⟨rfl, _⟩
    · exact .inl rfl
    · exact .inr ⟨rfl, rfl⟩
  have hmk := HMK
  have HC0 : Hid (∀ W, Below w.heap.size w W → Calls Try.prog 62 #[.slice a n cap, .int .i64 0] W fun e w' => ∃ a' c', e = .returned (.slice a' h c') ∧ NewRow 2 W.heap.size w' a' (wavesL zs 0) ∧ Below W.heap.size W w') := fun W hW =>
    cosines_any a n cap h 0 zs W (HZ.out W hW) hn2 (by omega) (by omega)
  have HC1 : Hid (∀ W, Below w.heap.size w W → Calls Try.prog 62 #[.slice a n cap, .int .i64 1] W fun e w' => ∃ a' c', e = .returned (.slice a' h c') ∧ NewRow 2 W.heap.size w' a' (wavesL zs 1) ∧ Below W.heap.size W w') := fun W hW =>
    cosines_any a n cap h 1 zs W (HZ.out W hW) hn2 (by omega) (by omega)
  have HPC : Hid (∀ f W a1 c1, Zs W a1 h (wavesL zs f) → Calls Try.prog 61 #[.slice a1 h c1] W fun e w' => ∃ a', e = .returned (.slice a' (h + 1 : Nat) (h + 1 : Nat)) ∧ NewRow 2 W.heap.size w' a' (polyZ (wavesL zs f)) ∧ Below W.heap.size W w') := fun f W a1 c1 hz1 =>
    poly_any a1 h c1 _ W hz1 hh.1 hh.2 (HPI.out f)
  have hh8 : h ≤ 8 := hh.2
  have y1 : Hid True := trivial
  have y2 : Hid True := trivial
  have y3 : Hid True := trivial
  clear hn hn2 hh
  rcases h10 with e1 | ⟨e1, e2⟩
  all_goals
    go_enter Try.func48, Try.ntmps48
    go_wp2_with (first
      | (go_at_call 62; clear y1; refine (HC0.out _ hw0).mono ?_; rintro e w1 ⟨a1, c1, rfl, hn1, hb1⟩; have hz1 := Zs.of_new hn1 (HPL.out 0))
      | (go_at_call 61; clear y2; refine (HPC.out 0 _ _ _ hz1).mono ?_; rintro e w2 ⟨a2, rfl, hn2, hb2⟩; have hb3 := hb1.trans (hb2.mono hb1.size))
      | (go_at_call 62; clear y3; refine (HC1.out _ hb3).mono ?_; rintro e w4 ⟨a4, c4, rfl, hn4, hb4⟩; have hz4 := Zs.of_new hn4 (HPL.out 1))
      | (go_at_call 61; refine (HPC.out 1 _ _ _ hz4).mono ?_; rintro e w5 ⟨a5, rfl, hn5, hb5⟩))
    have HB5 : Hid (Below w.heap.size w w5) := (hb3.trans (hb4.mono hb3.size)).trans (hb5.mono (hb3.trans (hb4.mono hb3.size)).size)
    have HPQ : Hid (∀ W, Below w5.heap.size w5 W → Zs W a2 (h + 1) (polyZ (wavesL zs 0)) ∧ Zs W a5 (h + 1) (polyZ (wavesL zs 1))) := fun W hW =>
      ⟨((Zs.of_new hn2 (HZL.out 0)).keep (hb4.trans (hb5.mono hb4.size))).keep hW, (Zs.of_new hn5 (HZL.out 1)).keep hW⟩
    clear HC0 HC1 HPC hw0 hz1 hz4 hn1 hn2 hn4 hn5 hb1 hb2 hb3 hb4 hb5 HPL HPI HZL HZ HMK hmk
    have HLO := HB8.out 0
    have HHI := HB8.out 1
    replace HLO : Hid _ := HLO
    replace HHI : Hid _ := HHI
    have H5' := H5.out (polyZ (wavesL zs 0)) (polyZ (wavesL zs 1))
    have HFL' := HFL.out (polyZ (wavesL zs 0)) (polyZ (wavesL zs 1))
    clear H5 HFL HB8
    have H5 : Hid _ := H5'
    have HFL : Hid _ := HFL'
    clear H5' HFL'
    generalize polyZ (wavesL zs 0) = P at *
    generalize polyZ (wavesL zs 1) = Q at *
    generalize fromP P Q n = F at *
    have HS : Hid (NewRow 2 w5.heap.size (w5.alloc (.cells (madeCells #[.int .i64 0] n) 2)) (some ⟨w5.heap.size, 0, none⟩) (outL F n 0) ∧ Below w5.heap.size w5 (w5.alloc (.cells (madeCells #[.int .i64 0] n) 2))) :=
      ⟨by rw [outL_zero]; exact NewRow.made w5 n, (Below.refl _ _).alloc (Nat.le_refl _) _⟩
    generalize w5.alloc (.cells (madeCells #[.int .i64 0] n) 2) = W0 at *
    go_loopw [8, 9, 10, 29] (fun _ _ _ i W => ∃ k : Nat, k ≤ h ∧ i = .int .i64 k ∧ Hid (NewRow 2 w5.heap.size W (some ⟨w5.heap.size, 0, none⟩) (outL F n k) ∧ Below w5.heap.size w5 W)) (fun _ _ _ i _ => h - (intOf i).toNat)
    case atStart => exact ⟨0, Nat.zero_le _, rfl, HS.out⟩
    case round =>
      clear HS
      obtain ⟨k, hk, rfl, HH⟩ := hrel
      have hN1 := HN.out.1
      have hN2 := HN.out.2.1
      by_cases hlt : k < h
      · have hlt' : ((k : Int) < (h : Int)) = True := eq_true (by omega)
        obtain ⟨hzp, hzq⟩ := HPQ.out _ HH.out.2
        obtain ⟨pb, po, rfl, _, hcp⟩ := hzp.at_ (by omega)
        obtain ⟨qb, qo, rfl, _, hcq⟩ := hzq.at_ (by omega)
        have hp0 := hcp k (by omega)
        have hp1 := hcp (k + 1) (by omega)
        have hq0 := hcq k (by omega)
        have hq1 := hcq (k + 1) (by omega)
        obtain ⟨hlo, hhi⟩ := H5.out k hlt
        have ip0 := HLO.out k
        have ip1 := HLO.out (k + 1)
        have iq0 := HHI.out k
        have iq1 := HHI.out (k + 1)
        unfold lowZ atZ at hlo
        unfold highZ atZ at hhi
        obtain ⟨j, hj⟩ : ∃ j : Nat, j = k + 1 := ⟨_, rfl⟩
        obtain ⟨i, hi⟩ : ∃ i : Nat, i = n - 1 - k := ⟨_, rfl⟩
        rw [← hj] at hp1 hq1 ip1 iq1 hlo hhi
        rw [← hi] at hhi
        have hlen := outL_len F n k
        have hf0 := HH.out.1.frozenAt (by omega) k
        have hc0 := HH.out.1.cellAt (i := k) (by omega)
        have hst := outL_step (F := F) (n := n) (k := k)
        rw [← hi, hlo, hhi] at hst
        generalize P[k]?.getD 0 = p0 at *
        generalize P[j]?.getD 0 = p1 at *
        generalize Q[k]?.getD 0 = q0 at *
        generalize Q[j]?.getD 0 = q1 at *
        generalize (outL F n k)[k]?.getD 0 = old at *
        generalize hv : mulI (-(q1 - q0) - (p1 + p0)) 1 5 = v at *
        generalize hu : mulI ((q1 - q0) - (p1 + p0)) 1 5 = u at *
        have HMV : Hid (∀ W, Calls Try.prog 25 #[.int .i64 (-(q1 - q0) - (p1 + p0)), .int .i64 1, .int .i64 5] W fun e w' => e = .returned (.int .i64 v) ∧ w' = W) := fun W => by rw [← hv]; exact mul_any _ _ _ _
        have HMU : Hid (∀ W, Calls Try.prog 25 #[.int .i64 ((q1 - q0) - (p1 + p0)), .int .i64 1, .int .i64 5] W fun e w' => e = .returned (.int .i64 u) ∧ w' = W) := fun W => by rw [← hu]; exact mul_any _ _ _ _
        have HX : Hid (∀ nq, NewRow 2 w5.heap.size (((wr.drewN nq).setCell ⟨w5.heap.size, k, none⟩ (.int .i64 v)).setCell ⟨w5.heap.size, i, none⟩ (.int .i64 u)) (some ⟨w5.heap.size, 0, none⟩) (outL F n (k + 1)) ∧ Below w5.heap.size w5 (((wr.drewN nq).setCell ⟨w5.heap.size, k, none⟩ (.int .i64 v)).setCell ⟨w5.heap.size, i, none⟩ (.int .i64 u))) := fun nq =>
          ⟨by rw [← hst]; exact ((HH.out.1.drewN nq).set k v).set i u, ((below_drewN HH.out.2 nq).setCell (p := ⟨w5.heap.size, k, none⟩) (Nat.le_refl _) _).setCell (p := ⟨w5.heap.size, i, none⟩) (Nat.le_refl _) _⟩
        have HCI : Hid (∀ nq x, ∃ y, ((wr.drewN nq).setCell ⟨w5.heap.size, k, none⟩ (.int .i64 x)).cell? ⟨w5.heap.size, i, none⟩ = some y ∧ ((wr.drewN nq).setCell ⟨w5.heap.size, k, none⟩ (.int .i64 x)).frozen? ⟨w5.heap.size, i, none⟩ = false) := fun nq x =>
          ⟨_, ((HH.out.1.drewN nq).set k x).cellAt (i := i) (by rw [List.length_set]; omega), ((HH.out.1.drewN nq).set k x).frozenAt (by rw [List.length_set]; omega) i⟩
        have hw1 : IntKind.i64.wrap ((k : Int) + 1) = (j : Int) := by rw [IntKind.wrap_i64]; omega
        have hw2 : IntKind.i64.wrap ((n : Int) - 1) = (n : Int) - 1 := by rw [IntKind.wrap_i64]; omega
        have hw3 : IntKind.i64.wrap ((n : Int) - 1 - (k : Int)) = (i : Int) := by rw [IntKind.wrap_i64]; omega
        have hw4 : IntKind.i64.wrap (p1 + p0) = p1 + p0 := by rw [IntKind.wrap_i64]; omega
        have hw5 : IntKind.i64.wrap (q1 - q0) = q1 - q0 := by rw [IntKind.wrap_i64]; omega
        have hw6 : IntKind.i64.wrap (-(q1 - q0)) = -(q1 - q0) := by rw [IntKind.wrap_i64]; omega
        have hw7 : IntKind.i64.wrap (-(q1 - q0) - (p1 + p0)) = -(q1 - q0) - (p1 + p0) := by rw [IntKind.wrap_i64]; omega
        have hw8 : IntKind.i64.wrap ((q1 - q0) - (p1 + p0)) = (q1 - q0) - (p1 + p0) := by rw [IntKind.wrap_i64]; omega
        have hj1 : (0 : Int) ≤ (j : Int) := by omega
        have hj2 : (j : Int) < ((h + 1 : Nat) : Int) := by omega
        have hk1 : (0 : Int) ≤ (k : Int) := by omega
        have hk2 : (k : Int) < ((h + 1 : Nat) : Int) := by omega
        have hk3 : (k : Int) < (n : Int) := by omega
        have hi1 : (0 : Int) ≤ (i : Int) := by omega
        have hi2 : (i : Int) < (n : Int) := by omega
        have HM2 : Hid (h - (k + 1) < h - k) := by show _ < _; omega
        have HJ : Hid (j = k + 1 ∧ j ≤ h) := by show _ ∧ _; omega
        clear hst hlo hhi hv hu HH hcp hcq hzp hzq hlen hj hi hN1 hN2 H5 HLO HHI
        go_wp2
        go_quiet (fail)
        obtain ⟨y, hcy, hfy⟩ := HCI.out nq v
        have y1 : Hid True := trivial
        go_wp2_with (first
          | (go_at_call 25; clear y1; refine (HMV.out _).mono ?_; rintro e w' ⟨rfl, rfl⟩)
          | (go_at_call 25; refine (HMU.out _).mono ?_; rintro e w' ⟨rfl, rfl⟩))
        go_roundw
        case rel => exact ⟨j, HJ.out.2, rfl, by rw [HJ.out.1]; exact HX.out nq⟩
        case measure => simp [intOf]; rw [HJ.out.1]; exact HM2.out
      · have hlt' : ((k : Int) < (h : Int)) = False := eq_false (by omega)
        have hk' : k = h := by omega
        subst hk'
        rw [outL_end HN.out.1 HFL.out] at HH
        have HZ2 : Hid (Zs wr (some ⟨w5.heap.size, 0, none⟩) n F) := Zs.of_new HH.out.1 HFL.out
        have HB6 : Hid (Below w.heap.size w wr) := HB5.out.trans (HH.out.2.mono HB5.out.size)
        have hn32 : n ≤ 32 := by have := HN.out; omega
        clear HH H5 HLO HHI HPQ hq hq2 hN1 hN2
        go_wp2_with (go_at_call 26; refine (cfit_any _ _ _ F _ HZ2.out hn32).mono ?_; rintro e w6 ⟨a6, rfl, hn6, hb6⟩)
        go_ret2
        exact ⟨_, rfl, by rw [HF.out]; exact hn6.mono HB6.out.size, HB6.out.trans (hb6.mono HB6.out.size)⟩

end Go.Proofs.Ytjaccokmficfdaa
