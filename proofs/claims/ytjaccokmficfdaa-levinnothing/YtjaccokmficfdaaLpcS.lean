/- A polynomial multiplied out: the document's own call. -/
import Derived.Test.YtjaccokmficfdaaLpcQ
import Derived.Deep.RegionWith
import Derived.Deep.Light
namespace Go.Proofs.Ytjaccokmficfdaa
open Go.RowKit

set_option maxRecDepth 100000 in
set_option maxHeartbeats 8000000 in
theorem rpoly_any (a : Option Addr) (n cap : Nat) (ys : List Int) (w : World) (hz : Zs w a n ys) (h1 : 1 ≤ n) (h8 : n ≤ 8) (hy : ∀ x ∈ ys, -262148 ≤ x ∧ x ≤ 262148) :
    Calls Try.prog 52 #[.slice a n cap] w fun e w' => ∃ a', e = .returned (.slice a' (n + 1 : Nat) (n + 1 : Nat)) ∧ NewRow 2 w.heap.size w' a' (polyZ ys) ∧ Below w.heap.size w w' := by
  have hl := hz.len
  obtain ⟨N, hN⟩ : ∃ N : Nat, N = n + 1 := ⟨_, rfl⟩
  have HZ : Hid (∀ W, Below w.heap.size w W → Zs W a n ys) := fun W hb => hz.keep hb
  have HY : Hid (∀ k, k < n → -262148 ≤ ys[k]?.getD 0 ∧ ys[k]?.getD 0 ≤ 262148) := fun k hk => hy _ (mem_at (by omega))
  have HE : Hid (polyP ys N n = polyZ ys) := by
    show _ = _
    have := polyP_done (ys := ys) (n := N) (by omega) (by omega)
    rwa [hl] at this
  have H1 : Hid (((List.replicate N (0 : Int)).set 0 65536).set 1 (-(ys[0]?.getD 0)) = polyP ys N 1) := polyP_first ys N (by omega)
  have HP : Hid (∀ k i : Nat, k ≤ 8 → -251871798400 ≤ (polyP ys N k)[i]?.getD 0 ∧ (polyP ys N k)[i]?.getD 0 ≤ 251871798400) := fun k i hk => polyP_in hy hk i
  have hmk : ∀ W : World, (Instr.makeSlice 23 (.int .i64 (N : Int)) (.int .i64 (N : Int))).run Try.prog W = _ := fun W : World => run_make_row' (P := Try.prog) 23 2 (.int .i64 0) 8 Try.underlying23 info_int64 rfl .i64 .i64 N (by omega) (by omega) W
  have hNn : (N : Int) = (n : Int) + 1 := by omega
  simp only [hNn] at hmk
  clear hNn
  have hmade : NewRow 2 w.heap.size (w.alloc (.cells (madeCells #[.int .i64 0] N) 2)) (some ⟨w.heap.size, 0, none⟩) (List.replicate N 0) := NewRow.made w N
  have hcz : ∀ i, i < N → (madeCells #[.int .i64 0] N)[i]? = some (.int .i64 0) := fun i hi => by
    have := hmade.cellAt (i := i) (by simpa using hi)
    rw [zero_at, World.cell?_alloc_new] at this
    exact this
  have hc0 := hcz 0 (by omega)
  have hc1 := hcz 1 (by omega)
  have hb0 : Below w.heap.size w (w.alloc (.cells (madeCells #[.int .i64 0] N) 2)) := (Below.refl _ _).alloc (Nat.le_refl _) _
  generalize madeCells #[.int .i64 0] N = C at *
  have HM : Hid (NewRow 2 w.heap.size (w.alloc (.cells C 2)) (some ⟨w.heap.size, 0, none⟩) (List.replicate N 0)) := hmade
  have HYB0 : Hid (∀ b o, a = some ⟨b, o, none⟩ → b < w.heap.size) := fun b o e => by
    obtain ⟨b', o', e', hb', _⟩ := hz.at_ (by omega)
    rw [e] at e'
    cases e'
    exact hb'
  obtain ⟨yb, yo, rfl, _, hcy⟩ := (HZ.out _ hb0).at_ (by omega)
  have HYB : Hid (yb < w.heap.size) := HYB0.out _ _ rfl
  clear HYB0
  have hcy0 := hcy 0 (by omega)
  rw [Nat.add_zero] at hcy0
  have hcyA : ∀ o, (w.alloc o).cell? ⟨yb, yo, none⟩ = some (.int .i64 (ys[0]?.getD 0)) := fun o => by
    rw [World.cell?_alloc_lt _ _ _ HYB.out] at hcy0 ⊢
    exact hcy0
  have hy0 := HY.out 0 (by omega)
  have HS : Hid (NewRow 2 w.heap.size (w.alloc (.cells ((C.setIfInBounds 0 (.int .i64 65536)).setIfInBounds 1 (.int .i64 (-(ys[0]?.getD 0)))) 2)) (some ⟨w.heap.size, 0, none⟩) (polyP ys N 1) ∧ Below w.heap.size w (w.alloc (.cells ((C.setIfInBounds 0 (.int .i64 65536)).setIfInBounds 1 (.int .i64 (-(ys[0]?.getD 0)))) 2))) := by
    refine ⟨?_, (Below.refl _ _).alloc (Nat.le_refl _) _⟩
    have h := (HM.out.set 0 65536).set 1 (-(ys[0]?.getD 0))
    rw [H1.out, World.setCell_alloc_new, World.setCell_alloc_new] at h
    exact h
  have hnp : (0 : Int) < (n : Int) := by omega
  have hNp : (1 : Int) < (N : Int) := by omega
  generalize ys[0]?.getD 0 = y0 at *
  clear hz hcy hmade hb0 hcz HM H1 hy
  rw [← hN]
  have HNN : Hid (N = n + 1) := hN
  clear hN
  go_enter Try.func52, Try.ntmps52
  go_wp2
  go_loopw [4, 5] (fun k _ W => ∃ t : Nat, 1 ≤ t ∧ t ≤ n ∧ k = .int .i64 t ∧ Hid (NewRow 2 w.heap.size W (some ⟨w.heap.size, 0, none⟩) (polyP ys N t) ∧ Below w.heap.size w W)) (fun k _ _ => n - (intOf k).toNat)
  case atStart => exact ⟨1, Nat.le_refl _, h1, rfl, HS.out⟩
  case round =>
    clear HS
    obtain ⟨t, ht1, ht2, rfl, HH⟩ := hrel
    by_cases hlt : t < n
    · have hlt' : ((t : Int) < (n : Int)) = True := eq_true (by omega)
      have hNN := HNN.out
      have l1 : (polyP ys N t).length = N := polyP_len (by omega)
      have l2 : (polyP ys N (t + 1)).length = N := polyP_len (by omega)
      have hst := polyP_start (ys := ys) (n := N) (k := t) ht1 (by omega)
      have hen := polyP_end (ys := ys) (n := N) (k := t) ht1 (by omega)
      have htop := polyP_top (ys := ys) (n := N) (k := t) ht1
      have HONE := polyP_one (ys := ys) (n := N) (k := t) ht1
      have HMID : Hid (∀ i, 2 ≤ i → i ≤ t → (polyP ys N (t + 1))[i]?.getD 0 = (polyP ys N t)[i]?.getD 0 + ((polyP ys N t)[i - 2]?.getD 0 - mulI (atZ ys t) ((polyP ys N t)[i - 1]?.getD 0) 16)) := fun i h2 hi => polyP_mid h2 hi
      have HIN : Hid (∀ i : Nat, -251871798400 ≤ (polyP ys N t)[i]?.getD 0 ∧ (polyP ys N t)[i]?.getD 0 ≤ 251871798400) := fun i => HP.out t i (by omega)
      have hyt : -262148 ≤ atZ ys t ∧ atZ ys t ≤ 262148 := HY.out t hlt
      obtain ⟨yb2, yo2, hyy, _, hcy⟩ := (HZ.out _ HH.out.2).at_ (by omega)
      obtain ⟨rfl, rfl⟩ : yb = yb2 ∧ yo = yo2 := by cases hyy; exact ⟨rfl, rfl⟩
      have hct := hcy t hlt
      have hct' : wr.cell? ⟨yb, yo + t, none⟩ = some (.int .i64 (atZ ys t)) := hct
      clear hcy hct hyy
      have HROW := HH.out.1
      have hcell : ∀ i, i < N → wr.cell? ⟨w.heap.size, i, none⟩ = some (.int .i64 ((polyP ys N t)[i]?.getD 0)) := fun i hi => HROW.cellAt (by omega)
      have hcA := hcell (t - 1) (by omega)
      have hcB := hcell t (by omega)
      obtain ⟨xC, hcC⟩ : ∃ x, wr.cell? ⟨w.heap.size, t + 1, none⟩ = some x := ⟨_, hcell (t + 1) (by omega)⟩
      have hfC := HROW.frozenAt (by omega) (t + 1)
      replace HONE : Hid _ := HONE
      have HEN : Hid _ := hen
      clear hen
      generalize polyP ys N t = F at *
      generalize hG : polyP ys N (t + 1) = G at *
      have HG : Hid (polyP ys N (t + 1) = G) := hG
      clear hG
      have hye : ys[t]?.getD 0 = atZ ys t := rfl
      generalize atZ ys t = y at *
      have HYE : Hid (ys[t]?.getD 0 = y) := hye
      clear hye
      have inA := HIN.out (t - 1)
      have inB := HIN.out t
      generalize F[t - 1]?.getD 0 = p at *
      generalize F[t]?.getD 0 = q at *
      have inM := mul16_far hyt inB
      generalize hm0 : mulI y q 16 = m0 at *
      have HMUL : Hid (∀ W, Calls Try.prog 33 #[.int .i64 y, .int .i64 q, .int .i64 16] W fun e w' => e = .returned (.int .i64 m0) ∧ w' = W) := fun W => by rw [← hm0]; exact rmul_any _ _ _ _
      obtain ⟨j, hj⟩ : ∃ j : Nat, j = t + 1 := ⟨_, rfl⟩
      have HWA : Hid (IntKind.i64.wrap (2 * p) = 2 * p) := by show _ = _; rw [IntKind.wrap_i64]; omega
      have HWB : Hid (IntKind.i64.wrap (2 * p - m0) = 2 * p - m0) := by show _ = _; rw [IntKind.wrap_i64]; omega
      have HX : Hid (∀ nq, Hid (NewRow 2 w.heap.size ((wr.drewN nq).setCell ⟨w.heap.size, j, none⟩ (.int .i64 (2 * p - m0))) (some ⟨w.heap.size, 0, none⟩) (mixL F G j) ∧ Below w.heap.size w ((wr.drewN nq).setCell ⟨w.heap.size, j, none⟩ (.int .i64 (2 * p - m0))))) := fun nq =>
        ⟨by rw [hj, ← mixL_back l1 l2 (show t + 1 < N by omega), hst, htop]; exact (HROW.drewN nq).set (t + 1) _, (below_drewN HH.out.2 nq).setCell (p := ⟨w.heap.size, j, none⟩) (Nat.le_refl _) _⟩
      have HT : Hid (1 ≤ t ∧ t < n ∧ t + 1 < N ∧ N ≤ 9) := by show _ ∧ _; omega
      have hw2 : IntKind.i64.wrap ((t : Int) + 1) = (j : Int) := by rw [IntKind.wrap_i64]; omega
      have htN : (j : Int) < (N : Int) := by omega
      rw [← hj] at hcC hfC
      have htN2 : (t : Int) < (N : Int) := by omega
      have hw1 : IntKind.i64.wrap ((t : Int) - 1) = ((t - 1 : Nat) : Int) := by rw [IntKind.wrap_i64]; omega
      have hi1 : (0 : Int) ≤ ((t - 1 : Nat) : Int) := by omega
      have hi2 : ((t - 1 : Nat) : Int) < (N : Int) := by omega
      have hi3 : (0 : Int) ≤ (j : Int) := by omega
      have hi4 : (0 : Int) ≤ (t : Int) := by omega
      have HJ : Hid (j = t + 1) := hj
      clear hj hm0 HROW hcell hst htop HH hNN HY
      go_wp2
      refine wp_region_last (by kernel_rfl) (by kernel_rfl) (by rfl) (by kernel_rfl) ?_
      dsimp only [List.dropLast]
      repeat (quiet_step (first | (go_at_call 33; exact Calls.quiet_of_same (HMUL.out _))))
      refine wpQuiet_nil ?_
      rintro _ ⟨nq, rfl⟩
      go_simp
      rw [HWA.out, HWB.out]
      have HS2 := HX.out nq
      clear HX HMUL hcA hcB hcC hfC hct' HWA HWB hw2 hw1 htN htN2 hi1 hi2 hi3 inA inB inM
      generalize (wr.drewN nq).setCell ⟨w.heap.size, j, none⟩ (.int .i64 (2 * p - m0)) = W0 at *
      go_wp2
      go_loopw [5] (fun i W => ∃ m : Nat, 1 ≤ m ∧ m ≤ t ∧ i = .int .i64 m ∧ Hid (NewRow 2 w.heap.size W (some ⟨w.heap.size, 0, none⟩) (mixL F G (m + 1)) ∧ Below w.heap.size w W)) (fun i _ => (intOf i).toNat)
      case atStart => exact ⟨t, HT.out.1, Nat.le_refl _, rfl, by have := HS2.out; rwa [HJ.out] at this⟩
      case round =>
        clear HS2
        obtain ⟨m, hm1, hm2, rfl, HH⟩ := hrel
        have hNt := HT.out.2.2.1
        have hN9 := HT.out.2.2.2
        obtain ⟨yb2, yo2, hyy, _, hcy⟩ := (HZ.out _ HH.out.2).at_ (by omega)
        obtain ⟨rfl, rfl⟩ : yb = yb2 ∧ yo = yo2 := by cases hyy; exact ⟨rfl, rfl⟩
        have hct := hcy t hlt
        rw [HYE.out] at hct
        clear hcy hyy
        by_cases hm : 2 ≤ m
        · have hm' : ((2 : Int) ≤ (m : Int)) = True := eq_true (by omega)
          obtain ⟨i1, hi1⟩ : ∃ i : Nat, i = m - 1 := ⟨_, rfl⟩
          obtain ⟨i2, hi2⟩ : ∃ i : Nat, i = m - 2 := ⟨_, rfl⟩
          have hlen := mixL_len l1 l2 (show m + 1 ≤ N by omega)
          have hcell : ∀ i, i < m + 1 → wr.cell? ⟨w.heap.size, i, none⟩ = some (.int .i64 (F[i]?.getD 0)) := fun i hi => by
            have := HH.out.1.cellAt (i := i) (by omega)
            rwa [mixL_get l1 l2 (by omega), if_pos hi] at this
          have hc0 := hcell m (by omega)
          have hc1 := hcell i1 (by omega)
          have hc2 := hcell i2 (by omega)
          have hf := HH.out.1.frozenAt (by omega) m
          have hgm := HMID.out m hm hm2
          rw [← hi1, ← hi2] at hgm
          have in0 := HIN.out m
          have in1 := HIN.out i1
          have in2 := HIN.out i2
          have hbk := mixL_back l1 l2 (show m < N by omega)
          rw [hgm, ← Int.add_sub_assoc] at hbk
          generalize F[m]?.getD 0 = x0 at *
          generalize F[i1]?.getD 0 = x1 at *
          generalize F[i2]?.getD 0 = x2 at *
          have inM := mul16_far hyt in1
          generalize hm0 : mulI y x1 16 = mm at *
          have HMUL : Hid (∀ W, Calls Try.prog 33 #[.int .i64 y, .int .i64 x1, .int .i64 16] W fun e w' => e = .returned (.int .i64 mm) ∧ w' = W) := fun W => by rw [← hm0]; exact rmul_any _ _ _ _
          have HWA : Hid (IntKind.i64.wrap (x0 + x2) = x0 + x2) := by show _ = _; rw [IntKind.wrap_i64]; omega
          have HWB : Hid (IntKind.i64.wrap (x0 + x2 - mm) = x0 + x2 - mm) := by show _ = _; rw [IntKind.wrap_i64]; omega
          have HX : Hid (∀ nq, NewRow 2 w.heap.size ((wr.drewN nq).setCell ⟨w.heap.size, m, none⟩ (.int .i64 (x0 + x2 - mm))) (some ⟨w.heap.size, 0, none⟩) (mixL F G m) ∧ Below w.heap.size w ((wr.drewN nq).setCell ⟨w.heap.size, m, none⟩ (.int .i64 (x0 + x2 - mm)))) := fun nq =>
            ⟨by rw [← hbk]; exact (HH.out.1.drewN nq).set m _, (below_drewN HH.out.2 nq).setCell (p := ⟨w.heap.size, m, none⟩) (Nat.le_refl _) _⟩
          have hw1 : IntKind.i64.wrap ((m : Int) - 1) = (i1 : Int) := by rw [IntKind.wrap_i64]; omega
          have hw2 : IntKind.i64.wrap ((m : Int) - 2) = (i2 : Int) := by rw [IntKind.wrap_i64]; omega
          have hj0 : (0 : Int) ≤ (m : Int) := by omega
          have hj1 : (0 : Int) ≤ (i1 : Int) := by omega
          have hj2 : (0 : Int) ≤ (i2 : Int) := by omega
          have hl0 : (m : Int) < (N : Int) := by omega
          have hl1 : (i1 : Int) < (N : Int) := by omega
          have hl2 : (i2 : Int) < (N : Int) := by omega
          have HM1 : Hid (1 ≤ i1 ∧ i1 ≤ t ∧ i1 + 1 = m ∧ i1 < m) := by show _ ∧ _; omega
          clear hbk hgm hcell hm0 HH hlen hi1 hi2 in0 in1 in2 inM HIN HMID
          go_wp2
          refine wp_region_last (by kernel_rfl) (by kernel_rfl) (by rfl) (by kernel_rfl) ?_
          dsimp only [List.dropLast]
          repeat (quiet_step (first | (go_at_call 33; exact Calls.quiet_of_same (HMUL.out _))))
          refine wpQuiet_nil ?_
          rintro _ ⟨nq, rfl⟩
          go_simp
          rw [HWA.out, HWB.out]
          clear HMUL hc0 hc1 hc2 hct
          go_wp2
          go_roundw
          case rel => exact ⟨i1, HM1.out.1, HM1.out.2.1, by go_num, by rw [HM1.out.2.2.1]; exact HX.out nq⟩
          case measure => simp [intOf]; exact HM1.out.2.2.2
        · have hm1' : m = 1 := by omega
          subst hm1'
          have hlen := mixL_len l1 l2 (show 1 + 1 ≤ N by omega)
          have hc1 := HH.out.1.cellAt (i := 1) (by omega)
          rw [mixL_get l1 l2 (by omega), if_pos (by omega)] at hc1
          have hf := HH.out.1.frozenAt (by omega) 1
          have in1 := HIN.out 1
          have hbk := mixL_back l1 l2 (show 1 < N by omega)
          rw [HONE.out, HEN.out] at hbk
          have hNl : (1 : Int) < (N : Int) := by omega
          clear HONE
          generalize F[1]?.getD 0 = x1 at *
          have HWA : Hid (IntKind.i64.wrap (x1 - y) = x1 - y) := by show _ = _; rw [IntKind.wrap_i64]; omega
          have HX : Hid (∀ nq, Hid (NewRow 2 w.heap.size ((wr.drewN nq).setCell ⟨w.heap.size, 1, none⟩ (.int .i64 (x1 - y))) (some ⟨w.heap.size, 0, none⟩) G ∧ Below w.heap.size w ((wr.drewN nq).setCell ⟨w.heap.size, 1, none⟩ (.int .i64 (x1 - y))))) := fun nq =>
            ⟨by rw [← hbk]; exact (HH.out.1.drewN nq).set 1 _, (below_drewN HH.out.2 nq).setCell (p := ⟨w.heap.size, 1, none⟩) (Nat.le_refl _) _⟩
          have hj1 : ((2 : Int) ≤ 1) = False := eq_false (by omega)
          rw [← HG.out] at HX
          clear hbk HH hlen in1 HIN HMID
          go_wp2
          refine wp_region_last (by kernel_rfl) (by kernel_rfl) (by rfl) (by kernel_rfl) ?_
          dsimp only [List.dropLast]
          repeat (quiet_step (fail))
          refine wpQuiet_nil ?_
          rintro _ ⟨nq, rfl⟩
          go_simp
          rw [HWA.out]
          clear hc1 hct
          go_wp2
          go_roundw
          case rel => exact ⟨t + 1, by omega, by omega, by go_num, HX.out nq⟩
          case measure => simp [intOf]; omega
    · have hlt' : ((t : Int) < (n : Int)) = False := eq_false (by omega)
      have ht : t = n := by omega
      subst ht
      rw [HE.out] at HH
      clear HE HP HZ HY
      go_wp2
      go_ret
      exact ⟨_, rfl, HH.out⟩

end Go.Proofs.Ytjaccokmficfdaa
