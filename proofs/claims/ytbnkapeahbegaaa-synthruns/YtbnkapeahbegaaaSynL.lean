/- The document's own Run. (By wip/mkrrun10.py.) -/
import Derived.Test.YtbnkapeahbegaaaSynK
import Derived.Test.YtbnkapeahbegaaaLastOp
namespace Go.Proofs.Ytbnkapeahbegaaa
open Go.RowKit

theorem aheadI_reverse (zs : List Int) (m : Int) (k : Nat) (hm : m = (k : Int)) (hk : 1 ≤ k) : aheadI zs m = pastI zs.reverse k := by
  subst hm
  exact aheadI_past zs hk

theorem sounds_step {p : PartP} {l D E : List Int} {k : Nat} (hk : k < l.length) : soundsL p (l.take (k + 1)) D E = soundsL p (l.take k) D E ++ [outI p (driveI p (l[k]?.getD 0) (drovL p (l.take k) D E).reverse) (cameL p (l.take k) D E).reverse] := by
  rw [drovL_reverse, cameL_reverse]
  unfold soundsL
  rw [take_snoc hk, runS_snoc]

theorem five_at {W : World} {g : Nat} {t0 t1 t2 t3 t4 : Int} {T : TypeId} (h : W.heap[g]? = some (.cells #[.int .i64 t0, .int .i64 t1, .int .i64 t2, .int .i64 t3, .int .i64 t4] T (0, 0))) (j : Nat) (hj : j < 5) : W.cell? ⟨g, j, none⟩ = some (.int .i64 ([t0, t1, t2, t3, t4][j]?.getD 0)) := by
  rw [cell_of_row W g j _ _ (0, 0) h]
  match j, hj with
  | 0, _ => rfl
  | 1, _ => rfl
  | 2, _ => rfl
  | 3, _ => rfl
  | 4, _ => rfl

set_option maxRecDepth 100000 in
set_option maxHeartbeats 4000000 in
theorem rrun_any (p : Nat) (v1 v2 : Value) (X Y : List Int) (S : Nat → Prop) (a : Option Addr) (n cap : Nat) (l : List Int) (loud lag t0 t1 t2 t3 t4 : Int) (fa : Option Addr) (fn fcap : Nat) (f : List Int) (w : World) (ht : Trio w S p v1 v2 (.slice none 0 0) X Y [] w) (hS : ∀ k, S k → k < w.heap.size) (hXl : X.length ≤ 320) (hYl : Y.length ≤ 32) (hXt : Tame X.reverse) (hYt : Tame Y.reverse) (hz : Zs w a n l) (hf : Zs w fa fn f) (ha : 0 < n → ∀ x, a = some x → ¬ S x.block) (hfa : 0 < fn → ∀ x, fa = some x → ¬ S x.block) (hg : goodB l loud lag [t0, t1, t2, t3, t4] f = true) :
    Calls Try.prog 16 #[.pointer (some ⟨p, 0, none⟩), .slice a n cap, .int .i64 loud, .int .i64 lag, .agg #[.int .i64 t0, .int .i64 t1, .int .i64 t2, .int .i64 t3, .int .i64 t4], .slice fa fn fcap] w fun e w' =>
      ∃ u1 u2 g c, e = .returned (.slice (some ⟨g, 0, none⟩) n c) ∧ w.heap.size ≤ g ∧ Zs w' (some ⟨g, 0, none⟩) n (soundsL ⟨loud, lag.toNat, [t0, t1, t2, t3, t4], f⟩ l X Y) ∧ Trio w S p u1 u2 (.slice none 0 0) (lastI (drovL ⟨loud, lag.toNat, [t0, t1, t2, t3, t4], f⟩ l X Y) 320) (lastI (cameL ⟨loud, lag.toNat, [t0, t1, t2, t3, t4], f⟩ l X Y) 32) [] w' := by
  obtain ⟨hfine, hn1, hn2, hlag, hpul⟩ := goodB_fine hg
  rw [hz.len] at hn1 hn2
  have hfl := hfine.flen
  rw [hf.len] at hfl
  have hbw : Below w.heap.size w (w.alloc (.cells #[.int .i64 t0, .int .i64 t1, .int .i64 t2, .int .i64 t3, .int .i64 t4] 29)) := (Below.refl _ _).alloc (Nat.le_refl _) _
  have HBACK : Hid (∀ u1 u2 v3 X' Y' Z' W, Trio (w.alloc (.cells #[.int .i64 t0, .int .i64 t1, .int .i64 t2, .int .i64 t3, .int .i64 t4] 29)) S p u1 u2 v3 X' Y' Z' W → Trio w S p u1 u2 v3 X' Y' Z' W) := fun u1 u2 v3 X' Y' Z' W h => h.back hbw
  have HT : Hid (Trio (w.alloc (.cells #[.int .i64 t0, .int .i64 t1, .int .i64 t2, .int .i64 t3, .int .i64 t4] 29)) S p v1 v2 (.slice none 0 0) X Y [] (w.alloc (.cells #[.int .i64 t0, .int .i64 t1, .int .i64 t2, .int .i64 t3, .int .i64 t4] 29))) := ht.base hbw
  have HZ : Hid (∀ W, Moved S (w.alloc (.cells #[.int .i64 t0, .int .i64 t1, .int .i64 t2, .int .i64 t3, .int .i64 t4] 29)) W → Zs W a n l) := fun W h => ((Moved.of_below hbw).trans h).zs hz ha
  have HF : Hid (∀ W, Moved S (w.alloc (.cells #[.int .i64 t0, .int .i64 t1, .int .i64 t2, .int .i64 t3, .int .i64 t4] 29)) W → Zs W fa fn f) := fun W h => ((Moved.of_below hbw).trans h).zs hf hfa
  have HTP : Hid (∀ W, Moved S (w.alloc (.cells #[.int .i64 t0, .int .i64 t1, .int .i64 t2, .int .i64 t3, .int .i64 t4] 29)) W → ∀ j, j < 5 → W.cell? ⟨w.heap.size, j, none⟩ = some (.int .i64 ([t0, t1, t2, t3, t4][j]?.getD 0))) := fun W h j hj =>
    five_at ((h.block w.heap.size (by simp) (fun hs => by have := hS _ hs; omega)).trans (heap_alloc_new w _)) j hj
  have HFINE : Hid (PartP.Fine ⟨loud, lag.toNat, [t0, t1, t2, t3, t4], f⟩ ∧ lag = (lag.toNat : Int) ∧ ∀ k : Nat, -16 ≤ l[k]?.getD 0 ∧ l[k]?.getD 0 ≤ 16) := ⟨hfine, hlag, hpul⟩
  have HL : Hid (l.length = n ∧ f.length = fn) := ⟨hz.len, hf.len⟩
  have HXY : Hid (X.length ≤ 320 ∧ Y.length ≤ 32 ∧ Tame X.reverse ∧ Tame Y.reverse) := ⟨hXl, hYl, hXt, hYt⟩
  have HST : Hid (Trio (w.alloc (.cells #[.int .i64 t0, .int .i64 t1, .int .i64 t2, .int .i64 t3, .int .i64 t4] 29)) S p v1 v2 (.slice none 0 0) (drovL ⟨loud, lag.toNat, [t0, t1, t2, t3, t4], f⟩ (l.take 0) X Y) (cameL ⟨loud, lag.toNat, [t0, t1, t2, t3, t4], f⟩ (l.take 0) X Y) (soundsL ⟨loud, lag.toNat, [t0, t1, t2, t3, t4], f⟩ (l.take 0) X Y) (w.alloc (.cells #[.int .i64 t0, .int .i64 t1, .int .i64 t2, .int .i64 t3, .int .i64 t4] 29))) := by
    show Trio _ _ _ _ _ _ _ _ _ _
    rw [drov_none, came_none]
    exact HT.out
  have HSZ : Hid (w.heap.size < (w.alloc (.cells #[.int .i64 t0, .int .i64 t1, .int .i64 t2, .int .i64 t3, .int .i64 t4] 29)).heap.size) := by show _ < _; simp
  clear ht hXl hYl hXt hYt hz hf ha hfa hg hfine hlag hpul HT hbw hS
  go_enter Try.func16, Try.ntmps16
  go_wp2
  generalize w.alloc (.cells #[.int .i64 t0, .int .i64 t1, .int .i64 t2, .int .i64 t3, .int .i64 t4] 29) = w1 at *
  go_loopw [13, 14, 15, 16, 17, 18] (fun v i _ _ _ _ W => ∃ (k : Nat) (u1 u2 : Value), k ≤ n ∧ i = .int .i64 k ∧ Hid (Trio w1 S p u1 u2 v (drovL ⟨loud, lag.toNat, [t0, t1, t2, t3, t4], f⟩ (l.take k) X Y) (cameL ⟨loud, lag.toNat, [t0, t1, t2, t3, t4], f⟩ (l.take k) X Y) (soundsL ⟨loud, lag.toNat, [t0, t1, t2, t3, t4], f⟩ (l.take k) X Y) W)) (fun _ i _ _ _ _ _ => n - (intOf i).toNat)
  case atStart => exact ⟨0, v1, v2, Nat.zero_le _, rfl, HST⟩
  case round =>
    clear HST
    obtain ⟨k, u1, u2, hk, rfl, HH⟩ := hrel
    by_cases hlt : k < n
    · have hA1 := drov_step (p := ⟨loud, lag.toNat, [t0, t1, t2, t3, t4], f⟩) (D := X) (E := Y) (l := l) (k := k) (by rw [HL.out.1]; exact hlt)
      have hB1 := came_step (p := ⟨loud, lag.toNat, [t0, t1, t2, t3, t4], f⟩) (D := X) (E := Y) (l := l) (k := k) (by rw [HL.out.1]; exact hlt)
      have hC1 := sounds_step (p := ⟨loud, lag.toNat, [t0, t1, t2, t3, t4], f⟩) (D := X) (E := Y) (l := l) (k := k) (by rw [HL.out.1]; exact hlt)
      have hAl : (drovL ⟨loud, lag.toNat, [t0, t1, t2, t3, t4], f⟩ (l.take k) X Y).length ≤ 800 := by
        rw [drovL_len, List.length_take]
        have := HXY.out.1
        have := HL.out.1
        omega
      have hBl : (cameL ⟨loud, lag.toNat, [t0, t1, t2, t3, t4], f⟩ (l.take k) X Y).length ≤ 520 := by
        rw [cameL_len, List.length_take]
        have := HXY.out.2.1
        have := HL.out.1
        omega
      have hCl : (soundsL ⟨loud, lag.toNat, [t0, t1, t2, t3, t4], f⟩ (l.take k) X Y).length ≤ 480 := by
        rw [soundsL_len, List.length_take]
        have := HL.out.1
        omega
      have hAt : Tame (drovL ⟨loud, lag.toNat, [t0, t1, t2, t3, t4], f⟩ (l.take k) X Y).reverse := drov_tame HXY.out.2.2.1 HXY.out.2.2.2
      have hBt : Tame (cameL ⟨loud, lag.toNat, [t0, t1, t2, t3, t4], f⟩ (l.take k) X Y).reverse := came_tame HXY.out.2.2.1 HXY.out.2.2.2
      have hx16 := HFINE.out.2.2 k
      obtain ⟨b, off, rfl, _, hca⟩ := (HZ.out _ HH.out.moved).at_ (by omega)
      have hcx := hca k hlt
      clear hca
      generalize l[k]?.getD 0 = xv at *
      generalize drovL ⟨loud, lag.toNat, [t0, t1, t2, t3, t4], f⟩ (l.take k) X Y = A at *
      generalize cameL ⟨loud, lag.toNat, [t0, t1, t2, t3, t4], f⟩ (l.take k) X Y = B at *
      generalize soundsL ⟨loud, lag.toNat, [t0, t1, t2, t3, t4], f⟩ (l.take k) X Y = C at *
      have hy := loud_in HFINE.out.1 hx16.1 hx16.2
      obtain ⟨y, hye⟩ : ∃ y : Int, xv * loud = y := ⟨_, rfl⟩
      change -4194304 ≤ xv * loud ∧ xv * loud ≤ 4194304 at hy
      rw [hye] at hy
      obtain ⟨a1, c1, a2, c2, a3, c3, rfl, rfl, rfl, hz1, hz2, hz3, hcl1, hcl2⟩ := HH.out.forms
      have a5 : IntKind.i64.wrap (xv * loud) = y := by rw [hye, IntKind.wrap_i64]; omega
      have a8 : wrap64 (xv * loud) = y := by rw [hye]; unfold wrap64; omega
      have HA : Hid (Zs wr a1 A.length A) := hz1
      have HB : Hid (Zs wr a2 B.length B) := hz2
      have HAB : Hid (Tame A.reverse ∧ Tame B.reverse) := ⟨hAt, hBt⟩
      obtain ⟨hp0, hp1, hpf0, hpf1⟩ := HH.out.cells
      obtain ⟨rv, hrv⟩ : ∃ rv : Int, driveI ⟨loud, lag.toNat, [t0, t1, t2, t3, t4], f⟩ xv A.reverse = rv := ⟨_, rfl⟩
      have hrvi : -16777216 ≤ rv ∧ rv ≤ 16777216 := by rw [← hrv]; exact keep24_in _
      obtain ⟨ov, hov⟩ : ∃ ov : Int, outI ⟨loud, lag.toNat, [t0, t1, t2, t3, t4], f⟩ rv B.reverse = ov := ⟨_, rfl⟩
      rw [hrv] at hA1 hB1 hC1
      rw [hov] at hB1 hC1
      have HRV : Hid (driveI ⟨loud, lag.toNat, [t0, t1, t2, t3, t4], f⟩ xv A.reverse = rv) := hrv
      have HYE : Hid (xv * loud = y) := hye
      have HOV : Hid (keep24 (filtN ⟨loud, lag.toNat, [t0, t1, t2, t3, t4], f⟩ B.reverse rv fn) = ov) := by
        show _ = _
        rw [← hov]
        show _ = keep24 (filtN ⟨loud, lag.toNat, [t0, t1, t2, t3, t4], f⟩ B.reverse rv f.length)
        rw [HL.out.2]
      have HN1 : Hid (drovL ⟨loud, lag.toNat, [t0, t1, t2, t3, t4], f⟩ (l.take (k + 1)) X Y = A ++ [rv] ∧ cameL ⟨loud, lag.toNat, [t0, t1, t2, t3, t4], f⟩ (l.take (k + 1)) X Y = B ++ [ov] ∧ soundsL ⟨loud, lag.toNat, [t0, t1, t2, t3, t4], f⟩ (l.take (k + 1)) X Y = C ++ [ov]) := ⟨hA1, hB1, hC1⟩
      have HLAG : Hid (lag = (lag.toNat : Int) ∧ (lag.toNat = 0 ∨ 3 ≤ lag.toNat ∧ lag.toNat ≤ 318)) := ⟨HFINE.out.2.1, HFINE.out.1.lag⟩
      have HFILT : Hid (∀ j : Nat, -131072 ≤ f[j]?.getD 0 ∧ f[j]?.getD 0 ≤ 131072) := HFINE.out.1.filts
      have HBI : Hid (∀ j, j ≤ fn → -17213423616 ≤ filtN ⟨loud, lag.toNat, [t0, t1, t2, t3, t4], f⟩ B.reverse rv j ∧ filtN ⟨loud, lag.toNat, [t0, t1, t2, t3, t4], f⟩ B.reverse rv j ≤ 17213423616) := fun j hj => by
        have := filtN_in HFINE.out.1 hBt rv j
        omega
      have HAI : Hid (∀ j, j ≤ 5 → -88080384 ≤ lagsN ⟨loud, lag.toNat, [t0, t1, t2, t3, t4], f⟩ A.reverse y j ∧ lagsN ⟨loud, lag.toNat, [t0, t1, t2, t3, t4], f⟩ A.reverse y j ≤ 88080384) := fun j hj => by
        have := lagsN_in HFINE.out.1 hAt y j
        omega
      have HLS : Hid (A.length ≤ 800 ∧ B.length ≤ 520 ∧ C.length ≤ 480) := ⟨hAl, hBl, hCl⟩
      clear hA1 hB1 hC1 hAl hBl hCl hAt hBt hx16 hye hy hrv hov hz1 hz2 hz3 hrvi hcl1 hcl2
      rcases HLAG.out.2 with hl0 | hl3
      · have hlz : lag = 0 := by have := HLAG.out.1; omega
        have hl1 : ((0 : Int) < lag) = False := eq_false (by omega)
        have HR5 : Hid (keep24 y = rv) := by
          show _ = _
          rw [← HRV.out]
          unfold driveI
          rw [if_pos (show lag.toNat = 0 by omega)]
          show _ = keep24 (xv * loud)
          rw [HYE.out]
        have HW1 : Hid (Trio w1 S p (.slice a1 A.length c1) (.slice a2 B.length c2) (.slice a3 C.length c3) A B C wr) := HH.out
        clear hl0 hlz HLAG HRV HYE HAI HA HH HTP
        obtain ⟨hp0, hp1, hpf0, hpf1⟩ := HW1.out.cells
        have HK : Hid (∀ V, Calls Try.prog 29 #[.int .i64 y] V fun e w' => e = .returned (.int .i64 rv) ∧ w' = V) := fun V => by rw [← HR5.out]; exact rkeep_any _ _
        have HFW : Hid (Zs wr fa fn f) := HF.out _ HW1.out.moved
        have HSTEP : Hid (∀ j, j < fn → filtN ⟨loud, lag.toNat, [t0, t1, t2, t3, t4], f⟩ B.reverse rv (j + 1) = filtN ⟨loud, lag.toNat, [t0, t1, t2, t3, t4], f⟩ B.reverse rv j + mulI (f[j]?.getD 0) (aheadI B ((j : Int) + 1)) 12) := fun j hj => by
          rw [aheadI_reverse B _ (j + 1) (by omega) (by omega)]
          rfl
        have HSTART : Hid (filtN ⟨loud, lag.toNat, [t0, t1, t2, t3, t4], f⟩ B.reverse rv 0 = rv) := rfl
        have hBl := HLS.out.2.1
        have y1 : Hid True := trivial
        have y2 : Hid True := trivial
        clear HR5
        generalize filtN ⟨loud, lag.toNat, [t0, t1, t2, t3, t4], f⟩ B.reverse rv = F2 at *
        go_wp2_with (go_at_call 29; refine (HK.out _).mono ?_; rintro e wr ⟨rfl, rfl⟩)
        go_loopw [17, 18] (fun o j V => (∃ d, V = wr.drewN d) ∧ ∃ (jn : Nat) (q2 : Int), jn ≤ fn ∧ j = .int .i64 jn ∧ o = .int .i64 q2 ∧ Hid (q2 = F2 jn)) (fun _ j _ => fn - (intOf j).toNat)
        case atStart => exact ⟨⟨0, rfl⟩, 0, rv, Nat.zero_le _, rfl, rfl, HSTART.out.symm⟩
        case round =>
          clear HSTART HK
          obtain ⟨⟨d2, rfl⟩, j, q2, hj, rfl, rfl, HQ⟩ := hrel
          by_cases hlj : j < fn
          · have hst := HSTEP.out j hlj
            obtain ⟨b2, o2, rfl, _, hcf⟩ := HFW.out.at_ (by omega)
            have hct := hcf j hlj
            have hb1 := HBI.out j hj
            have hb2 := HBI.out (j + 1) hlj
            clear hcf
            generalize f[j]?.getD 0 = tj at hst hct
            obtain ⟨z, hze⟩ : ∃ z : Int, aheadI B ((j : Int) + 1) = z := ⟨_, rfl⟩
            obtain ⟨mz, hmz⟩ : ∃ mz : Int, mulI tj z 12 = mz := ⟨_, rfl⟩
            rw [hze, hmz, ← HQ.out] at hst
            rw [← HQ.out] at hb1
            rw [hst] at hb2
            have HAH : Hid (∀ V : World, (∃ d, V = wr.drewN d) → Calls Try.prog 28 #[.slice a2 B.length c2, .int .i64 ((j : Int) + 1)] V fun e w' => e = .returned (.int .i64 z) ∧ w' = V) := fun V ⟨d, hd⟩ => by
              subst hd
              rw [← hze]
              exact ahead_any a2 B.length c2 B _ _ (HB.out.drewN d) (by omega)
            have HMU : Hid (∀ V, Calls Try.prog 27 #[.int .i64 tj, .int .i64 z, .int .i64 12] V fun e w' => e = .returned (.int .i64 mz) ∧ w' = V) := fun V => by rw [← hmz]; exact rmul_any _ _ _ _
            have HNX : Hid (q2 + mz = F2 (j + 1)) := hst.symm
            have e1 : IntKind.i64.wrap ((j : Int) + 1) = (j : Int) + 1 := by rw [IntKind.wrap_i64]; omega
            have e3 : IntKind.i64.wrap (q2 + mz) = q2 + mz := by rw [IntKind.wrap_i64]; omega
            clear hst hze hmz hb1 hb2 HQ HBI HSTEP HFW HB HOV HN1 HFILT HW1
            go_wp2
            go_quiet (first
              | (go_at_call 28; exact (HAH.out _ ⟨_, rfl⟩).mono (fun _ _ ⟨he, hw⟩ => ⟨he, _, hw⟩))
              | (go_at_call 27; exact (HMU.out _).mono (fun _ _ ⟨he, hw⟩ => ⟨he, _, hw⟩)))
            go_wp2
            go_roundw
            case rel => exact ⟨⟨_, rfl⟩, j + 1, _, by omega, by go_num, rfl, HNX.out⟩
            case measure => simp [intOf]; omega
          · obtain rfl : j = fn := by omega
            have HKO : Hid (∀ V, Calls Try.prog 29 #[.int .i64 q2] V fun e w' => e = .returned (.int .i64 ov) ∧ w' = V) := fun V => by
              rw [← HOV.out, ← HQ.out]
              exact rkeep_any _ _
            have HW2 : Hid (Trio w1 S p (.slice a1 A.length c1) (.slice a2 B.length c2) (.slice a3 C.length c3) A B C (wr.drewN d2)) := HW1.out.drewN d2
            clear HW1 HB HFW HSTEP HBI HQ HOV HFILT hp0 hp1 hpf0 hpf1
            generalize wr.drewN d2 = wr2 at *
            obtain ⟨hp0, hp1, hpf0, hpf1⟩ := HW2.out.cells
            have hAl := HLS.out.1
            have hCl := HLS.out.2.2
            go_wp2_with (first
              | (go_at_call 29; refine (HKO.out _).mono ?_; rintro e wr2 ⟨rfl, rfl⟩)
              | (at_builtin; clear y1; go_loud (refine wpList_push_num 0 A.length _ A rv rfl HW2.out.own1 (by omega) (Nat.zero_le _) rfl _ _ rfl rfl _ rfl (by simp) ?_; intro g5 cap5 w5 ho5 hg5 hat5; obtain ⟨hp50, hp51, hpf50, hpf51⟩ := HW2.out.home_grown hg5 HW2.out.row1; have HT5 : Hid (Trio w1 S p (.slice (some ⟨g5, 0, none⟩) (A.length + 1) cap5) (.slice a2 B.length c2) (.slice a3 C.length c3) (A ++ [rv]) B C (w5.setCell ⟨p, 0, none⟩ (.slice (some ⟨g5, 0, none⟩) (A.length + 1) cap5))) := HW2.out.turn1 (by rw [List.length_append]; rfl) ho5 hg5 hat5; clear ho5 hg5 hat5 HW2))
              | (at_builtin; clear y2; go_loud (refine wpList_push_num 0 B.length _ B ov rfl HT5.out.own2 (by omega) (Nat.zero_le _) rfl _ _ rfl rfl _ rfl (by simp) ?_; intro g6 cap6 w6 ho6 hg6 hat6; obtain ⟨hp60, hp61, hpf60, hpf61⟩ := HT5.out.home_grown hg6 HT5.out.row2; have HT6 : Hid (Trio w1 S p (.slice (some ⟨g5, 0, none⟩) (A.length + 1) cap5) (.slice (some ⟨g6, 0, none⟩) (B.length + 1) cap6) (.slice a3 C.length c3) (A ++ [rv]) (B ++ [ov]) C (w6.setCell ⟨p, 1, none⟩ (.slice (some ⟨g6, 0, none⟩) (B.length + 1) cap6))) := HT5.out.turn2 (by rw [List.length_append]; rfl) ho6 hg6 hat6; clear ho6 hg6 hat6 HT5))
              | (at_builtin; go_loud (refine wpList_push_num 0 C.length _ C ov rfl HT6.out.own3 (by omega) (Nat.zero_le _) rfl _ _ rfl rfl _ rfl (by simp) ?_; intro g7 cap7 w7 ho7 hg7 hat7; have HT7 : Hid (Trio w1 S p (.slice (some ⟨g5, 0, none⟩) (A.length + 1) cap5) (.slice (some ⟨g6, 0, none⟩) (B.length + 1) cap6) (.slice (some ⟨g7, 0, none⟩) (C.length + 1) cap7) (A ++ [rv]) (B ++ [ov]) (C ++ [ov]) w7) := HT6.out.push3 rfl ho7 hg7 hat7; clear ho7 hg7 hat7 HT6)))
            go_roundw
            case rel => exact ⟨k + 1, _, _, by omega, by go_num, by show Trio _ _ _ _ _ _ _ _ _ _; rw [HN1.out.1, HN1.out.2.1, HN1.out.2.2]; exact HT7.out⟩
            case measure => simp [intOf]; omega
      · obtain ⟨hl3, hl318⟩ := hl3
        obtain ⟨L, hLe⟩ : ∃ L : Nat, lag.toNat = L := ⟨_, rfl⟩
        have hl1 : ((0 : Int) < lag) = True := eq_true (by have := HLAG.out.1; omega)
        have hl3I : 3 ≤ lag := by have := HLAG.out.1; omega
        have hl318I : lag ≤ 318 := by have := HLAG.out.1; omega
        have HR5 : Hid (∀ q, q = lagsN ⟨loud, lag.toNat, [t0, t1, t2, t3, t4], f⟩ A.reverse y 5 → keep24 q = rv) := fun q hq => by
          rw [← HRV.out, hq]
          unfold driveI
          rw [if_neg (show ¬ lag.toNat = 0 by omega)]
          show _ = keep24 (lagsN _ _ (xv * loud) 5)
          rw [HYE.out]
        have HSTEP : Hid (∀ j, j < 5 → lagsN ⟨loud, lag.toNat, [t0, t1, t2, t3, t4], f⟩ A.reverse y (j + 1) = lagsN ⟨loud, lag.toNat, [t0, t1, t2, t3, t4], f⟩ A.reverse y j + mulI ([t0, t1, t2, t3, t4][j]?.getD 0) (aheadI A (lag - 2 + j)) 7) := fun j hj => by
          rw [aheadI_reverse A _ (L - 2 + j) (by have := HLAG.out.1; omega) (by have := HLAG.out.1; omega)]
          show lagsN _ _ _ j + mulI _ (pastI A.reverse (lag.toNat - 2 + j)) 7 = _
          rw [hLe]
        have HSTART : Hid (lagsN ⟨loud, lag.toNat, [t0, t1, t2, t3, t4], f⟩ A.reverse y 0 = y) := rfl
        have HWT : Hid (∀ d, Trio w1 S p (.slice a1 A.length c1) (.slice a2 B.length c2) (.slice a3 C.length c3) A B C (wr.drewN d)) := fun d => HH.out.drewN d
        have HTPW : Hid (∀ j, j < 5 → wr.cell? ⟨w.heap.size, j, none⟩ = some (.int .i64 ([t0, t1, t2, t3, t4][j]?.getD 0))) := HTP.out _ HH.out.moved
        have hAl := HLS.out.1
        clear hLe HLAG HRV HYE HH HTP hl3 hl318
        generalize lagsN ⟨loud, lag.toNat, [t0, t1, t2, t3, t4], f⟩ A.reverse y = F at *
        go_wp2
        go_loopw [15, 16] (fun r j W => (∃ d, W = wr.drewN d) ∧ ∃ (jn : Nat) (q : Int), jn ≤ 5 ∧ j = .int .i64 jn ∧ r = .int .i64 q ∧ Hid (q = F jn)) (fun _ j _ => 5 - (intOf j).toNat)
        case atStart => exact ⟨⟨0, rfl⟩, 0, y, Nat.zero_le _, rfl, rfl, HSTART.out.symm⟩
        case round =>
          clear HSTART
          obtain ⟨⟨d, rfl⟩, j, q, hj, rfl, rfl, HQ⟩ := hrel
          by_cases hlj : j < 5
          · have hst := HSTEP.out j hlj
            have hct := HTPW.out j hlj
            have hb1 := HAI.out j hj
            have hb2 := HAI.out (j + 1) hlj
            generalize [t0, t1, t2, t3, t4][j]?.getD 0 = tj at hst hct
            obtain ⟨z, hze⟩ : ∃ z : Int, aheadI A (lag - 2 + j) = z := ⟨_, rfl⟩
            obtain ⟨mz, hmz⟩ : ∃ mz : Int, mulI tj z 7 = mz := ⟨_, rfl⟩
            rw [hze, hmz, ← HQ.out] at hst
            rw [← HQ.out] at hb1
            rw [hst] at hb2
            have HAH : Hid (∀ W : World, (∃ d, W = wr.drewN d) → Calls Try.prog 28 #[.slice a1 A.length c1, .int .i64 (lag - 2 + j)] W fun e w' => e = .returned (.int .i64 z) ∧ w' = W) := fun W ⟨d, hd⟩ => by
              subst hd
              rw [← hze]
              exact ahead_any a1 A.length c1 A _ _ (HA.out.drewN d) (by omega)
            have HMU : Hid (∀ W, Calls Try.prog 27 #[.int .i64 tj, .int .i64 z, .int .i64 7] W fun e w' => e = .returned (.int .i64 mz) ∧ w' = W) := fun W => by rw [← hmz]; exact rmul_any _ _ _ _
            have HNX : Hid (q + mz = F (j + 1)) := hst.symm
            have e1 : IntKind.i64.wrap (lag - 2) = lag - 2 := by rw [IntKind.wrap_i64]; omega
            have e2 : IntKind.i64.wrap (lag - 2 + (j : Int)) = lag - 2 + (j : Int) := by rw [IntKind.wrap_i64]; omega
            have e3 : IntKind.i64.wrap (q + mz) = q + mz := by rw [IntKind.wrap_i64]; omega
            have hjI : (j : Int) < 5 := by omega
            have hjI0 : (0 : Int) ≤ (j : Int) := by omega
            clear hst hze hmz hb1 hb2 HQ HAI HSTEP HTPW HR5 HWT HA HB HOV HN1 HFILT HBI
            go_wp2
            go_quiet (first
              | (go_at_call 28; exact (HAH.out _ ⟨_, rfl⟩).mono (fun _ _ ⟨he, hw⟩ => ⟨he, _, hw⟩))
              | (go_at_call 27; exact (HMU.out _).mono (fun _ _ ⟨he, hw⟩ => ⟨he, _, hw⟩)))
            go_wp2
            go_roundw
            case rel => exact ⟨⟨_, rfl⟩, j + 1, _, by omega, by go_num, rfl, HNX.out⟩
            case measure => simp [intOf]; omega
          · obtain rfl : j = 5 := by omega
            have HR6 : Hid (keep24 q = rv) := HR5.out q HQ.out
            have HW1 : Hid (Trio w1 S p (.slice a1 A.length c1) (.slice a2 B.length c2) (.slice a3 C.length c3) A B C (wr.drewN d)) := HWT.out d
            have HB1 : Hid (Zs (wr.drewN d) a2 B.length B) := HB.out.drewN d
            clear HQ HR5 HSTEP HTPW HWT HA HB HAI hp0 hp1 hpf0 hpf1 hcx
            generalize wr.drewN d = wr1 at *
            obtain ⟨hp0, hp1, hpf0, hpf1⟩ := HW1.out.cells
            have HK : Hid (∀ V, Calls Try.prog 29 #[.int .i64 q] V fun e w' => e = .returned (.int .i64 rv) ∧ w' = V) := fun V => by rw [← HR6.out]; exact rkeep_any _ _
            have HFW : Hid (Zs wr1 fa fn f) := HF.out _ HW1.out.moved
            have HSTEP : Hid (∀ j, j < fn → filtN ⟨loud, lag.toNat, [t0, t1, t2, t3, t4], f⟩ B.reverse rv (j + 1) = filtN ⟨loud, lag.toNat, [t0, t1, t2, t3, t4], f⟩ B.reverse rv j + mulI (f[j]?.getD 0) (aheadI B ((j : Int) + 1)) 12) := fun j hj => by
              rw [aheadI_reverse B _ (j + 1) (by omega) (by omega)]
              rfl
            have HSTART : Hid (filtN ⟨loud, lag.toNat, [t0, t1, t2, t3, t4], f⟩ B.reverse rv 0 = rv) := rfl
            have hBl := HLS.out.2.1
            have y1 : Hid True := trivial
            have y2 : Hid True := trivial
            clear HR6
            generalize filtN ⟨loud, lag.toNat, [t0, t1, t2, t3, t4], f⟩ B.reverse rv = F2 at *
            go_wp2_with (go_at_call 29; refine (HK.out _).mono ?_; rintro e wr1 ⟨rfl, rfl⟩)
            go_loopw [17, 18] (fun o j V => (∃ d, V = wr1.drewN d) ∧ ∃ (jn : Nat) (q2 : Int), jn ≤ fn ∧ j = .int .i64 jn ∧ o = .int .i64 q2 ∧ Hid (q2 = F2 jn)) (fun _ j _ => fn - (intOf j).toNat)
            case atStart => exact ⟨⟨0, rfl⟩, 0, rv, Nat.zero_le _, rfl, rfl, HSTART.out.symm⟩
            case round =>
              clear HSTART HK
              obtain ⟨⟨d2, rfl⟩, j, q2, hj, rfl, rfl, HQ⟩ := hrel
              by_cases hlj : j < fn
              · have hst := HSTEP.out j hlj
                obtain ⟨b2, o2, rfl, _, hcf⟩ := HFW.out.at_ (by omega)
                have hct := hcf j hlj
                have hb1 := HBI.out j hj
                have hb2 := HBI.out (j + 1) hlj
                clear hcf
                generalize f[j]?.getD 0 = tj at hst hct
                obtain ⟨z, hze⟩ : ∃ z : Int, aheadI B ((j : Int) + 1) = z := ⟨_, rfl⟩
                obtain ⟨mz, hmz⟩ : ∃ mz : Int, mulI tj z 12 = mz := ⟨_, rfl⟩
                rw [hze, hmz, ← HQ.out] at hst
                rw [← HQ.out] at hb1
                rw [hst] at hb2
                have HAH : Hid (∀ V : World, (∃ d, V = wr1.drewN d) → Calls Try.prog 28 #[.slice a2 B.length c2, .int .i64 ((j : Int) + 1)] V fun e w' => e = .returned (.int .i64 z) ∧ w' = V) := fun V ⟨d, hd⟩ => by
                  subst hd
                  rw [← hze]
                  exact ahead_any a2 B.length c2 B _ _ (HB1.out.drewN d) (by omega)
                have HMU : Hid (∀ V, Calls Try.prog 27 #[.int .i64 tj, .int .i64 z, .int .i64 12] V fun e w' => e = .returned (.int .i64 mz) ∧ w' = V) := fun V => by rw [← hmz]; exact rmul_any _ _ _ _
                have HNX : Hid (q2 + mz = F2 (j + 1)) := hst.symm
                have e1 : IntKind.i64.wrap ((j : Int) + 1) = (j : Int) + 1 := by rw [IntKind.wrap_i64]; omega
                have e3 : IntKind.i64.wrap (q2 + mz) = q2 + mz := by rw [IntKind.wrap_i64]; omega
                clear hst hze hmz hb1 hb2 HQ HBI HSTEP HFW HB1 HOV HN1 HFILT HW1
                go_wp2
                go_quiet (first
                  | (go_at_call 28; exact (HAH.out _ ⟨_, rfl⟩).mono (fun _ _ ⟨he, hw⟩ => ⟨he, _, hw⟩))
                  | (go_at_call 27; exact (HMU.out _).mono (fun _ _ ⟨he, hw⟩ => ⟨he, _, hw⟩)))
                go_wp2
                go_roundw
                case rel => exact ⟨⟨_, rfl⟩, j + 1, _, by omega, by go_num, rfl, HNX.out⟩
                case measure => simp [intOf]; omega
              · obtain rfl : j = fn := by omega
                have HKO : Hid (∀ V, Calls Try.prog 29 #[.int .i64 q2] V fun e w' => e = .returned (.int .i64 ov) ∧ w' = V) := fun V => by
                  rw [← HOV.out, ← HQ.out]
                  exact rkeep_any _ _
                have HW2 : Hid (Trio w1 S p (.slice a1 A.length c1) (.slice a2 B.length c2) (.slice a3 C.length c3) A B C (wr1.drewN d2)) := HW1.out.drewN d2
                clear HW1 HB1 HFW HSTEP HBI HQ HOV HFILT hp0 hp1 hpf0 hpf1
                generalize wr1.drewN d2 = wr2 at *
                obtain ⟨hp0, hp1, hpf0, hpf1⟩ := HW2.out.cells
                have hAl := HLS.out.1
                have hCl := HLS.out.2.2
                go_wp2_with (first
                  | (go_at_call 29; refine (HKO.out _).mono ?_; rintro e wr2 ⟨rfl, rfl⟩)
                  | (at_builtin; clear y1; go_loud (refine wpList_push_num 0 A.length _ A rv rfl HW2.out.own1 (by omega) (Nat.zero_le _) rfl _ _ rfl rfl _ rfl (by simp) ?_; intro g5 cap5 w5 ho5 hg5 hat5; obtain ⟨hp50, hp51, hpf50, hpf51⟩ := HW2.out.home_grown hg5 HW2.out.row1; have HT5 : Hid (Trio w1 S p (.slice (some ⟨g5, 0, none⟩) (A.length + 1) cap5) (.slice a2 B.length c2) (.slice a3 C.length c3) (A ++ [rv]) B C (w5.setCell ⟨p, 0, none⟩ (.slice (some ⟨g5, 0, none⟩) (A.length + 1) cap5))) := HW2.out.turn1 (by rw [List.length_append]; rfl) ho5 hg5 hat5; clear ho5 hg5 hat5 HW2))
                  | (at_builtin; clear y2; go_loud (refine wpList_push_num 0 B.length _ B ov rfl HT5.out.own2 (by omega) (Nat.zero_le _) rfl _ _ rfl rfl _ rfl (by simp) ?_; intro g6 cap6 w6 ho6 hg6 hat6; obtain ⟨hp60, hp61, hpf60, hpf61⟩ := HT5.out.home_grown hg6 HT5.out.row2; have HT6 : Hid (Trio w1 S p (.slice (some ⟨g5, 0, none⟩) (A.length + 1) cap5) (.slice (some ⟨g6, 0, none⟩) (B.length + 1) cap6) (.slice a3 C.length c3) (A ++ [rv]) (B ++ [ov]) C (w6.setCell ⟨p, 1, none⟩ (.slice (some ⟨g6, 0, none⟩) (B.length + 1) cap6))) := HT5.out.turn2 (by rw [List.length_append]; rfl) ho6 hg6 hat6; clear ho6 hg6 hat6 HT5))
                  | (at_builtin; go_loud (refine wpList_push_num 0 C.length _ C ov rfl HT6.out.own3 (by omega) (Nat.zero_le _) rfl _ _ rfl rfl _ rfl (by simp) ?_; intro g7 cap7 w7 ho7 hg7 hat7; have HT7 : Hid (Trio w1 S p (.slice (some ⟨g5, 0, none⟩) (A.length + 1) cap5) (.slice (some ⟨g6, 0, none⟩) (B.length + 1) cap6) (.slice (some ⟨g7, 0, none⟩) (C.length + 1) cap7) (A ++ [rv]) (B ++ [ov]) (C ++ [ov]) w7) := HT6.out.push3 rfl ho7 hg7 hat7; clear ho7 hg7 hat7 HT6)))
                go_roundw
                case rel => exact ⟨k + 1, _, _, by omega, by go_num, by show Trio _ _ _ _ _ _ _ _ _ _; rw [HN1.out.1, HN1.out.2.1, HN1.out.2.2]; exact HT7.out⟩
                case measure => simp [intOf]; omega
    · obtain rfl : k = n := by omega
      have hT := HH.out
      rw [List.take_of_length_le (Nat.le_of_eq HL.out.1)] at hT
      have hAl : (drovL ⟨loud, lag.toNat, [t0, t1, t2, t3, t4], f⟩ l X Y).length ≤ 800 := by
        rw [drovL_len]
        have := HXY.out.1
        have := HL.out.1
        omega
      have hBl : (cameL ⟨loud, lag.toNat, [t0, t1, t2, t3, t4], f⟩ l X Y).length ≤ 520 := by
        rw [cameL_len]
        have := HXY.out.2.1
        have := HL.out.1
        omega
      have hA0 : 0 < (drovL ⟨loud, lag.toNat, [t0, t1, t2, t3, t4], f⟩ l X Y).length := by
        rw [drovL_len, HL.out.1]
        omega
      have hB0 : 0 < (cameL ⟨loud, lag.toNat, [t0, t1, t2, t3, t4], f⟩ l X Y).length := by
        rw [cameL_len, HL.out.1]
        omega
      have hCl : (soundsL ⟨loud, lag.toNat, [t0, t1, t2, t3, t4], f⟩ l X Y).length = k := by rw [soundsL_len, HL.out.1]
      obtain ⟨a1, c1, a2, c2, a3, c3, rfl, rfl, hv3, hv4, hv5, hv6, hv7, hv8⟩ := hT.forms
      clear hv3 hv4 hv5 hv6 hv7 hv8
      obtain ⟨g3, cc3, rfl, hg3, hz3⟩ := hT.third (by rw [hCl]; omega)
      have HG3 : Hid (w.heap.size ≤ g3 ∧ Zs wr (some ⟨g3, 0, none⟩) k (soundsL ⟨loud, lag.toNat, [t0, t1, t2, t3, t4], f⟩ l X Y)) := ⟨Nat.le_trans (Nat.le_of_lt HSZ.out) hg3, by rw [hCl] at hz3; exact hz3⟩
      rw [hCl] at hT ⊢
      have HA0 : Hid (0 < (drovL ⟨loud, lag.toNat, [t0, t1, t2, t3, t4], f⟩ l X Y).length ∧ (drovL ⟨loud, lag.toNat, [t0, t1, t2, t3, t4], f⟩ l X Y).length ≤ 800 ∧ 0 < (cameL ⟨loud, lag.toNat, [t0, t1, t2, t3, t4], f⟩ l X Y).length ∧ (cameL ⟨loud, lag.toNat, [t0, t1, t2, t3, t4], f⟩ l X Y).length ≤ 520) := ⟨hA0, hAl, hB0, hBl⟩
      have HT : Hid (Trio w1 S p (.slice a1 (drovL ⟨loud, lag.toNat, [t0, t1, t2, t3, t4], f⟩ l X Y).length c1) (.slice a2 (cameL ⟨loud, lag.toNat, [t0, t1, t2, t3, t4], f⟩ l X Y).length c2) (.slice (some ⟨g3, 0, none⟩) k cc3) (drovL ⟨loud, lag.toNat, [t0, t1, t2, t3, t4], f⟩ l X Y) (cameL ⟨loud, lag.toNat, [t0, t1, t2, t3, t4], f⟩ l X Y) (soundsL ⟨loud, lag.toNat, [t0, t1, t2, t3, t4], f⟩ l X Y) wr) := hT
      clear hT HH hz3 hg3 hAl hBl hA0 hB0 hCl HZ HF HTP HFINE HL HXY
      generalize hDA : drovL ⟨loud, lag.toNat, [t0, t1, t2, t3, t4], f⟩ l X Y = A at *
      generalize hDB : cameL ⟨loud, lag.toNat, [t0, t1, t2, t3, t4], f⟩ l X Y = B at *
      generalize hDC : soundsL ⟨loud, lag.toNat, [t0, t1, t2, t3, t4], f⟩ l X Y = C at *
      have HDA : Hid (drovL ⟨loud, lag.toNat, [t0, t1, t2, t3, t4], f⟩ l X Y = A ∧ cameL ⟨loud, lag.toNat, [t0, t1, t2, t3, t4], f⟩ l X Y = B ∧ soundsL ⟨loud, lag.toNat, [t0, t1, t2, t3, t4], f⟩ l X Y = C) := ⟨hDA, hDB, hDC⟩
      clear hDA hDB hDC
      have HLA : Hid (Calls Try.prog 30 #[.slice a1 A.length c1, .int .i64 320] wr fun e w' => ∃ g c, e = .returned (.slice (some ⟨g, 0, none⟩) (lastI A 320).length c) ∧ wr.heap.size ≤ g ∧ w'.ownsRow 0 2 1 (.slice (some ⟨g, 0, none⟩) (lastI A 320).length c) (lastI A 320).length ((lastI A 320).map (Value.int .i64)) ∧ Below wr.heap.size wr w') :=
        last_any a1 A.length c1 A 320 0 wr (zs_own rfl HT.out.own1).1 (Nat.zero_le _) HA0.out.1 (by have := HA0.out.2.1; omega) (zs_own rfl HT.out.own1).2 (by decide) (by decide)
      have HLB : Hid (∀ W, W.ownsRow 0 2 1 (.slice a2 B.length c2) B.length (B.map (Value.int .i64)) → Calls Try.prog 30 #[.slice a2 B.length c2, .int .i64 32] W fun e w' => ∃ g c, e = .returned (.slice (some ⟨g, 0, none⟩) (lastI B 32).length c) ∧ W.heap.size ≤ g ∧ w'.ownsRow 0 2 1 (.slice (some ⟨g, 0, none⟩) (lastI B 32).length c) (lastI B 32).length ((lastI B 32).map (Value.int .i64)) ∧ Below W.heap.size W w') := fun W h =>
        last_any a2 B.length c2 B 32 0 W (zs_own rfl h).1 (Nat.zero_le _) HA0.out.2.2.1 (by have := HA0.out.2.2.2; omega) (zs_own rfl h).2 (by decide) (by decide)
      obtain ⟨hp0, hp1, hpf0, hpf1⟩ := HT.out.cells
      have y1 : Hid True := trivial
      have HI3 : Hid (∀ W, Moved S w1 W → True) := fun _ _ => trivial
      clear HA0
      generalize hLA : lastI A 320 = LA at *
      generalize hLB : lastI B 32 = LB at *
      have HLL : Hid (lastI A 320 = LA ∧ lastI B 32 = LB) := ⟨hLA, hLB⟩
      clear hLA hLB
      go_wp2_with (first
        | (go_at_call 30; clear y1; go_loud (refine HLA.out.mono ?_; rintro e w5 ⟨g5, cap5, rfl, hgg5, ho5, hb5⟩; obtain ⟨hp50, hp51, hpf50, hpf51⟩ := HT.out.home_grown (grown_of_below hb5 none) (by simp); have HT5 : Hid (Trio w1 S p (.slice (some ⟨g5, 0, none⟩) LA.length cap5) (.slice a2 B.length c2) (.slice (some ⟨g3, 0, none⟩) k cc3) LA B C (w5.setCell ⟨p, 0, none⟩ (.slice (some ⟨g5, 0, none⟩) LA.length cap5))) := HT.out.turn1 rfl ho5 (grown_of_below hb5 _) (.inr hgg5); clear ho5 hgg5 hb5))
        | (go_at_call 30; go_loud (refine (HLB.out _ HT5.out.own2).mono ?_; rintro e w6 ⟨g6, cap6, rfl, hgg6, ho6, hb6⟩; obtain ⟨hp60, hp61, hpf60, hpf61⟩ := HT5.out.home_grown (grown_of_below hb6 none) (by simp); have HT6 : Hid (Trio w1 S p (.slice (some ⟨g5, 0, none⟩) LA.length cap5) (.slice (some ⟨g6, 0, none⟩) LB.length cap6) (.slice (some ⟨g3, 0, none⟩) k cc3) LA LB C (w6.setCell ⟨p, 1, none⟩ (.slice (some ⟨g6, 0, none⟩) LB.length cap6))) := HT5.out.turn2 rfl ho6 (grown_of_below hb6 _) (.inr hgg6); clear ho6 hgg6 hb6)))
      have HE : Hid (Zs (w6.setCell ⟨p, 1, none⟩ (.slice (some ⟨g6, 0, none⟩) LB.length cap6)) (some ⟨g3, 0, none⟩) k C ∧ Trio w S p (.slice (some ⟨g5, 0, none⟩) LA.length cap5) (.slice (some ⟨g6, 0, none⟩) LB.length cap6) (.slice none 0 0) LA LB [] (w6.setCell ⟨p, 1, none⟩ (.slice (some ⟨g6, 0, none⟩) LB.length cap6))) := by
        have h6 := HT6.out
        have hck : C.length = k := HG3.out.2.len
        refine ⟨(zs_own hck.symm (by have := h6.own3; rw [hck] at this; exact this)).1, HBACK.out _ _ _ _ _ _ _ h6.drop⟩
      go_ret
      exact ⟨_, _, g3, cc3, rfl, HG3.out.1, by rw [HDA.out.2.2]; exact HE.out.1, by rw [HDA.out.1, HDA.out.2.1, HLL.out.1, HLL.out.2]; exact HE.out.2⟩

end Go.Proofs.Ytbnkapeahbegaaa
