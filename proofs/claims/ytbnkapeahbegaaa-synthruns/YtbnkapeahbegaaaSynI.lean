/- Package synth's Run. -/
import Derived.Test.YtbnkapeahbegaaaSynH
import Derived.Test.YtbnkapeahbegaaaLastOp
import Derived.Deep.RegionLaw
import Derived.Test.YtbnkapeahbegaaaSynG
namespace Go.Proofs.Ytbnkapeahbegaaa
open Go.RowKit

/-- A part that may not be. -/
theorem run_bad (p : Nat) (a : Option Addr) (n cap : Nat) (l : List Int) (loud lag t0 t1 t2 t3 t4 : Int) (fa : Option Addr) (fn fcap : Nat) (f : List Int) (w : World) (hz : Zs w a n l) (hf : Zs w fa fn f) (hn : n ≤ 9223372036854775807) (hfn : fn ≤ 9223372036854775807) (hg : goodB l loud lag [t0, t1, t2, t3, t4] f = false) :
    Calls Try.prog 11 #[.pointer (some ⟨p, 0, none⟩), .agg #[.slice a n cap, .int .i64 loud, .int .i64 lag, .int .i64 t0, .int .i64 t1, .int .i64 t2, .int .i64 t3, .int .i64 t4, .slice fa fn fcap]] w fun e w' => e = .returned (.tuple #[.slice none 0 0, .int .i64 1]) ∧ Below w.heap.size w w' := by
  have HG : Hid (∀ W, Calls Try.prog 14 #[.agg #[.slice a n cap, .int .i64 loud, .int .i64 lag, .int .i64 t0, .int .i64 t1, .int .i64 t2, .int .i64 t3, .int .i64 t4, .slice fa fn fcap]] (w.alloc W) fun e w' => e = .returned (.bool false) ∧ Below (w.alloc W).heap.size (w.alloc W) w') := fun W => by
    have := good_any a n cap l loud lag t0 t1 t2 t3 t4 fa fn fcap f (w.alloc W) (hz.alloc W) (hf.alloc W) hn hfn
    rw [hg] at this
    exact this
  clear hz hf hg
  go_enter Try.func11, Try.ntmps11
  go_wp2_with (go_at_call 14; refine (HG.out _).mono ?_; rintro e w2 ⟨rfl, hb⟩)
  go_ret2
  exact ⟨rfl, ((Below.refl _ _).alloc (Nat.le_refl _) _).trans (hb.mono (by simp))⟩

set_option maxRecDepth 100000 in
set_option maxHeartbeats 2000000 in
theorem run_good (p : Nat) (D E : List Int) (a : Option Addr) (n cap : Nat) (l : List Int) (loud lag t0 t1 t2 t3 t4 : Int) (fa : Option Addr) (fn fcap : Nat) (f : List Int) (w : World) (hv : Vo p D E w) (hz : Zs w a n l) (hf : Zs w fa fn f) (hg : goodB l loud lag [t0, t1, t2, t3, t4] f = true) :
    Calls Try.prog 11 #[.pointer (some ⟨p, 0, none⟩), .agg #[.slice a n cap, .int .i64 loud, .int .i64 lag, .int .i64 t0, .int .i64 t1, .int .i64 t2, .int .i64 t3, .int .i64 t4, .slice fa fn fcap]] w fun e w' =>
      ∃ g, e = .returned (.tuple #[.slice (some ⟨g, 32, none⟩) n n, .int .i64 0]) ∧ w.heap.size ≤ g ∧ Zs w' (some ⟨g, 32, none⟩) n (soundsL ⟨loud, lag.toNat, [t0, t1, t2, t3, t4], f⟩ l D E) ∧ Vo p (nextD ⟨loud, lag.toNat, [t0, t1, t2, t3, t4], f⟩ l D E) (nextE ⟨loud, lag.toNat, [t0, t1, t2, t3, t4], f⟩ l D E) w' ∧ Turn p w w' := by
  obtain ⟨hfine, hn1, hn2, hlag, hpul⟩ := goodB_fine hg
  rw [hz.len] at hn1 hn2
  have hfl := hf.len
  have HG : Hid (∀ W, Calls Try.prog 14 #[.agg #[.slice a n cap, .int .i64 loud, .int .i64 lag, .int .i64 t0, .int .i64 t1, .int .i64 t2, .int .i64 t3, .int .i64 t4, .slice fa fn fcap]] (w.alloc W) fun e w' => e = .returned (.bool true) ∧ Below (w.alloc W).heap.size (w.alloc W) w') := fun W => by
    have := good_any a n cap l loud lag t0 t1 t2 t3 t4 fa fn fcap f (w.alloc W) (hz.alloc W) (hf.alloc W) (by omega) (by have := hfine.flen; rw [hfl] at this; omega)
    rw [hg] at this
    exact this
  obtain ⟨rn, hrn⟩ : ∃ rn : Nat, rn = 320 + n := ⟨_, rfl⟩
  obtain ⟨on, hon⟩ : ∃ on : Nat, on = 32 + n := ⟨_, rfl⟩
  have hmk1 := fun W : World => run_make_row' (P := Try.prog) 25 2 (.int .i64 0) 8 Try.underlying25 info_int64 rfl .i64 .i64 rn (by omega) (by omega) W
  have hmk2 := fun W : World => run_make_row' (P := Try.prog) 25 2 (.int .i64 0) 8 Try.underlying25 info_int64 rfl .i64 .i64 on (by omega) (by omega) W
  have e1 : (320 : Int) + (n : Int) = (rn : Int) := by omega
  have e2 : (32 : Int) + (n : Int) = (on : Int) := by omega
  have e3 : IntKind.i64.wrap (rn : Int) = (rn : Int) := by rw [IntKind.wrap_i64]; omega
  have e4 : IntKind.i64.wrap (on : Int) = (on : Int) := by rw [IntKind.wrap_i64]; omega
  have HRN : Hid (rn = 320 + n ∧ on = 32 + n) := ⟨hrn, hon⟩
  clear hrn hon
  have HV : Hid (Vo p D E w) := hv
  have HZ : Hid (Zs w a n l) := hz
  have HF : Hid (Zs w fa fn f) := hf
  have HFINE : Hid (PartP.Fine ⟨loud, lag.toNat, [t0, t1, t2, t3, t4], f⟩ ∧ lag = (lag.toNat : Int) ∧ ∀ k : Nat, -16 ≤ l[k]?.getD 0 ∧ l[k]?.getD 0 ≤ 16) := ⟨hfine, hlag, hpul⟩
  have HFL : Hid (f.length = fn) := hfl
  clear hv hz hf hfine hlag hpul hfl hg
  go_enter Try.func11, Try.ntmps11
  go_wp2_with (go_at_call 14; refine (HG.out _).mono ?_; rintro e w2 ⟨rfl, hb⟩; obtain ⟨hc, hfz⟩ := bcell hb)
  clear hc hfz
  refine Code.wp_mono (Q := AtF (fun x r => { tmps := #[.pointer (some ⟨p, 0, none⟩), .agg #[.slice a n cap, .int .i64 loud, .int .i64 lag, .int .i64 t0, .int .i64 t1, .int .i64 t2, .int .i64 t3, .int .i64 t4, .slice fa fn fcap], undef, .pointer (some ⟨w.heap.size, 0, none⟩), .slice none 0 0, .int .i64 0, .int .i64 (n : Int), .slice (some ⟨x, 0, none⟩) rn rn, .slice (some ⟨r, 0, none⟩) on on, undef, undef, undef, undef,
      .agg #[.slice a n cap, .int .i64 loud, .int .i64 lag, .int .i64 t0, .int .i64 t1, .int .i64 t2, .int .i64 t3, .int .i64 t4, .slice fa fn fcap], .bool true, .bool false, .pointer (some ⟨w.heap.size, 0, none⟩), .slice a n cap, .int .i64 (n : Int), .int .i64 (n : Int), .int .i64 (rn : Int), .slice (some ⟨x, 0, none⟩) rn rn, .int .i64 (n : Int), .int .i64 (on : Int), .slice (some ⟨r, 0, none⟩) on on,
      undef, undef, undef, undef, undef, undef, undef, undef, undef, undef, undef, undef, undef, undef, undef, undef, undef, undef, undef, undef, undef, undef, undef, undef, undef, undef, undef, undef, undef, undef, undef, undef, undef, undef, undef, undef, undef, undef, undef, undef, undef, undef, undef, undef, undef, undef, undef, undef, undef, undef, undef, undef, undef, undef, undef, undef, undef, undef, undef, undef, undef, undef, undef, undef, undef, undef, undef, undef, undef, undef, undef, undef], defers := [] }) (fun x r W => Mid w w.heap.size x r #[.slice a n cap, .int .i64 loud, .int .i64 lag, .int .i64 t0, .int .i64 t1, .int .i64 t2, .int .i64 t3, .int .i64 t4, .slice fa fn fcap] (zeros rn) (zeros on) W)) (AtF.goes ?hq) ?hw
  case hw =>
    go_region
    · exact ⟨_, _, rfl, Mid.start1 hb⟩
    · exact ⟨_, _, rfl, Mid.start2 hb⟩
  case hq =>
    intro x r W hM
    clear hb hmk1 hmk2 HG e1 e2 e3 e4
    generalize hg0 : w.heap.size = g at hM ⊢
    have HGG : Hid (w.heap.size = g) := hg0
    clear hg0
    have HM : Hid (Mid w g x r #[.slice a n cap, .int .i64 loud, .int .i64 lag, .int .i64 t0, .int .i64 t1, .int .i64 t2, .int .i64 t3, .int .i64 t4, .slice fa fn fcap] (zeros rn) (zeros on) W) := hM
    have hnr := HRN.out.1
    have hno := HRN.out.2
    have HS1 : Hid (splice (zeros rn) 0 D = D ++ zeros n) := by show _ = _; rw [hnr]; exact splice_zeros D 320 n HV.out.dl
    have HS2 : Hid (splice (zeros on) 0 E = E ++ zeros n) := by show _ = _; rw [hno]; exact splice_zeros E 32 n HV.out.el
    have HVW : Hid (∀ W, Below w.heap.size w W → Vo p D E W) := fun W h => HV.out.keep h
    have m1 : 320 = Nat.min 320 rn := (Nat.min_eq_left (by omega)).symm
    have m2 : 32 = Nat.min 32 on := (Nat.min_eq_left (by omega)).symm
    have M1 : Hid (320 = Nat.min 320 rn) := m1
    have M2 : Hid (32 = Nat.min 32 on) := m2
    have L1 : Hid (0 + 320 ≤ (zeros rn).length) := by show _ ≤ _; rw [zeros_len]; omega
    have L2 : Hid (0 + 32 ≤ (zeros on).length) := by show _ ≤ _; rw [zeros_len]; omega
    clear hM hnr hno m1 m2
    have y1 : Hid True := trivial
    go_wp2_with (first
      | ((with_reducible show wpList _ _ _ ({ dst := _, op := .call { callee := .builtin .copy, args := _, argTypes := _ }, type := _, pos := _, after := _, guard := _ } :: _) _ _); clear y1; go_loud (refine wpList_copy_arr x 0 rn rn (some ⟨p, 0, none⟩) 320 320 320 (zeros rn) D 25 2 Try.underlying25 size_number HM.out.rr M1.out (by decide) (HVW.out _ HM.out.bel).zsD L1.out rfl _ _ rfl rfl rfl ?_; rw [HS1.out]; have HM2 : Hid (Mid w g x r #[.slice a n cap, .int .i64 loud, .int .i64 lag, .int .i64 t0, .int .i64 t1, .int .i64 t2, .int .i64 t3, .int .i64 t4, .slice fa fn fcap] (D ++ zeros n) (zeros on) (W.setRow x (arrV (D ++ zeros n)))) := HM.out.rowR (D ++ zeros n); generalize W.setRow x (arrV (D ++ zeros n)) = W2 at HM2 ⊢))
      | ((with_reducible show wpList _ _ _ ({ dst := _, op := .call { callee := .builtin .copy, args := _, argTypes := _ }, type := _, pos := _, after := _, guard := _ } :: _) _ _); refine wpList_copy_arr r 0 on on (some ⟨p, 320, none⟩) 32 32 32 (zeros on) E 25 2 Try.underlying25 size_number HM2.out.oo M2.out (by decide) (HVW.out _ HM2.out.bel).zsE L2.out rfl _ _ rfl rfl rfl ?_; rw [HS2.out]; have HM3 : Hid (Mid w g x r #[.slice a n cap, .int .i64 loud, .int .i64 lag, .int .i64 t0, .int .i64 t1, .int .i64 t2, .int .i64 t3, .int .i64 t4, .slice fa fn fcap] (D ++ zeros n) (E ++ zeros n) (W2.setRow r (arrV (E ++ zeros n)))) := HM2.out.rowO (E ++ zeros n); generalize W2.setRow r (arrV (E ++ zeros n)) = W3 at HM3 ⊢; have hcell := HM3.out.cells.1))
    clear HS1 HS2 M1 M2 L1 L2 HM HM2 hcell
    have HST : Hid (Mid w g x r #[.slice a n cap, .int .i64 loud, .int .i64 lag, .int .i64 t0, .int .i64 t1, .int .i64 t2, .int .i64 t3, .int .i64 t4, .slice fa fn fcap] (drovL ⟨loud, lag.toNat, [t0, t1, t2, t3, t4], f⟩ (l.take 0) D E ++ zeros (n - 0)) (cameL ⟨loud, lag.toNat, [t0, t1, t2, t3, t4], f⟩ (l.take 0) D E ++ zeros (n - 0)) W3) := by
      show Mid _ _ _ _ _ _ _ _
      rw [drov_none, came_none]
      exact HM3.out
    have HLN : Hid (l.length = n) := HZ.out.len
    have HZW : Hid (∀ W, Below w.heap.size w W → Zs W a n l) := fun W h => HZ.out.keep h
    have HFW : Hid (∀ W, Below w.heap.size w W → Zs W fa fn f) := fun W h => HF.out.keep h
    have HDL : Hid (D.length = 320 ∧ E.length = 32 ∧ Tame D.reverse ∧ Tame E.reverse) := ⟨HV.out.dl, HV.out.el, HV.out.dt, HV.out.et⟩
    clear HM3 HZ HF
    go_loopw [9, 10, 11, 12, 40] (fun _ _ _ _ i W => ∃ k : Nat, k ≤ n ∧ i = .int .i64 k ∧ Hid (Mid w g x r #[.slice a n cap, .int .i64 loud, .int .i64 lag, .int .i64 t0, .int .i64 t1, .int .i64 t2, .int .i64 t3, .int .i64 t4, .slice fa fn fcap] (drovL ⟨loud, lag.toNat, [t0, t1, t2, t3, t4], f⟩ (l.take k) D E ++ zeros (n - k)) (cameL ⟨loud, lag.toNat, [t0, t1, t2, t3, t4], f⟩ (l.take k) D E ++ zeros (n - k)) W)) (fun _ _ _ _ i _ => n - (intOf i).toNat)
    case atStart => exact ⟨0, Nat.zero_le _, rfl, HST⟩
    case round =>
      clear HST
      obtain ⟨k, hk, rfl, HM⟩ := hrel
      by_cases hlt : k < n
      · obtain ⟨m, hm⟩ : ∃ m, n - k = m + 1 := ⟨n - (k + 1), by omega⟩
        have hm2 : n - (k + 1) = m := by omega
        have hM := HM.out
        rw [hm] at hM
        obtain ⟨ri, hri⟩ : ∃ ri : Nat, 320 + k = ri := ⟨_, rfl⟩
        obtain ⟨oi, hoi⟩ : ∃ oi : Nat, 32 + k = oi := ⟨_, rfl⟩
        have hA : (drovL ⟨loud, lag.toNat, [t0, t1, t2, t3, t4], f⟩ (l.take k) D E).length = ri := by
          rw [drovL_len, List.length_take, HLN.out, HDL.out.1]
          omega
        have hB : (cameL ⟨loud, lag.toNat, [t0, t1, t2, t3, t4], f⟩ (l.take k) D E).length = oi := by
          rw [cameL_len, List.length_take, HLN.out, HDL.out.2.1]
          omega
        have hA1 := drov_step (p := ⟨loud, lag.toNat, [t0, t1, t2, t3, t4], f⟩) (D := D) (E := E) (l := l) (k := k) (by rw [HLN.out]; exact hlt)
        have hB1 := came_step (p := ⟨loud, lag.toNat, [t0, t1, t2, t3, t4], f⟩) (D := D) (E := E) (l := l) (k := k) (by rw [HLN.out]; exact hlt)
        have hAt : Tame (drovL ⟨loud, lag.toNat, [t0, t1, t2, t3, t4], f⟩ (l.take k) D E).reverse := drov_tame HDL.out.2.2.1 HDL.out.2.2.2
        have hBt : Tame (cameL ⟨loud, lag.toNat, [t0, t1, t2, t3, t4], f⟩ (l.take k) D E).reverse := came_tame HDL.out.2.2.1 HDL.out.2.2.2
        have hx16 := HFINE.out.2.2 k
        obtain ⟨b, off, rfl, _, hca⟩ := (HZW.out _ hM.bel).at_ (by omega)
        have hcx := hca k hlt
        clear hca
        generalize l[k]?.getD 0 = xv at *
        generalize drovL ⟨loud, lag.toNat, [t0, t1, t2, t3, t4], f⟩ (l.take k) D E = A at *
        generalize cameL ⟨loud, lag.toNat, [t0, t1, t2, t3, t4], f⟩ (l.take k) D E = B at *
        have hy := loud_in HFINE.out.1 hx16.1 hx16.2
        obtain ⟨q, hq⟩ : ∃ q : Int, q = if lag.toNat = 0 then 0 else lagsN ⟨loud, lag.toNat, [t0, t1, t2, t3, t4], f⟩ A.reverse 0 5 := ⟨_, rfl⟩
        have hqi : -83886080 ≤ q ∧ q ≤ 83886080 := by
          rw [hq]
          split
          · omega
          · have := lagsN_in HFINE.out.1 hAt 0 5
            omega
        have hzi := filtN_in HFINE.out.1 hBt 0 fn
        have hfl32 := HFINE.out.1.flen
        obtain ⟨z, hz⟩ : ∃ z : Int, filtN ⟨loud, lag.toNat, [t0, t1, t2, t3, t4], f⟩ B.reverse 0 fn = z := ⟨_, rfl⟩
        rw [hz] at hzi
        have hzi2 : -17179869184 ≤ z ∧ z ≤ 17179869184 := by
          have : f.length = fn := HFL.out
          change f.length ≤ 32 at hfl32
          omega
        obtain ⟨y, hye⟩ : ∃ y : Int, xv * loud = y := ⟨_, rfl⟩
        change -4194304 ≤ xv * loud ∧ xv * loud ≤ 4194304 at hy
        rw [hye] at hy
        have hdr : driveI ⟨loud, lag.toNat, [t0, t1, t2, t3, t4], f⟩ xv A.reverse = keep24 (y + q) := by
          rw [← hye]
          exact driveI_is _ _ _ q hq
        rw [hdr] at hA1 hB1
        have hou : ∀ rv, outI ⟨loud, lag.toNat, [t0, t1, t2, t3, t4], f⟩ rv B.reverse = keep24 (rv + z) := fun rv => by
          have := outI_is ⟨loud, lag.toNat, [t0, t1, t2, t3, t4], f⟩ rv B.reverse
          change _ = keep24 (rv + filtN ⟨loud, lag.toNat, [t0, t1, t2, t3, t4], f⟩ B.reverse 0 f.length) at this
          rw [HFL.out, hz] at this
          exact this
        rw [hou] at hB1
        obtain ⟨rv, hrv⟩ : ∃ rv : Int, keep24 (y + q) = rv := ⟨_, rfl⟩
        have hrvi := keep24_in (y + q)
        rw [hrv] at hA1 hB1 hrvi
        obtain ⟨ov, hov⟩ : ∃ ov : Int, keep24 (rv + z) = ov := ⟨_, rfl⟩
        rw [hov] at hB1
        have HK1 : Hid (∀ W, Calls Try.prog 21 #[.int .i64 (y + q)] W fun e w' => e = .returned (.int .i64 rv) ∧ w' = W) := fun W => by rw [← hrv]; exact kept_any _ _
        have HK2 : Hid (∀ W, Calls Try.prog 21 #[.int .i64 (rv + z)] W fun e w' => e = .returned (.int .i64 ov) ∧ w' = W) := fun W => by rw [← hov]; exact kept_any _ _
        have HREP : Hid (∀ W, Below wr.heap.size wr W → Calls Try.prog 22 #[.slice (some ⟨x, 0, none⟩) ri rn, .agg #[.slice (some ⟨b, off, none⟩) n cap, .int .i64 loud, .int .i64 lag, .int .i64 t0, .int .i64 t1, .int .i64 t2, .int .i64 t3, .int .i64 t4, .slice fa fn fcap]] W fun e w' => e = .returned (.int .i64 q) ∧ Below wr.heap.size wr w') := fun W hW => by
          have := repeated_any (some ⟨x, 0, none⟩) ri rn A (some ⟨b, off, none⟩) n cap loud lag t0 t1 t2 t3 t4 fa fn fcap f W ((hM.keep hW).frontR hA) (by omega) (by omega) HFINE.out.2.1 HFINE.out.1 hAt
          rw [← hq] at this
          exact this.mono fun e w' ⟨he, hb⟩ => ⟨he, hW.trans (hb.mono hW.size)⟩
        have HMK : Hid (∀ W, Below wr.heap.size wr W → Mid w g x r #[.slice (some ⟨b, off, none⟩) n cap, .int .i64 loud, .int .i64 lag, .int .i64 t0, .int .i64 t1, .int .i64 t2, .int .i64 t3, .int .i64 t4, .slice fa fn fcap] (A ++ zeros (m + 1)) (B ++ zeros (m + 1)) W) := fun W hW => hM.keep hW
        have HFIL : Hid (∀ W A', Mid w g x r #[.slice (some ⟨b, off, none⟩) n cap, .int .i64 loud, .int .i64 lag, .int .i64 t0, .int .i64 t1, .int .i64 t2, .int .i64 t3, .int .i64 t4, .slice fa fn fcap] A' (B ++ zeros (m + 1)) W → Calls Try.prog 23 #[.slice (some ⟨r, 0, none⟩) oi on, .slice fa fn fcap] W fun e w' => e = .returned (.int .i64 z) ∧ w' = W) := fun W A' hW => by
          have := filtered_any (some ⟨r, 0, none⟩) oi on B fa fn fcap ⟨loud, lag.toNat, [t0, t1, t2, t3, t4], f⟩ W (hW.frontO hB) (HFW.out _ hW.bel) (by omega) (by omega) HFINE.out.1 hBt
          rw [hz] at this
          exact this
        have HNEXT : Hid (drovL ⟨loud, lag.toNat, [t0, t1, t2, t3, t4], f⟩ (l.take (k + 1)) D E ++ zeros (n - (k + 1)) = (A ++ [rv]) ++ zeros m ∧ cameL ⟨loud, lag.toNat, [t0, t1, t2, t3, t4], f⟩ (l.take (k + 1)) D E ++ zeros (n - (k + 1)) = (B ++ [ov]) ++ zeros m) := ⟨by rw [hA1, hm2], by rw [hB1, hm2]⟩
        have HA : Hid (A.length = ri) := hA
        have HB : Hid (B.length = oi) := hB
        have hrn := HRN.out.1
        have hon := HRN.out.2
        have a1 : (320 : Int) + (k : Int) = (ri : Int) := by omega
        have a2 : (32 : Int) + (k : Int) = (oi : Int) := by omega
        have a3 : ri < rn := by omega
        have a4 : oi < on := by omega
        have a9 : ri ≤ rn := by omega
        have a10 : oi ≤ on := by omega
        have a5 : IntKind.i64.wrap (xv * loud) = y := by rw [hye, IntKind.wrap_i64]; omega
        have a6 : IntKind.i64.wrap (y + q) = y + q := by rw [IntKind.wrap_i64]; omega
        have a7 : IntKind.i64.wrap (rv + z) = rv + z := by rw [IntKind.wrap_i64]; omega
        have a8 : wrap64 (xv * loud) = y := by rw [hye]; unfold wrap64; omega
        have h0 := (HM.out).cells
        clear hA1 hB1 hdr hou hrv hov hq hz hye hzi hM hA hB hAt hBt hx16 hy hqi hzi2 hrvi hfl32 hri hoi hrn hon hm hm2 HM HDL HZW HFW HV HVW HFINE HFL HLN HRN
        have HL1 : Hid (∀ W, Below wr.heap.size wr W → (Instr.loadAt 2 (.pointer (some ⟨g, 1, none⟩))).run Try.prog W = .ok (.int .i64 loud) W) := fun W hW => by
          exact load_int64 (HMK.out W hW).cells.2.1
        have HL2 : Hid (∀ W, Below wr.heap.size wr W → (Instr.loadAt 31 (.pointer (some ⟨g, 0, none⟩))).run Try.prog W = .ok (.agg #[.slice (some ⟨b, off, none⟩) n cap, .int .i64 loud, .int .i64 lag, .int .i64 t0, .int .i64 t1, .int .i64 t2, .int .i64 t3, .int .i64 t4, .slice fa fn fcap]) W) := fun W hW => (HMK.out W hW).loaded
        clear h0
        go_wp2
        refine wp_region_last_in (fun W => Below wr.heap.size wr W) (by kernel_rfl) (by kernel_rfl) (by rfl) (by kernel_rfl) (Below.refl _ _).drew ?_
        dsimp only [List.dropLast]
        quiet_step ((intro hW; rfl))
        quiet_step ((intro hW; rfl))
        quiet_step ((intro hW; rfl))
        quiet_step ((intro hW; rfl))
        refine wpQuiet_load 2 ⟨g, 1, none⟩ (.int .i64 loud) HL1.out rfl _ rfl rfl ?_
        quiet_step ((intro hW; rfl))
        quiet_step ((intro hW; rfl))
        quiet_step ((intro hW; rfl))
        quiet_step ((intro hW; rfl))
        refine wpQuiet_load 31 ⟨g, 0, none⟩ (.agg #[.slice (some ⟨b, off, none⟩) n cap, .int .i64 loud, .int .i64 lag, .int .i64 t0, .int .i64 t1, .int .i64 t2, .int .i64 t3, .int .i64 t4, .slice fa fn fcap]) HL2.out rfl _ rfl rfl ?_
        quiet_step ((intro hW; exact HREP.out _ hW))
        quiet_step ((intro hW; rfl))
        quiet_step ((intro hW; exact (HK1.out _).mono (fun _ _ ⟨he, hw⟩ => ⟨he, by rw [hw]; exact hW⟩)))
        quiet_step ((intro hW; rfl))
        refine wpQuiet_nil ?_
        intro W4 hW4
        have HM4 : Hid (Mid w g x r #[.slice (some ⟨b, off, none⟩) n cap, .int .i64 loud, .int .i64 lag, .int .i64 t0, .int .i64 t1, .int .i64 t2, .int .i64 t3, .int .i64 t4, .slice fa fn fcap] (A ++ zeros (m + 1)) (B ++ zeros (m + 1)) W4) := HMK.out W4 hW4
        have hc4 := HM4.out.cellR HA.out
        have hf4 := HM4.out.rr.frozen ri
        have HM5 : Hid (Mid w g x r #[.slice (some ⟨b, off, none⟩) n cap, .int .i64 loud, .int .i64 lag, .int .i64 t0, .int .i64 t1, .int .i64 t2, .int .i64 t3, .int .i64 t4, .slice fa fn fcap] ((A ++ [rv]) ++ zeros m) (B ++ zeros (m + 1)) (W4.setCell ⟨x, ri, none⟩ (.int .i64 rv))) := HM4.out.fillR HA.out rv
        clear HL1 HL2 HREP HK1 HMK HM4 hW4
        go_simp
        generalize W4.setCell ⟨x, ri, none⟩ (.int .i64 rv) = W5 at HM5 ⊢
        have HL1 : Hid (∀ W, Below W5.heap.size W5 W → (Instr.loadAt 2 (.pointer (some ⟨x, ri, none⟩))).run Try.prog W = .ok (.int .i64 rv) W) := fun W hW => load_int64 ((HM5.out.keep hW).newest HA.out)
        have HL2 : Hid (∀ W, Below W5.heap.size W5 W → (Instr.loadAt 25 (.pointer (some ⟨g, 8, none⟩))).run Try.prog W = .ok (.slice fa fn fcap) W) := fun W hW => load_ints (HM5.out.keep hW).cells.2.2.2.2.2.2.2.2
        have HF5 : Hid (∀ W, Below W5.heap.size W5 W → Calls Try.prog 23 #[.slice (some ⟨r, 0, none⟩) oi on, .slice fa fn fcap] W fun e w' => e = .returned (.int .i64 z) ∧ Below W5.heap.size W5 w') := fun W hW => (HFIL.out W _ (HM5.out.keep hW)).mono fun e w' ⟨he, hw⟩ => ⟨he, by rw [hw]; exact hW⟩
        clear hc4 hf4 HFIL
        go_wp2
        refine wp_region_last_in (fun W => Below W5.heap.size W5 W) (by kernel_rfl) (by kernel_rfl) (by rfl) (by kernel_rfl) (Below.refl _ _).drew ?_
        dsimp only [List.dropLast]
        quiet_step ((intro hW; rfl))
        quiet_step ((intro hW; rfl))
        quiet_step ((intro hW; rfl))
        quiet_step ((intro hW; rfl))
        quiet_step ((intro hW; rfl))
        refine wpQuiet_load 2 ⟨x, ri, none⟩ (.int .i64 rv) HL1.out rfl _ rfl rfl ?_
        quiet_step ((intro hW; rfl))
        quiet_step ((intro hW; rfl))
        quiet_step ((intro hW; rfl))
        quiet_step ((intro hW; rfl))
        refine wpQuiet_load 25 ⟨g, 8, none⟩ (.slice fa fn fcap) HL2.out rfl _ rfl rfl ?_
        quiet_step ((intro hW; exact HF5.out _ hW))
        quiet_step ((intro hW; rfl))
        quiet_step ((intro hW; exact (HK2.out _).mono (fun _ _ ⟨he, hw⟩ => ⟨he, by rw [hw]; exact hW⟩)))
        quiet_step ((intro hW; rfl))
        refine wpQuiet_nil ?_
        intro W6 hW6
        have hc6 := (HM5.out.keep hW6).cellO HB.out
        have hf6 := (HM5.out.keep hW6).oo.frozen oi
        have HM7 : Hid (Mid w g x r #[.slice (some ⟨b, off, none⟩) n cap, .int .i64 loud, .int .i64 lag, .int .i64 t0, .int .i64 t1, .int .i64 t2, .int .i64 t3, .int .i64 t4, .slice fa fn fcap] ((A ++ [rv]) ++ zeros m) ((B ++ [ov]) ++ zeros m) (W6.setCell ⟨r, oi, none⟩ (.int .i64 ov))) := (HM5.out.keep hW6).fillO HB.out ov
        clear HL1 HL2 HF5 HK2 HM5 hW6 HA HB
        go_simp
        generalize W6.setCell ⟨r, oi, none⟩ (.int .i64 ov) = W7 at HM7 ⊢
        clear hc6 hf6
        go_wp2
        go_roundw
        case rel => exact ⟨k + 1, by omega, by go_num, by show Mid _ _ _ _ _ _ _ _; rw [HNEXT.out.1, HNEXT.out.2]; exact HM7.out⟩
        case measure => simp [intOf]; omega
      · obtain rfl : k = n := by omega
        have hM := HM.out
        rw [Nat.sub_self, show zeros 0 = [] from rfl, List.append_nil, List.append_nil, List.take_of_length_le (Nat.le_of_eq HLN.out)] at hM
        have hV := HVW.out _ hM.bel
        have hDl : (drovL ⟨loud, lag.toNat, [t0, t1, t2, t3, t4], f⟩ l D E).length = 320 + k := by rw [drovL_len, HLN.out, HDL.out.1]; omega
        have hEl : (cameL ⟨loud, lag.toNat, [t0, t1, t2, t3, t4], f⟩ l D E).length = 32 + k := by rw [cameL_len, HLN.out, HDL.out.2.1]; omega
        have hN1 : (nextD ⟨loud, lag.toNat, [t0, t1, t2, t3, t4], f⟩ l D E).length = 320 := by rw [nextD_len, HDL.out.1]
        have hN2 : (nextE ⟨loud, lag.toNat, [t0, t1, t2, t3, t4], f⟩ l D E).length = 32 := by rw [nextE_len, HDL.out.2.1]
        have z1 := hM.rr.zs k 320 (by omega)
        have z2 := hM.oo.zs k 32 (by omega)
        have z3 := hM.oo.zs 32 k (by omega)
        have q1 : ((drovL ⟨loud, lag.toNat, [t0, t1, t2, t3, t4], f⟩ l D E).drop k).take 320 = nextD ⟨loud, lag.toNat, [t0, t1, t2, t3, t4], f⟩ l D E := by
          rw [List.take_of_length_le (by rw [List.length_drop]; omega)]
          show _ = (drovL ⟨loud, lag.toNat, [t0, t1, t2, t3, t4], f⟩ l D E).drop l.length
          rw [HLN.out]
        have q2 : ((cameL ⟨loud, lag.toNat, [t0, t1, t2, t3, t4], f⟩ l D E).drop k).take 32 = nextE ⟨loud, lag.toNat, [t0, t1, t2, t3, t4], f⟩ l D E := by
          rw [List.take_of_length_le (by rw [List.length_drop]; omega)]
          show _ = (cameL ⟨loud, lag.toNat, [t0, t1, t2, t3, t4], f⟩ l D E).drop l.length
          rw [HLN.out]
        have q3 : ((cameL ⟨loud, lag.toNat, [t0, t1, t2, t3, t4], f⟩ l D E).drop 32).take k = soundsL ⟨loud, lag.toNat, [t0, t1, t2, t3, t4], f⟩ l D E := by
          rw [cameL_is, List.drop_left' HDL.out.2.1, List.take_of_length_le (by rw [soundsL_len, HLN.out]; exact Nat.le_refl _)]
        rw [q1] at z1
        rw [q2] at z2
        rw [q3] at z3
        have hpx : p ≠ x := by have := HV.out.lt; have := hM.xw; omega
        have hpr : p ≠ r := by have := HV.out.lt; have := hM.rw'; omega
        have hps := HV.out.lt
        have HR : Hid (∀ d d2, Zs (((wr.drewN d).setRow p (arrV (nextD ⟨loud, lag.toNat, [t0, t1, t2, t3, t4], f⟩ l D E ++ E))).drewN d2) (some ⟨r, k, none⟩) 32 (nextE ⟨loud, lag.toNat, [t0, t1, t2, t3, t4], f⟩ l D E)) := fun d d2 => ((Turn.refl p wr).drewN d |>.row (arrV (nextD ⟨loud, lag.toNat, [t0, t1, t2, t3, t4], f⟩ l D E ++ E)) |>.drewN d2).zs z2 (fun _ x' e => by cases e; exact Ne.symm hpr)
        have HA1 : Hid (∀ d, ArrAt (wr.drewN d) p (D ++ E)) := fun d => hV.arr.drewN d
        have HZ1 : Hid (∀ d, Zs (wr.drewN d) (some ⟨x, k, none⟩) 320 (nextD ⟨loud, lag.toNat, [t0, t1, t2, t3, t4], f⟩ l D E)) := fun d => z1.drewN d
        have HA2 : Hid (∀ d d2, ArrAt (((wr.drewN d).setRow p (arrV (nextD ⟨loud, lag.toNat, [t0, t1, t2, t3, t4], f⟩ l D E ++ E))).drewN d2) p (nextD ⟨loud, lag.toNat, [t0, t1, t2, t3, t4], f⟩ l D E ++ E)) := fun d d2 => ((hV.arr.drewN d).row _).drewN d2
        have HEND : Hid (∀ d d2, w.heap.size ≤ r ∧ Zs ((((wr.drewN d).setRow p (arrV (nextD ⟨loud, lag.toNat, [t0, t1, t2, t3, t4], f⟩ l D E ++ E))).drewN d2).setRow p (arrV (nextD ⟨loud, lag.toNat, [t0, t1, t2, t3, t4], f⟩ l D E ++ nextE ⟨loud, lag.toNat, [t0, t1, t2, t3, t4], f⟩ l D E))) (some ⟨r, 32, none⟩) k (soundsL ⟨loud, lag.toNat, [t0, t1, t2, t3, t4], f⟩ l D E) ∧ Vo p (nextD ⟨loud, lag.toNat, [t0, t1, t2, t3, t4], f⟩ l D E) (nextE ⟨loud, lag.toNat, [t0, t1, t2, t3, t4], f⟩ l D E) ((((wr.drewN d).setRow p (arrV (nextD ⟨loud, lag.toNat, [t0, t1, t2, t3, t4], f⟩ l D E ++ E))).drewN d2).setRow p (arrV (nextD ⟨loud, lag.toNat, [t0, t1, t2, t3, t4], f⟩ l D E ++ nextE ⟨loud, lag.toNat, [t0, t1, t2, t3, t4], f⟩ l D E))) ∧ Turn p w ((((wr.drewN d).setRow p (arrV (nextD ⟨loud, lag.toNat, [t0, t1, t2, t3, t4], f⟩ l D E ++ E))).drewN d2).setRow p (arrV (nextD ⟨loud, lag.toNat, [t0, t1, t2, t3, t4], f⟩ l D E ++ nextE ⟨loud, lag.toNat, [t0, t1, t2, t3, t4], f⟩ l D E)))) := fun d d2 =>
          ⟨hM.rw', ((((Turn.refl p wr).drewN d).row _).drewN d2 |>.row _).zs z3 (fun _ x' e => by cases e; exact Ne.symm hpr),
            ⟨hN1, hN2, nextD_tame HDL.out.2.2.1 HDL.out.2.2.2, nextE_tame HDL.out.2.2.1 HDL.out.2.2.2, (((hV.arr.drewN d).row _).drewN d2).row _⟩,
            (((((Turn.of_below hM.bel).drewN d).row _).drewN d2).row _)⟩
        have HSP1 : Hid (splice (D ++ E) 0 (nextD ⟨loud, lag.toNat, [t0, t1, t2, t3, t4], f⟩ l D E) = nextD ⟨loud, lag.toNat, [t0, t1, t2, t3, t4], f⟩ l D E ++ E) := splice_front _ _ _ (by rw [hN1, HDL.out.1])
        have HSP2 : Hid (splice (nextD ⟨loud, lag.toNat, [t0, t1, t2, t3, t4], f⟩ l D E ++ E) 320 (nextE ⟨loud, lag.toNat, [t0, t1, t2, t3, t4], f⟩ l D E) = nextD ⟨loud, lag.toNat, [t0, t1, t2, t3, t4], f⟩ l D E ++ nextE ⟨loud, lag.toNat, [t0, t1, t2, t3, t4], f⟩ l D E) := splice_back _ _ _ _ hN1 (by rw [hN2, HDL.out.2.1])
        have HF1 : Hid (0 + 320 ≤ (D ++ E).length) := by show _ ≤ _; rw [hV.len]; decide
        have HF2 : Hid (320 + 32 ≤ (nextD ⟨loud, lag.toNat, [t0, t1, t2, t3, t4], f⟩ l D E ++ E).length) := by show _ ≤ _; rw [List.length_append, hN1, HDL.out.2.1]; decide
        obtain ⟨s1, s2⟩ := slice_from x 0 rn rn k 320 320 (by have := HRN.out.1; omega) (by have := HRN.out.1; omega) (by have := HRN.out.1; omega) (by have := HRN.out.1; omega)
        obtain ⟨s3, s4⟩ := slice_from r 0 on on k 32 32 (by have := HRN.out.2; omega) (by have := HRN.out.2; omega) (by have := HRN.out.2; omega) (by have := HRN.out.2; omega)
        obtain ⟨s5, s6⟩ := slice_from r 0 on on 32 k k (by have := HRN.out.2; omega) (by have := HRN.out.2; omega) (by have := HRN.out.2; omega) (by have := HRN.out.2; omega)
        rw [Nat.zero_add] at s1 s2 s3 s4 s5 s6
        have s7 : ∀ W, (Instr.slice 25 (.slice (some ⟨r, 0, none⟩) on on) (some (.int .i64 32)) none none).run Try.prog W = .ok (.slice (some ⟨r, 32, none⟩) k k) W := s5
        have s8 : ∀ W, (Instr.sliceAt 25 (.slice (some ⟨r, 0, none⟩) on on) (some (.int .i64 32)) none none).run Try.prog W = .ok (.slice (some ⟨r, 32, none⟩) k k) W := s6
        clear s5 s6
        clear HM hM hV hDl hEl hN1 hN2 z1 z2 z3 q1 q2 q3 hpx hpr hps HDL HZW HFW HV HVW HFINE HFL HLN HRN
        generalize hND : nextD ⟨loud, lag.toNat, [t0, t1, t2, t3, t4], f⟩ l D E = ND at *
        have HND : Hid (nextD ⟨loud, lag.toNat, [t0, t1, t2, t3, t4], f⟩ l D E = ND) := hND
        clear hND
        generalize hNE : nextE ⟨loud, lag.toNat, [t0, t1, t2, t3, t4], f⟩ l D E = NE at *
        have HNE : Hid (nextE ⟨loud, lag.toNat, [t0, t1, t2, t3, t4], f⟩ l D E = NE) := hNE
        clear hNE
        generalize hSO : soundsL ⟨loud, lag.toNat, [t0, t1, t2, t3, t4], f⟩ l D E = SO at *
        have HSO : Hid (soundsL ⟨loud, lag.toNat, [t0, t1, t2, t3, t4], f⟩ l D E = SO) := hSO
        clear hSO
        have M1 : Hid (320 = Nat.min 320 320) := (Nat.min_self 320).symm
        have M2 : Hid (32 = Nat.min 32 32) := (Nat.min_self 32).symm
        have P1 : Hid (0 < 320) := by show 0 < 320; decide
        have P2 : Hid (0 < 32) := by show 0 < 32; decide
        go_wp2
        refine wp_region_last (by kernel_rfl) (by kernel_rfl) (by rfl) (by kernel_rfl) ?_
        dsimp only [List.dropLast]
        repeat (quiet_step (fail))
        refine wpQuiet_nil ?_
        rintro _ ⟨nq, rfl⟩
        refine wp_copy_arr p 0 320 320 (some ⟨x, k, none⟩) 320 320 320 (D ++ E) ND 25 2 Try.underlying25 size_number (HA1.out nq) M1.out P1.out (HZ1.out nq) HF1.out _ _ rfl rfl rfl ?_
        rw [HSP1.out]
        have HA3 := HA2.out nq
        have HZ3 := HR.out nq
        have HE3 := HEND.out nq
        clear HA1 HZ1 HA2 HR HEND HSP1 HF1 M1 P1
        have HA4 : Hid (∀ d, ArrAt (((wr.drewN nq).setRow p (arrV (ND ++ E))).drewN d) p (ND ++ E)) := HA3
        have HZ4 : Hid (∀ d, Zs (((wr.drewN nq).setRow p (arrV (ND ++ E))).drewN d) (some ⟨r, k, none⟩) 32 NE) := HZ3
        have HE4 : Hid _ := HE3
        clear HA3 HZ3 HE3
        generalize (wr.drewN nq).setRow p (arrV (ND ++ E)) = W8 at HA4 HZ4 HE4 ⊢
        go_simp
        go_wp2
        refine wp_region_last (by kernel_rfl) (by kernel_rfl) (by rfl) (by kernel_rfl) ?_
        dsimp only [List.dropLast]
        repeat (quiet_step (fail))
        refine wpQuiet_nil ?_
        rintro _ ⟨nr, rfl⟩
        refine wp_copy_arr p 320 32 32 (some ⟨r, k, none⟩) 32 32 32 (ND ++ E) NE 25 2 Try.underlying25 size_number (HA4.out nr) M2.out P2.out (HZ4.out nr) HF2.out _ _ rfl rfl rfl ?_
        rw [HSP2.out]
        have HE5 : Hid _ := HE4.out nr
        clear HA4 HZ4 HE4 HSP2 HF2 M2 P2
        generalize (W8.drewN nr).setRow p (arrV (ND ++ NE)) = W9 at HE5 ⊢
        go_simp
        go_wp2
        go_ret2
        exact ⟨r, rfl, by rw [HND.out, HNE.out, HSO.out]; exact HE5.out⟩

end Go.Proofs.Ytbnkapeahbegaaa
