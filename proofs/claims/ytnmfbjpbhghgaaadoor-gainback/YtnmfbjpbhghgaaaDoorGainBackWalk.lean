/- What is written is read; what comes next is the nearest that can be told. -/
import Derived.Test.YtnmfbjpbhghgaaaDoorGainO
import Derived.Test.YtnmfbjpbhghgaaaDoorGainU
namespace Go.Proofs.YtnmfbjpbhghgaaaDoor
open Go.RowKit

/-- What stands while the law writes. -/
structure WIn (B p k : Nat) (z0 : Int) (gs : List Int) (S : Nat → Prop) (v : Value) (W : World) : Prop where
  wd : Wd S p (putsX (firstW z0 ++ nextsL z0 (gs.take k)) initE) W
  one : Kept1 B S v (toldL z0 (gs.take k)) W
  above : ∀ k, S k → B ≤ k

theorem firsts_ok {z0 : Int} (h : 0 ≤ z0 ∧ z0 ≤ 63) (gs : List Int) : ∀ x ∈ firstW z0 ++ nextsL z0 gs, okX x := fun x hx => by
  rcases List.mem_append.1 hx with h1 | h1
  · exact firstW_ok h x h1
  · exact nextsL_ok gs z0 x h1

theorem firsts_inv {z0 : Int} (h : 0 ≤ z0 ∧ z0 ≤ 63) (gs : List Int) (hl : gs.length ≤ 30) : InvE (putsX (firstW z0 ++ nextsL z0 gs) initE) ∧ (putsX (firstW z0 ++ nextsL z0 gs) initE).cnt ≤ 2000 := by
  obtain ⟨h1, h2⟩ := putsX_inv _ initE (firsts_ok h gs) initE_inv
  have e : (firstW z0 ++ nextsL z0 gs).length = gs.length + 2 := by rw [List.length_append, nextsL_len]; show 2 + gs.length = _; omega
  have hc0 : initE.cnt = 33 := by decide
  rw [e] at h2
  exact ⟨h1, by omega⟩

set_option maxRecDepth 100000 in
set_option maxHeartbeats 6400000 in
theorem gainBack.good (a0 : Option Addr) (len cap : Nat) (zs : List Int) (rate lag taps : Int) (w : World) (h0 : RowAt w a0 len zs) (hlen : len ≤ 30) (hl1 : 1 ≤ len) (z0 : Int) (gs : List Int) (hzs : zs = z0 :: gs) (hz0 : 0 ≤ z0 ∧ z0 ≤ 63)
    (hwf : ∀ i, i < len → -9223372036854775808 ≤ zs[i]?.getD 0 ∧ zs[i]?.getD 0 ≤ 9223372036854775807) (hr : RootsAt w) (hm : MayLtp rate lag taps) :
    Calls Tryd.prog 5 #[.slice a0 len cap, .int .i64 rate, .agg #[.int .i64 lag, .int .i64 taps]] w fun e w' => e = .returned (.bool true) ∧ Below w.heap.size w w' := by
  obtain ⟨w0, hw0⟩ : ∃ w0, w.alloc (.cells #[.int .i64 lag, .int .i64 taps] 32) = w0 := ⟨_, rfl⟩
  have hb00 : Below w.heap.size w w0 := by rw [← hw0]; exact (Below.refl _ _).alloc (Nat.le_refl _) _
  have hp00 : Pair w0 w.heap.size (.int .i64 lag) (.int .i64 taps) := by rw [← hw0]; exact Pair.new _ _ _
  have HBB : Hid (∀ W, Below w0.heap.size w0 W → Below w.heap.size w W) := fun W hW => hb00.trans (hW.mono hb00.size)
  have HR : Hid (∀ W, Below w0.heap.size w0 W → RootsAt W) := fun W hW => hr.below (HBB.out W hW) hr.size
  have HA : Hid (∀ W, Below w0.heap.size w0 W → RowAt W a0 len zs) := fun W hW => h0.keep (HBB.out W hW) (Nat.le_refl _)
  have HP : Hid (∀ W, Below w0.heap.size w0 W → Pair W w.heap.size (.int .i64 lag) (.int .i64 taps)) := fun W hW => (hW.block _ hp00.lt).trans hp00
  have HZ : Hid (zs = z0 :: gs ∧ zs.length = len) := ⟨hzs, h0.1⟩
  have hgl : gs.length + 1 = len := by have := h0.1; rw [hzs, List.length_cons] at this; exact this
  have HG : Hid (gs.length + 1 = len) := hgl
  have HWF : Hid (∀ i, i < len → -9223372036854775808 ≤ zs[i]?.getD 0 ∧ zs[i]?.getD 0 ≤ 9223372036854775807) := hwf
  obtain ⟨b0, o0, rfl, _, hc0⟩ := h0.2 (by omega)
  have HC : Hid (∀ W, Below w0.heap.size w0 W → ∀ i, i < len → W.cell? ⟨b0, o0 + i, none⟩ = some (.int .i64 (zs[i]?.getD 0))) := fun W hW i hi => by
    obtain ⟨b, o, e, _, hc⟩ := (HA.out W hW).2 (by omega)
    cases e
    exact hc i hi
  have hb := Below.refl w0.heap.size w0
  have HFI : Hid (∀ k, k ≤ gs.length → InvE (putsX (firstW z0 ++ nextsL z0 (gs.take k)) initE) ∧ (putsX (firstW z0 ++ nextsL z0 (gs.take k)) initE).cnt ≤ 2000) := fun k hk => firsts_inv hz0 _ (by rw [List.length_take]; omega)
  have HE : Hid (∀ k, 0 ≤ endW z0 (gs.take k) ∧ endW z0 (gs.take k) ≤ 63) := fun k => endW_in _ _ hz0
  have x0 : w0.cell? ⟨b0, o0, none⟩ = some (.int .i64 z0) := by have := HC.out w0 hb 0 (by omega); rw [HZ.out.1] at this; exact this
  have HX0 : Hid (∀ W, Below w0.heap.size w0 W → W.cell? ⟨b0, o0, none⟩ = some (.int .i64 z0)) := fun W hW => by have := HC.out W hW 0 (by omega); rw [HZ.out.1] at this; exact this
  have HW0 : Hid (∀ p S W, Wd S p (putsX (firstW z0) initE) W → (∀ k, S k → w0.heap.size ≤ k) → WIn w0.heap.size p 0 z0 gs S (.slice none 0 0) W) := fun p S W h hS => ⟨by
    show Wd S p (putsX (firstW z0 ++ nextsL z0 []) initE) W
    rw [show nextsL z0 [] = [] from rfl, List.append_nil]; exact h, Kept1.nil _ _ _, hS⟩
  have hl0 : ((len : Int) == 0) = false := beq_eq_false_iff_ne.2 (by omega)
  have hix : (0 : Int) < (len : Int) := by omega
  have hix1 : ((len : Int) ≤ 0) = False := eq_false (by omega)
  clear hc0 h0 hr hwf hzs hp00 hb00
  go_enter Tryd.func5, Tryd.ntmps5
  go_wp2_with (first
    | (go_at_call 8; refine (awake_any _ (HR.out _ hb)).mono ?_; rintro e w1 ⟨rfl, hb1⟩; replace hb := hb.trans (hb1.mono hb.size); replace x0 := HX0.out _ hb; clear hb1)
    | (go_at_call 9; go_loud (refine (newE_any _).mono ?_; rintro e w1 ⟨p, S, rfl, he, hS, hb1⟩; replace hS := fun k hk => Nat.le_trans hb.size (hS k hk); replace hb := hb.trans (hb1.mono hb.size); replace x0 := HX0.out _ hb; clear hb1))
    | (go_at_call 12; go_loud (refine (writeFirst_any S p initE z0 _ he initE_inv (by decide) hz0).mono ?_; rintro e w1 ⟨rfl, S1, he1, hw1⟩; have hS1 := hw1.above hS hb.size; replace hb := hb.trans (hw1.below hS hb.size); replace x0 := HX0.out _ hb; have hW := HW0.out _ _ _ he1 hS1; clear hw1 he hS he1 hS1)))
  have HWI : Hid (WIn w0.heap.size p 0 z0 gs S1 (.slice none 0 0) w1) := hW
  clear hW hw0
  go_loopw [8, 9, 10] (fun was told i W => Below w0.heap.size w0 W ∧ ∃ (k : Nat) (wz : Int) (S : Nat → Prop) (b1 : Option Addr) (cap1 : Nat), k + 1 ≤ len ∧ i = .int .i64 ((k + 1 : Nat) : Int) ∧ was = .int .i64 wz ∧ told = .slice b1 k cap1 ∧ Hid (wz = endW z0 (gs.take k)) ∧ Hid (WIn w0.heap.size p k z0 gs S (.slice b1 k cap1) W)) (fun _ _ i _ => len - (intOf i).toNat)
  case atStart => exact ⟨hb, 0, z0, S1, none, 0, hl1, rfl, rfl, rfl, rfl, HWI⟩
  case round =>
    clear hb x0 HWI
    obtain ⟨hb, k, wz, S, b1, cap1, hk, rfl, rfl, rfl, HWZ, HWI⟩ := hrel
    by_cases hlt : k + 1 < len
    · have hkg : k < gs.length := by omega
      have hci := HC.out wr hb (k + 1) hlt
      have hwi := HWF.out (k + 1) hlt
      have hgk : zs[k + 1]?.getD 0 = gs[k]?.getD 0 := by rw [HZ.out.1]; rfl
      rw [hgk] at hci hwi
      have htk := take_more gs hkg
      obtain ⟨g, hg⟩ : ∃ g, gs[k]?.getD 0 = g := ⟨_, rfl⟩
      rw [hg] at hci hwi htk
      have HCK : Hid (∀ W, Below w0.heap.size w0 W → W.cell? ⟨b0, o0 + (k + 1), none⟩ = some (.int .i64 g)) := fun W hW => by have := HC.out W hW (k + 1) hlt; rw [hgk, hg] at this; exact this
      have hwb := HE.out k
      rw [← HWZ.out] at hwb
      have HST := stepW_is (g := g) hwb
      obtain ⟨nz, hnz⟩ : ∃ nz, stepW wz g = nz := ⟨_, rfl⟩
      rw [hnz] at HST
      obtain ⟨hs1, hs2⟩ := HST
      obtain ⟨G, hG⟩ : ∃ G, clampI g 0 63 = G := ⟨_, rfl⟩
      have hGi := clampI_in g 0 63 (by decide)
      rw [hG] at hs1 hGi
      have hDi := clampI_in (G - wz) (-8) 8 (by decide)
      obtain ⟨D, hD⟩ : ∃ D, clampI (G - wz) (-8) 8 = D := ⟨_, rfl⟩
      rw [hD] at hs1 hDi
      have HGG : Hid (clampI g 0 63 = G) := hG
      have HDD : Hid (clampI (G - wz) (-8) 8 = D) := hD
      have hsum : nz = wz + D := hs1
      have hne : (nz != wz + D) = false := by rw [hsum]; exact bne_self_eq_false _
      have HWN : Hid (∀ W, Wd S p (putsX (firstW z0 ++ nextsL z0 (gs.take k)) initE) W → Calls Tryd.prog 30 #[.pointer (some ⟨p, 0, none⟩), .int .i64 g, .int .i64 wz] W fun e w' => e = .returned (.tuple #[.int .i64 nz, .int .i64 0]) ∧ ∃ S', Wd S' p (putsX (firstW z0 ++ nextsL z0 (gs.take (k + 1))) initE) w' ∧ Went S W S' w') := fun W hW => by
        have := writeNext_any S p _ g wz W hW (HFI.out k (by omega)).1 (by have := (HFI.out k (by omega)).2; omega)
        rw [show nextI wz (nextK g wz) = nz from hnz] at this
        rw [htk, nextsL_snoc, ← List.append_assoc, putsX_append, ← HWZ.out]
        exact this
      have HMO : Hid (∀ S' g1 c1 W, Wd S' p (putsX (firstW z0 ++ nextsL z0 (gs.take (k + 1))) initE) W → Kept1 w0.heap.size S' (.slice (some ⟨g1, 0, none⟩) (k + 1) c1) (toldL z0 (gs.take k) ++ [nz]) W → (∀ k, S' k → w0.heap.size ≤ k) → WIn w0.heap.size p (k + 1) z0 gs S' (.slice (some ⟨g1, 0, none⟩) (k + 1) c1) W) := fun S' g1 c1 W h1 h2 h3 => ⟨h1, by rw [htk, toldL_snoc, ← HWZ.out, hnz]; exact h2, h3⟩
      have HNZ : Hid (nz = endW z0 (gs.take (k + 1))) := by show _ = _; rw [htk, endW_snoc, ← HWZ.out, hnz]
      have HTL : Hid ((toldL z0 (gs.take k)).length = k) := by show _ = _; rw [toldL_len, List.length_take]; omega
      have he := HWI.out.wd
      have ho := HWI.out.one
      have hS := HWI.out.above
      clear HWI hgk htk hg hnz hs1 hG hD hsum
      generalize toldL z0 (gs.take k) = TL at *
      have c1 : Hid True := trivial
      go_wp2_with (first
        | (go_at_call 30; go_loud (refine (HWN.out _ he).mono ?_; rintro e w2 ⟨rfl, S2, he2, hw2⟩; have hS2 := hw2.above hS hb.size; have ho2 := ho.wrote hw2; replace hb := hb.trans (hw2.below hS hb.size); replace hci := HCK.out _ hb; clear hw2 he ho))
        | (go_at_call 22; clear c1; go_loud (refine (rclamp_any g 0 63 _).mono ?_; rw [HGG.out]; rintro e w9 ⟨rfl, rfl⟩))
        | (go_at_call 22; go_loud (refine (rclamp_any (G - wz) (-8) 8 _).mono ?_; rw [HDD.out]; rintro e w9 ⟨rfl, rfl⟩))
        | (at_builtin; go_loud (refine wpList_push_int w0.heap.size k _ TL nz HTL.out ho2.own (by omega) hb.size rfl _ _ rfl rfl rfl ?_; intro g6 cap6 w6 ho6 hg6 hat6; have he3 := he2.grown hg6 (fun k hk => ho2.far k hk); have ho3 := ho2.push1 he2.lt (by rw [HTL.out]) ho6 hat6; replace hb := hb.grown hg6 hb.size (fun k hk => (ho2.own.lt k hk).1); clear ho6 hg6 hat6 he2 ho2)))
      go_roundw
      case rel => exact ⟨hb, k + 1, nz, S2, _, cap6, by omega, by go_num, rfl, rfl, HNZ, HMO.out _ _ _ _ he3 ho3 hS2⟩
      case measure => simp [intOf]; omega
    · have hkg : k = gs.length := by omega
      have HLR : Hid (∀ W, Calls Tryd.prog 24 #[.int .i64 rate] W fun e w' => e = .returned (.tuple #[.int .i64 (leastI rate), .int .i64 (mostI rate)]) ∧ w' = W) := fun W => rlags_any rate W
      obtain ⟨hl0', hl1', hl2', _⟩ := lagsZ rate
      have hfi := HFI.out k (by omega)
      have he := HWI.out.wd
      have ho := HWI.out.one
      have hS := HWI.out.above
      rw [hkg, List.take_length] at he ho hfi
      rw [← hkg] at ho
      have HOF : Hid (∀ x ∈ firstW z0 ++ nextsL z0 gs, okX x) := firsts_ok hz0 gs
      have HTLn : Hid ((toldL z0 gs).length = k) := by show _ = _; rw [toldL_len, hkg]
      unfold MayLtp at hm
      have HWL0 : Hid (∀ W, Wd S p (putsX (firstW z0 ++ nextsL z0 gs) initE) W → Calls Tryd.prog 13 #[.pointer (some ⟨p, 0, none⟩), .int .i64 rate, .agg #[.int .i64 lag, .int .i64 taps]] W fun e w' => e = .returned (.int .i64 0) ∧ ∃ S', Wd S' p (putsX (ltpW (leastI rate) (mostI rate) lag taps) (putsX (firstW z0 ++ nextsL z0 gs) initE)) w' ∧ Went S W S' w') := fun W hW =>
        writeLtp_any S p _ rate lag taps W hW hfi.1 (by have := hfi.2; omega) hm
      have HRL0 : Hid (∀ p q b s W, Rd p q b s W → Inv s → s.cnt ≤ 100000 → (∃ T, AllRead b T (ltpW (leastI rate) (mostI rate) lag taps) s) → Calls Tryd.prog 15 #[.pointer (some ⟨p, 0, none⟩), .int .i64 rate] W fun e w' => e = .returned (.agg #[.int .i64 lag, .int .i64 taps]) ∧ Went (fun k => k = p) W (fun k => k = p) w') := fun p q b s W hW hi hc ⟨T, hA⟩ => by
        have h1 := readLtp_any p q b s rate W hW hi (by omega) hm.1
        obtain ⟨e1, e2⟩ := ltp_back hA
        rw [e1, e2] at h1
        refine h1.mono ?_
        rintro e w' ⟨rfl, _, hw⟩
        exact ⟨rfl, hw⟩
      generalize leastI rate = L at *
      generalize mostI rate = M at *
      obtain ⟨m1, m2, m3, m4, m5⟩ := hm
      have HOK : Hid (∀ x ∈ firstW z0 ++ nextsL z0 gs ++ ltpW L M lag taps, okX x) := fun x hx => by
        rcases List.mem_append.1 hx with h1 | h1
        · exact HOF.out x h1
        · exact ltpW_ok (by omega) hl0' m2 m3 m4 m5 x h1
      have HWL : Hid (∀ W, Wd S p (putsX (firstW z0 ++ nextsL z0 gs) initE) W → (∀ k, S k → w0.heap.size ≤ k) → Calls Tryd.prog 13 #[.pointer (some ⟨p, 0, none⟩), .int .i64 rate, .agg #[.int .i64 lag, .int .i64 taps]] W fun e w' => e = .returned (.int .i64 0) ∧ ∃ S', Wd S' p (putsX (firstW z0 ++ nextsL z0 gs ++ ltpW L M lag taps) initE) w' ∧ Went S W S' w') := fun W hW _ => by
        rw [putsX_append]
        exact HWL0.out W hW
      have htold := puts_told HOK.out (by rw [List.length_append, List.length_append, nextsL_len]; show 2 + gs.length + (ltpW L M lag taps).length ≤ 33; first | (show 2 + gs.length + 2 ≤ 33; omega) | (show 2 + gs.length + 0 ≤ 33; omega))
      obtain ⟨s2, hs2⟩ : ∃ s, putsX (firstW z0 ++ nextsL z0 gs ++ ltpW L M lag taps) initE = s := ⟨_, rfl⟩
      rw [hs2] at htold
      have HS2 : Hid (∀ p S W, Wd S p (putsX (firstW z0 ++ nextsL z0 gs ++ ltpW L M lag taps) initE) W → Wd S p s2 W) := fun p S W h => by rw [← hs2]; exact h
      obtain ⟨t1, t2, t3, t4, t5⟩ := htold
      obtain ⟨bs, hbs⟩ : ∃ b, doneL s2 200 = b := ⟨_, rfl⟩
      rw [hbs] at t4 t5
      have HD : Hid (∀ p S W, Wd S p s2 W → Calls Tryd.prog 31 #[.pointer (some ⟨p, 0, none⟩), .int .i64 200] W fun e w' => ∃ a cap, e = .returned (.tuple #[.slice a 200 cap, .int .i64 0]) ∧ w'.ownsRow W.heap.size 5 1 (.slice a 200 cap) 200 (bvals bs) ∧ Below W.heap.size W w') := fun p S W h => by
        have := doneE_int S p s2 200 200 rfl W h t1 t2 (by omega)
        rw [hbs] at this
        exact this
      obtain ⟨T, hT⟩ : ∃ T, tellS s2 = T := ⟨_, rfl⟩
      rw [hT] at t5
      obtain ⟨st0, hst0⟩ : ∃ s, initS bs = s := ⟨_, rfl⟩
      have HIN : Hid (∀ p q W, Rd p q bs (initS bs) W → Rd p q bs st0 W) := fun p q W h => by rw [← hst0]; exact h
      have i0 : Inv st0 := by rw [← hst0]; exact initS_inv t4
      have n0 : st0.cnt ≤ 1000 := by rw [← hst0, init_cnt]; decide
      rw [hst0, List.append_assoc] at t5
      obtain ⟨f1, f2, f3⟩ := first_back t5
      obtain ⟨st1, hst1⟩ : ∃ s, afterL bs firstX st0 = s := ⟨_, rfl⟩
      rw [hst1] at f2 f3
      have n1 : st1.cnt ≤ 2000 := by
        have := (afterL_inv t4 firstX st0 firstX_can i0).2
        rw [hst1] at this
        have e : firstX.length = 2 := rfl
        rw [e] at this
        omega
      have HRF : Hid (∀ p q W, Rd p q bs st0 W → Calls Tryd.prog 21 #[.pointer (some ⟨p, 0, none⟩)] W fun e w' => e = .returned (.int .i64 z0) ∧ Rd p q bs st1 w' ∧ Went (fun k => k = p) W (fun k => k = p) w') := fun p q W hW => by
        have := readFirst_any p q bs st0 W hW i0 (by omega)
        rw [f1, hst1] at this
        exact this
      have HBY : Hid (Bytes bs) := t4
      have HA0 : Hid (AllRead bs T (nextsL z0 gs ++ ltpW L M lag taps) st1 ∧ Inv st1 ∧ st1.cnt ≤ 2000) := ⟨f2, f3, n1⟩
      obtain ⟨q0, q1⟩ := (HP.out _ hb).cells
      clear HWI hfi hs2 t1 t2 t3 t4 t5 hbs hT hst0 i0 n0 f1 f2 f3 hst1 n1 HOF HFI HWF HW0 HWL0 HOK
      go_wp2_with (first
        | (go_at_call 24; go_loud (refine (HLR.out _).mono ?_; rintro e w9 ⟨rfl, rfl⟩))
        | (go_at_call 13; go_loud (refine (HWL.out _ he hS).mono ?_; rintro e w2 ⟨rfl, S2, he2, hw2⟩; replace he2 := HS2.out _ _ _ he2; have ho2 := ho.wrote hw2; replace hb := hb.trans (hw2.below hS hb.size); clear hw2 he ho hS q0 q1))
        | (go_at_call 31; go_loud (refine (HD.out _ _ _ he2).mono ?_; rintro e w3 ⟨a4, cap4, rfl, ho4, hb4⟩; obtain ⟨g4, hag, hg4⟩ := told_arg HBY.out (by decide) ho4; replace ho2 := ho2.keep hb4; replace hb := hb.trans (hb4.mono hb.size); clear hb4 ho4 he2))
        | (go_at_call 16; go_loud (refine (new_any g4 a4 200 cap4 bs _ hag).mono ?_; rintro e w1 ⟨pd, qd, rfl, hd, hqd, hpd, hb1⟩; replace hd := HIN.out _ _ _ hd; have hqB := Nat.le_trans hb.size (Nat.le_trans hqd hpd); have hfar : ∀ k', Value.ownBlock (.slice b1 k cap1) = some k' → ¬ k' = pd := (fun k' hk' => (by have := ho2.lt hk'; omega)); replace ho2 := ho2.keep hb1; replace hb := hb.trans (hb1.mono hb.size); have x0 := HX0.out _ hb; clear hb1 hag hg4 hqd)))
      replace hd := hd.drew
      replace ho2 := ho2.drew
      replace hb := hb.drew
      have x1 := HX0.out _ hb
      have j1 : (0 : Int) < (len : Int) := by omega
      have j2 : 0 < len := by omega
      have j3 : decide (0 < len) = true := decide_eq_true j2
      have j4 : (len = 0) = False := eq_false (by omega)
      go_region_held3 (fun W => W.cell? ⟨b0, o0, none⟩ = some (.int .i64 z0)) (assumption) (first
        | (go_at_call 21; go_loud (refine (HRF.out _ _ _ hd).mono ?_; rintro e w5 ⟨rfl, hd5, hw5⟩; replace ho2 := ho2.other hw5 hfar; replace hb := hb.trans (hw5.below (fun k hk => hk ▸ hqB) hb.size); replace hd := hd5; have x2 := HX0.out _ hb; clear hw5 hd5)))
      go_wp2
      have HON0 : ∀ q : Prop, q → Hid q := fun _ h => h
      have HON := HON0 _ (And.intro hd ho2)
      clear HON0
      clear hd ho2 x0 x1
      go_loopw [8, 20] (fun was i W => Below w0.heap.size w0 W ∧ ∃ (j : Nat) (wz : Int) (st : St), j ≤ k ∧ i = .int .i64 j ∧ was = .int .i64 wz ∧ Hid (wz = endW z0 (gs.take j)) ∧ Hid (Rd pd qd bs st W ∧ Kept1 w0.heap.size S2 (.slice b1 k cap1) (toldL z0 gs) W) ∧ Hid (AllRead bs T (nextsL wz (gs.drop j) ++ ltpW L M lag taps) st ∧ Inv st ∧ st.cnt ≤ 2000 + 60 * j)) (fun _ i _ => k - (intOf i).toNat)
      case atStart => exact ⟨hb, 0, z0, st1, Nat.zero_le _, rfl, rfl, rfl, HON, HA0⟩
      case round =>
        clear hb HON HA0
        obtain ⟨hb, j, wz2, st, hj, rfl, rfl, HWZ2, HRO, HAR⟩ := hrel
        by_cases hjk : j < k
        · have hjg : j < gs.length := by omega
          have hd0 := HAR.out
          rw [drop_more gs hjg] at hd0
          obtain ⟨g, hg⟩ : ∃ g, gs[j]?.getD 0 = g := ⟨_, rfl⟩
          have htk := take_more gs hjg
          rw [hg] at hd0 htk
          obtain ⟨hA, hI, hC⟩ := hd0
          obtain ⟨e1, e2, e3⟩ := next_back hA
          obtain ⟨nz, hnz⟩ : ∃ nz, stepW wz2 g = nz := ⟨_, rfl⟩
          rw [hnz] at e1 e2
          have hend : nz = endW z0 (gs.take (j + 1)) := by rw [htk, endW_snoc, ← HWZ2.out, hnz]
          have hlj : j < (toldL z0 gs).length := by rw [toldL_len]; exact hjg
          have htj : (toldL z0 gs)[j]? = some nz := by
            have := toldL_at gs z0 j hjg
            rw [List.getElem?_eq_getElem hlj] at this ⊢
            rw [hend, ← this]; rfl
          obtain ⟨g1, c1, ev, _⟩ := HRO.out.2.read htj
          have hbe : b1 = some ⟨g1, 0, none⟩ := by cases ev; rfl
          subst hbe
          have HCELL : Hid (∀ W, Kept1 w0.heap.size S2 (.slice (some ⟨g1, 0, none⟩) k cap1) (toldL z0 gs) W → W.cell? ⟨g1, j, none⟩ = some (.int .i64 nz)) := fun W hW => by
            obtain ⟨g2, c2, ev2, hcell⟩ := hW.read htj
            cases ev2
            exact hcell
          obtain ⟨st2, hst2⟩ : ∃ s, afterL bs nextX st = s := ⟨_, rfl⟩
          have hC2 : st2.cnt ≤ 2000 + 60 * (j + 1) := by
            have := (afterL_inv HBY.out nextX st nextX_can hI).2
            rw [hst2] at this
            have e : nextX.length = 1 := rfl
            rw [e] at this
            omega
          rw [hst2] at e2 e3
          have HRN : Hid (∀ W, Rd pd qd bs st W → Calls Tryd.prog 23 #[.pointer (some ⟨pd, 0, none⟩), .int .i64 wz2] W fun e w' => e = .returned (.int .i64 nz) ∧ Rd pd qd bs st2 w' ∧ Went (fun k => k = pd) W (fun k => k = pd) w') := fun W hW => by
            have := readNext_any pd qd bs st wz2 W hW hI (by omega)
            rw [e1, hst2] at this
            exact this
          have HEN : Hid (nz = endW z0 (gs.take (j + 1))) := hend
          have HAN : Hid (AllRead bs T (nextsL nz (gs.drop (j + 1)) ++ ltpW L M lag taps) st2 ∧ Inv st2 ∧ st2.cnt ≤ 2000 + 60 * (j + 1)) := ⟨e2, e3, hC2⟩
          have hd := HRO.out.1
          have ho2 := HRO.out.2
          clear HRO HAR hg htk hA hI hC e1 e2 e3 hnz hend htj hst2 hC2 ev hlj
          go_wp2_with (first
            | (go_at_call 23; go_loud (refine (HRN.out _ hd).mono ?_; rintro e w5 ⟨rfl, hd5, hw5⟩; replace ho2 := ho2.other hw5 hfar; replace hb := hb.trans (hw5.below (fun k hk => hk ▸ hqB) hb.size); replace hd := hd5; have y0 := HCELL.out _ ho2; clear hw5 hd5)))
          go_roundw
          case rel => exact ⟨hb, j + 1, nz, st2, by omega, by go_num, rfl, HEN, ⟨hd, ho2⟩, HAN⟩
          case measure => simp [intOf]; omega
        · obtain rfl : j = k := by omega
          have HRL : Hid (∀ W, Rd pd qd bs st W → Calls Tryd.prog 15 #[.pointer (some ⟨pd, 0, none⟩), .int .i64 rate] W fun e w' => e = .returned (.agg #[.int .i64 lag, .int .i64 taps]) ∧ Went (fun k => k = pd) W (fun k => k = pd) w') := fun W hW => by
            have hA := HAR.out
            rw [List.drop_of_length_le (by omega)] at hA
            exact HRL0.out pd qd bs st W hW hA.2.1 (by have := hA.2.2; omega) ⟨T, hA.1⟩
          have hd := HRO.out.1.drew
          clear HRO HAR
          go_wp2
          replace hb := hb.drew
          obtain ⟨y0, y1⟩ := (HP.out _ hb).cells
          go_region_held3 (fun W => W.cell? ⟨w.heap.size, 0, none⟩ = some (.int .i64 lag) ∧ W.cell? ⟨w.heap.size, 1, none⟩ = some (.int .i64 taps)) (first | (exact ⟨by assumption, by assumption⟩) | go_keep) (first
            | (go_at_call 15; go_loud (refine (HRL.out _ hd).mono ?_; rintro e w5 ⟨rfl, hw5⟩; replace hb := hb.trans (hw5.below (fun k hk => hk ▸ hqB) hb.size); obtain ⟨y0, y1⟩ := (HP.out _ hb).cells; clear hw5)))
          go_wp2
          go_ret
          exact ⟨rfl, HBB.out _ hb⟩

set_option maxRecDepth 100000 in
set_option maxHeartbeats 6400000 in
theorem gainBack.bad (a0 : Option Addr) (len cap : Nat) (zs : List Int) (rate lag taps : Int) (w : World) (h0 : RowAt w a0 len zs) (hlen : len ≤ 30) (hl1 : 1 ≤ len) (z0 : Int) (gs : List Int) (hzs : zs = z0 :: gs) (hz0 : 0 ≤ z0 ∧ z0 ≤ 63)
    (hwf : ∀ i, i < len → -9223372036854775808 ≤ zs[i]?.getD 0 ∧ zs[i]?.getD 0 ≤ 9223372036854775807) (hr : RootsAt w) (hm : ¬ MayLtp rate lag taps) :
    Calls Tryd.prog 5 #[.slice a0 len cap, .int .i64 rate, .agg #[.int .i64 lag, .int .i64 taps]] w fun e w' => e = .returned (.bool true) ∧ Below w.heap.size w w' := by
  obtain ⟨w0, hw0⟩ : ∃ w0, w.alloc (.cells #[.int .i64 lag, .int .i64 taps] 32) = w0 := ⟨_, rfl⟩
  have hb00 : Below w.heap.size w w0 := by rw [← hw0]; exact (Below.refl _ _).alloc (Nat.le_refl _) _
  have hp00 : Pair w0 w.heap.size (.int .i64 lag) (.int .i64 taps) := by rw [← hw0]; exact Pair.new _ _ _
  have HBB : Hid (∀ W, Below w0.heap.size w0 W → Below w.heap.size w W) := fun W hW => hb00.trans (hW.mono hb00.size)
  have HR : Hid (∀ W, Below w0.heap.size w0 W → RootsAt W) := fun W hW => hr.below (HBB.out W hW) hr.size
  have HA : Hid (∀ W, Below w0.heap.size w0 W → RowAt W a0 len zs) := fun W hW => h0.keep (HBB.out W hW) (Nat.le_refl _)
  have HP : Hid (∀ W, Below w0.heap.size w0 W → Pair W w.heap.size (.int .i64 lag) (.int .i64 taps)) := fun W hW => (hW.block _ hp00.lt).trans hp00
  have HZ : Hid (zs = z0 :: gs ∧ zs.length = len) := ⟨hzs, h0.1⟩
  have hgl : gs.length + 1 = len := by have := h0.1; rw [hzs, List.length_cons] at this; exact this
  have HG : Hid (gs.length + 1 = len) := hgl
  have HWF : Hid (∀ i, i < len → -9223372036854775808 ≤ zs[i]?.getD 0 ∧ zs[i]?.getD 0 ≤ 9223372036854775807) := hwf
  obtain ⟨b0, o0, rfl, _, hc0⟩ := h0.2 (by omega)
  have HC : Hid (∀ W, Below w0.heap.size w0 W → ∀ i, i < len → W.cell? ⟨b0, o0 + i, none⟩ = some (.int .i64 (zs[i]?.getD 0))) := fun W hW i hi => by
    obtain ⟨b, o, e, _, hc⟩ := (HA.out W hW).2 (by omega)
    cases e
    exact hc i hi
  have hb := Below.refl w0.heap.size w0
  have HFI : Hid (∀ k, k ≤ gs.length → InvE (putsX (firstW z0 ++ nextsL z0 (gs.take k)) initE) ∧ (putsX (firstW z0 ++ nextsL z0 (gs.take k)) initE).cnt ≤ 2000) := fun k hk => firsts_inv hz0 _ (by rw [List.length_take]; omega)
  have HE : Hid (∀ k, 0 ≤ endW z0 (gs.take k) ∧ endW z0 (gs.take k) ≤ 63) := fun k => endW_in _ _ hz0
  have x0 : w0.cell? ⟨b0, o0, none⟩ = some (.int .i64 z0) := by have := HC.out w0 hb 0 (by omega); rw [HZ.out.1] at this; exact this
  have HX0 : Hid (∀ W, Below w0.heap.size w0 W → W.cell? ⟨b0, o0, none⟩ = some (.int .i64 z0)) := fun W hW => by have := HC.out W hW 0 (by omega); rw [HZ.out.1] at this; exact this
  have HW0 : Hid (∀ p S W, Wd S p (putsX (firstW z0) initE) W → (∀ k, S k → w0.heap.size ≤ k) → WIn w0.heap.size p 0 z0 gs S (.slice none 0 0) W) := fun p S W h hS => ⟨by
    show Wd S p (putsX (firstW z0 ++ nextsL z0 []) initE) W
    rw [show nextsL z0 [] = [] from rfl, List.append_nil]; exact h, Kept1.nil _ _ _, hS⟩
  have hl0 : ((len : Int) == 0) = false := beq_eq_false_iff_ne.2 (by omega)
  have hix : (0 : Int) < (len : Int) := by omega
  have hix1 : ((len : Int) ≤ 0) = False := eq_false (by omega)
  clear hc0 h0 hr hwf hzs hp00 hb00
  go_enter Tryd.func5, Tryd.ntmps5
  go_wp2_with (first
    | (go_at_call 8; refine (awake_any _ (HR.out _ hb)).mono ?_; rintro e w1 ⟨rfl, hb1⟩; replace hb := hb.trans (hb1.mono hb.size); replace x0 := HX0.out _ hb; clear hb1)
    | (go_at_call 9; go_loud (refine (newE_any _).mono ?_; rintro e w1 ⟨p, S, rfl, he, hS, hb1⟩; replace hS := fun k hk => Nat.le_trans hb.size (hS k hk); replace hb := hb.trans (hb1.mono hb.size); replace x0 := HX0.out _ hb; clear hb1))
    | (go_at_call 12; go_loud (refine (writeFirst_any S p initE z0 _ he initE_inv (by decide) hz0).mono ?_; rintro e w1 ⟨rfl, S1, he1, hw1⟩; have hS1 := hw1.above hS hb.size; replace hb := hb.trans (hw1.below hS hb.size); replace x0 := HX0.out _ hb; have hW := HW0.out _ _ _ he1 hS1; clear hw1 he hS he1 hS1)))
  have HWI : Hid (WIn w0.heap.size p 0 z0 gs S1 (.slice none 0 0) w1) := hW
  clear hW hw0
  go_loopw [8, 9, 10] (fun was told i W => Below w0.heap.size w0 W ∧ ∃ (k : Nat) (wz : Int) (S : Nat → Prop) (b1 : Option Addr) (cap1 : Nat), k + 1 ≤ len ∧ i = .int .i64 ((k + 1 : Nat) : Int) ∧ was = .int .i64 wz ∧ told = .slice b1 k cap1 ∧ Hid (wz = endW z0 (gs.take k)) ∧ Hid (WIn w0.heap.size p k z0 gs S (.slice b1 k cap1) W)) (fun _ _ i _ => len - (intOf i).toNat)
  case atStart => exact ⟨hb, 0, z0, S1, none, 0, hl1, rfl, rfl, rfl, rfl, HWI⟩
  case round =>
    clear hb x0 HWI
    obtain ⟨hb, k, wz, S, b1, cap1, hk, rfl, rfl, rfl, HWZ, HWI⟩ := hrel
    by_cases hlt : k + 1 < len
    · have hkg : k < gs.length := by omega
      have hci := HC.out wr hb (k + 1) hlt
      have hwi := HWF.out (k + 1) hlt
      have hgk : zs[k + 1]?.getD 0 = gs[k]?.getD 0 := by rw [HZ.out.1]; rfl
      rw [hgk] at hci hwi
      have htk := take_more gs hkg
      obtain ⟨g, hg⟩ : ∃ g, gs[k]?.getD 0 = g := ⟨_, rfl⟩
      rw [hg] at hci hwi htk
      have HCK : Hid (∀ W, Below w0.heap.size w0 W → W.cell? ⟨b0, o0 + (k + 1), none⟩ = some (.int .i64 g)) := fun W hW => by have := HC.out W hW (k + 1) hlt; rw [hgk, hg] at this; exact this
      have hwb := HE.out k
      rw [← HWZ.out] at hwb
      have HST := stepW_is (g := g) hwb
      obtain ⟨nz, hnz⟩ : ∃ nz, stepW wz g = nz := ⟨_, rfl⟩
      rw [hnz] at HST
      obtain ⟨hs1, hs2⟩ := HST
      obtain ⟨G, hG⟩ : ∃ G, clampI g 0 63 = G := ⟨_, rfl⟩
      have hGi := clampI_in g 0 63 (by decide)
      rw [hG] at hs1 hGi
      have hDi := clampI_in (G - wz) (-8) 8 (by decide)
      obtain ⟨D, hD⟩ : ∃ D, clampI (G - wz) (-8) 8 = D := ⟨_, rfl⟩
      rw [hD] at hs1 hDi
      have HGG : Hid (clampI g 0 63 = G) := hG
      have HDD : Hid (clampI (G - wz) (-8) 8 = D) := hD
      have hsum : nz = wz + D := hs1
      have hne : (nz != wz + D) = false := by rw [hsum]; exact bne_self_eq_false _
      have HWN : Hid (∀ W, Wd S p (putsX (firstW z0 ++ nextsL z0 (gs.take k)) initE) W → Calls Tryd.prog 30 #[.pointer (some ⟨p, 0, none⟩), .int .i64 g, .int .i64 wz] W fun e w' => e = .returned (.tuple #[.int .i64 nz, .int .i64 0]) ∧ ∃ S', Wd S' p (putsX (firstW z0 ++ nextsL z0 (gs.take (k + 1))) initE) w' ∧ Went S W S' w') := fun W hW => by
        have := writeNext_any S p _ g wz W hW (HFI.out k (by omega)).1 (by have := (HFI.out k (by omega)).2; omega)
        rw [show nextI wz (nextK g wz) = nz from hnz] at this
        rw [htk, nextsL_snoc, ← List.append_assoc, putsX_append, ← HWZ.out]
        exact this
      have HMO : Hid (∀ S' g1 c1 W, Wd S' p (putsX (firstW z0 ++ nextsL z0 (gs.take (k + 1))) initE) W → Kept1 w0.heap.size S' (.slice (some ⟨g1, 0, none⟩) (k + 1) c1) (toldL z0 (gs.take k) ++ [nz]) W → (∀ k, S' k → w0.heap.size ≤ k) → WIn w0.heap.size p (k + 1) z0 gs S' (.slice (some ⟨g1, 0, none⟩) (k + 1) c1) W) := fun S' g1 c1 W h1 h2 h3 => ⟨h1, by rw [htk, toldL_snoc, ← HWZ.out, hnz]; exact h2, h3⟩
      have HNZ : Hid (nz = endW z0 (gs.take (k + 1))) := by show _ = _; rw [htk, endW_snoc, ← HWZ.out, hnz]
      have HTL : Hid ((toldL z0 (gs.take k)).length = k) := by show _ = _; rw [toldL_len, List.length_take]; omega
      have he := HWI.out.wd
      have ho := HWI.out.one
      have hS := HWI.out.above
      clear HWI hgk htk hg hnz hs1 hG hD hsum
      generalize toldL z0 (gs.take k) = TL at *
      have c1 : Hid True := trivial
      go_wp2_with (first
        | (go_at_call 30; go_loud (refine (HWN.out _ he).mono ?_; rintro e w2 ⟨rfl, S2, he2, hw2⟩; have hS2 := hw2.above hS hb.size; have ho2 := ho.wrote hw2; replace hb := hb.trans (hw2.below hS hb.size); replace hci := HCK.out _ hb; clear hw2 he ho))
        | (go_at_call 22; clear c1; go_loud (refine (rclamp_any g 0 63 _).mono ?_; rw [HGG.out]; rintro e w9 ⟨rfl, rfl⟩))
        | (go_at_call 22; go_loud (refine (rclamp_any (G - wz) (-8) 8 _).mono ?_; rw [HDD.out]; rintro e w9 ⟨rfl, rfl⟩))
        | (at_builtin; go_loud (refine wpList_push_int w0.heap.size k _ TL nz HTL.out ho2.own (by omega) hb.size rfl _ _ rfl rfl rfl ?_; intro g6 cap6 w6 ho6 hg6 hat6; have he3 := he2.grown hg6 (fun k hk => ho2.far k hk); have ho3 := ho2.push1 he2.lt (by rw [HTL.out]) ho6 hat6; replace hb := hb.grown hg6 hb.size (fun k hk => (ho2.own.lt k hk).1); clear ho6 hg6 hat6 he2 ho2)))
      go_roundw
      case rel => exact ⟨hb, k + 1, nz, S2, _, cap6, by omega, by go_num, rfl, rfl, HNZ, HMO.out _ _ _ _ he3 ho3 hS2⟩
      case measure => simp [intOf]; omega
    · have hkg : k = gs.length := by omega
      have HLR : Hid (∀ W, Calls Tryd.prog 24 #[.int .i64 rate] W fun e w' => e = .returned (.tuple #[.int .i64 (leastI rate), .int .i64 (mostI rate)]) ∧ w' = W) := fun W => rlags_any rate W
      obtain ⟨hl0', hl1', hl2', _⟩ := lagsZ rate
      have hfi := HFI.out k (by omega)
      have he := HWI.out.wd
      have ho := HWI.out.one
      have hS := HWI.out.above
      rw [hkg, List.take_length] at he ho hfi
      rw [← hkg] at ho
      have HOF : Hid (∀ x ∈ firstW z0 ++ nextsL z0 gs, okX x) := firsts_ok hz0 gs
      have HTLn : Hid ((toldL z0 gs).length = k) := by show _ = _; rw [toldL_len, hkg]
      have HWL0 : Hid (∀ W, Calls Tryd.prog 13 #[.pointer (some ⟨p, 0, none⟩), .int .i64 rate, .agg #[.int .i64 lag, .int .i64 taps]] W fun e w' => e = .returned (.int .i64 1) ∧ Below W.heap.size W w') := fun W => writeLtp_bad p rate lag taps W hm
      unfold MayLtp at hm
      generalize leastI rate = L at *
      generalize mostI rate = M at *
      have HBAD : Hid (¬ (0 < M ∧ L ≤ lag ∧ lag ≤ M ∧ 0 ≤ taps ∧ taps ≤ 7)) := hm
      have HOK : Hid (∀ x ∈ firstW z0 ++ nextsL z0 gs ++ [], okX x) := by show ∀ x ∈ _, _; rw [List.append_nil]; exact HOF.out
      have HWL : Hid (∀ W, Wd S p (putsX (firstW z0 ++ nextsL z0 gs) initE) W → (∀ k, S k → w0.heap.size ≤ k) → Calls Tryd.prog 13 #[.pointer (some ⟨p, 0, none⟩), .int .i64 rate, .agg #[.int .i64 lag, .int .i64 taps]] W fun e w' => e = .returned (.int .i64 1) ∧ ∃ S', Wd S' p (putsX (firstW z0 ++ nextsL z0 gs ++ []) initE) w' ∧ Went S W S' w') := fun W hW _ => by
        rw [List.append_nil]
        refine (HWL0.out W).mono ?_
        rintro e w' ⟨rfl, hb⟩
        exact ⟨rfl, S, hW.keep hb, (Went.refl _ _).keep hb⟩
      clear hm
      have htold := puts_told HOK.out (by rw [List.length_append, List.length_append, nextsL_len]; show 2 + gs.length + ([]).length ≤ 33; first | (show 2 + gs.length + 2 ≤ 33; omega) | (show 2 + gs.length + 0 ≤ 33; omega))
      obtain ⟨s2, hs2⟩ : ∃ s, putsX (firstW z0 ++ nextsL z0 gs ++ []) initE = s := ⟨_, rfl⟩
      rw [hs2] at htold
      have HS2 : Hid (∀ p S W, Wd S p (putsX (firstW z0 ++ nextsL z0 gs ++ []) initE) W → Wd S p s2 W) := fun p S W h => by rw [← hs2]; exact h
      obtain ⟨t1, t2, t3, t4, t5⟩ := htold
      obtain ⟨bs, hbs⟩ : ∃ b, doneL s2 200 = b := ⟨_, rfl⟩
      rw [hbs] at t4 t5
      have HD : Hid (∀ p S W, Wd S p s2 W → Calls Tryd.prog 31 #[.pointer (some ⟨p, 0, none⟩), .int .i64 200] W fun e w' => ∃ a cap, e = .returned (.tuple #[.slice a 200 cap, .int .i64 0]) ∧ w'.ownsRow W.heap.size 5 1 (.slice a 200 cap) 200 (bvals bs) ∧ Below W.heap.size W w') := fun p S W h => by
        have := doneE_int S p s2 200 200 rfl W h t1 t2 (by omega)
        rw [hbs] at this
        exact this
      obtain ⟨T, hT⟩ : ∃ T, tellS s2 = T := ⟨_, rfl⟩
      rw [hT] at t5
      obtain ⟨st0, hst0⟩ : ∃ s, initS bs = s := ⟨_, rfl⟩
      have HIN : Hid (∀ p q W, Rd p q bs (initS bs) W → Rd p q bs st0 W) := fun p q W h => by rw [← hst0]; exact h
      have i0 : Inv st0 := by rw [← hst0]; exact initS_inv t4
      have n0 : st0.cnt ≤ 1000 := by rw [← hst0, init_cnt]; decide
      rw [hst0, List.append_assoc] at t5
      obtain ⟨f1, f2, f3⟩ := first_back t5
      obtain ⟨st1, hst1⟩ : ∃ s, afterL bs firstX st0 = s := ⟨_, rfl⟩
      rw [hst1] at f2 f3
      have n1 : st1.cnt ≤ 2000 := by
        have := (afterL_inv t4 firstX st0 firstX_can i0).2
        rw [hst1] at this
        have e : firstX.length = 2 := rfl
        rw [e] at this
        omega
      have HRF : Hid (∀ p q W, Rd p q bs st0 W → Calls Tryd.prog 21 #[.pointer (some ⟨p, 0, none⟩)] W fun e w' => e = .returned (.int .i64 z0) ∧ Rd p q bs st1 w' ∧ Went (fun k => k = p) W (fun k => k = p) w') := fun p q W hW => by
        have := readFirst_any p q bs st0 W hW i0 (by omega)
        rw [f1, hst1] at this
        exact this
      have HBY : Hid (Bytes bs) := t4
      have HA0 : Hid (AllRead bs T (nextsL z0 gs ++ []) st1 ∧ Inv st1 ∧ st1.cnt ≤ 2000) := ⟨f2, f3, n1⟩
      obtain ⟨q0, q1⟩ := (HP.out _ hb).cells
      clear HWI hfi hs2 t1 t2 t3 t4 t5 hbs hT hst0 i0 n0 f1 f2 f3 hst1 n1 HOF HFI HWF HW0 HWL0 HOK
      go_wp2_with (first
        | (go_at_call 24; go_loud (refine (HLR.out _).mono ?_; rintro e w9 ⟨rfl, rfl⟩))
        | (go_at_call 13; go_loud (refine (HWL.out _ he hS).mono ?_; rintro e w2 ⟨rfl, S2, he2, hw2⟩; replace he2 := HS2.out _ _ _ he2; have ho2 := ho.wrote hw2; replace hb := hb.trans (hw2.below hS hb.size); clear hw2 he ho hS q0 q1))
        | (go_at_call 31; go_loud (refine (HD.out _ _ _ he2).mono ?_; rintro e w3 ⟨a4, cap4, rfl, ho4, hb4⟩; obtain ⟨g4, hag, hg4⟩ := told_arg HBY.out (by decide) ho4; replace ho2 := ho2.keep hb4; replace hb := hb.trans (hb4.mono hb.size); clear hb4 ho4 he2))
        | (go_at_call 16; go_loud (refine (new_any g4 a4 200 cap4 bs _ hag).mono ?_; rintro e w1 ⟨pd, qd, rfl, hd, hqd, hpd, hb1⟩; replace hd := HIN.out _ _ _ hd; have hqB := Nat.le_trans hb.size (Nat.le_trans hqd hpd); have hfar : ∀ k', Value.ownBlock (.slice b1 k cap1) = some k' → ¬ k' = pd := (fun k' hk' => (by have := ho2.lt hk'; omega)); replace ho2 := ho2.keep hb1; replace hb := hb.trans (hb1.mono hb.size); have x0 := HX0.out _ hb; clear hb1 hag hg4 hqd)))
      all_goals try (exfalso; exact HBAD.out ⟨by omega, by omega, by omega, by omega, by omega⟩)
      all_goals
        replace hd := hd.drew
        replace ho2 := ho2.drew
        replace hb := hb.drew
        have x1 := HX0.out _ hb
        have j1 : (0 : Int) < (len : Int) := by omega
        have j2 : 0 < len := by omega
        have j3 : decide (0 < len) = true := decide_eq_true j2
        have j4 : (len = 0) = False := eq_false (by omega)
        go_region_held3 (fun W => W.cell? ⟨b0, o0, none⟩ = some (.int .i64 z0)) (assumption) (first
          | (go_at_call 21; go_loud (refine (HRF.out _ _ _ hd).mono ?_; rintro e w5 ⟨rfl, hd5, hw5⟩; replace ho2 := ho2.other hw5 hfar; replace hb := hb.trans (hw5.below (fun k hk => hk ▸ hqB) hb.size); replace hd := hd5; have x2 := HX0.out _ hb; clear hw5 hd5)))
        go_wp2
        have HON0 : ∀ q : Prop, q → Hid q := fun _ h => h
        have HON := HON0 _ (And.intro hd ho2)
        clear HON0
        clear hd ho2 x0 x1
        go_loopw [8, 20] (fun was i W => Below w0.heap.size w0 W ∧ ∃ (j : Nat) (wz : Int) (st : St), j ≤ k ∧ i = .int .i64 j ∧ was = .int .i64 wz ∧ Hid (wz = endW z0 (gs.take j)) ∧ Hid (Rd pd qd bs st W ∧ Kept1 w0.heap.size S2 (.slice b1 k cap1) (toldL z0 gs) W) ∧ Hid (AllRead bs T (nextsL wz (gs.drop j) ++ []) st ∧ Inv st ∧ st.cnt ≤ 2000 + 60 * j)) (fun _ i _ => k - (intOf i).toNat)
        case atStart => exact ⟨hb, 0, z0, st1, Nat.zero_le _, rfl, rfl, rfl, HON, HA0⟩
        case round =>
          clear hb HON HA0
          obtain ⟨hb, j, wz2, st, hj, rfl, rfl, HWZ2, HRO, HAR⟩ := hrel
          by_cases hjk : j < k
          · have hjg : j < gs.length := by omega
            have hd0 := HAR.out
            rw [drop_more gs hjg] at hd0
            obtain ⟨g, hg⟩ : ∃ g, gs[j]?.getD 0 = g := ⟨_, rfl⟩
            have htk := take_more gs hjg
            rw [hg] at hd0 htk
            obtain ⟨hA, hI, hC⟩ := hd0
            obtain ⟨e1, e2, e3⟩ := next_back hA
            obtain ⟨nz, hnz⟩ : ∃ nz, stepW wz2 g = nz := ⟨_, rfl⟩
            rw [hnz] at e1 e2
            have hend : nz = endW z0 (gs.take (j + 1)) := by rw [htk, endW_snoc, ← HWZ2.out, hnz]
            have hlj : j < (toldL z0 gs).length := by rw [toldL_len]; exact hjg
            have htj : (toldL z0 gs)[j]? = some nz := by
              have := toldL_at gs z0 j hjg
              rw [List.getElem?_eq_getElem hlj] at this ⊢
              rw [hend, ← this]; rfl
            obtain ⟨g1, c1, ev, _⟩ := HRO.out.2.read htj
            have hbe : b1 = some ⟨g1, 0, none⟩ := by cases ev; rfl
            subst hbe
            have HCELL : Hid (∀ W, Kept1 w0.heap.size S2 (.slice (some ⟨g1, 0, none⟩) k cap1) (toldL z0 gs) W → W.cell? ⟨g1, j, none⟩ = some (.int .i64 nz)) := fun W hW => by
              obtain ⟨g2, c2, ev2, hcell⟩ := hW.read htj
              cases ev2
              exact hcell
            obtain ⟨st2, hst2⟩ : ∃ s, afterL bs nextX st = s := ⟨_, rfl⟩
            have hC2 : st2.cnt ≤ 2000 + 60 * (j + 1) := by
              have := (afterL_inv HBY.out nextX st nextX_can hI).2
              rw [hst2] at this
              have e : nextX.length = 1 := rfl
              rw [e] at this
              omega
            rw [hst2] at e2 e3
            have HRN : Hid (∀ W, Rd pd qd bs st W → Calls Tryd.prog 23 #[.pointer (some ⟨pd, 0, none⟩), .int .i64 wz2] W fun e w' => e = .returned (.int .i64 nz) ∧ Rd pd qd bs st2 w' ∧ Went (fun k => k = pd) W (fun k => k = pd) w') := fun W hW => by
              have := readNext_any pd qd bs st wz2 W hW hI (by omega)
              rw [e1, hst2] at this
              exact this
            have HEN : Hid (nz = endW z0 (gs.take (j + 1))) := hend
            have HAN : Hid (AllRead bs T (nextsL nz (gs.drop (j + 1)) ++ []) st2 ∧ Inv st2 ∧ st2.cnt ≤ 2000 + 60 * (j + 1)) := ⟨e2, e3, hC2⟩
            have hd := HRO.out.1
            have ho2 := HRO.out.2
            clear HRO HAR hg htk hA hI hC e1 e2 e3 hnz hend htj hst2 hC2 ev hlj
            go_wp2_with (first
              | (go_at_call 23; go_loud (refine (HRN.out _ hd).mono ?_; rintro e w5 ⟨rfl, hd5, hw5⟩; replace ho2 := ho2.other hw5 hfar; replace hb := hb.trans (hw5.below (fun k hk => hk ▸ hqB) hb.size); replace hd := hd5; have y0 := HCELL.out _ ho2; clear hw5 hd5)))
            go_roundw
            case rel => exact ⟨hb, j + 1, nz, st2, by omega, by go_num, rfl, HEN, ⟨hd, ho2⟩, HAN⟩
            case measure => simp [intOf]; omega
          · obtain rfl : j = k := by omega
            by_cases z7 : taps ≤ 7
            · have z8 : decide (taps ≤ 7) = true := decide_eq_true z7
              first
                | (exfalso; omega)
                | (go_wp2; go_quiet (fail); go_wp2; go_ret; exact ⟨rfl, HBB.out _ (Below.drewN hb _)⟩)
            · have z8 : decide (taps ≤ 7) = false := decide_eq_false z7
              go_wp2
              go_quiet (fail)
              go_wp2
              go_ret
              exact ⟨rfl, HBB.out _ (Below.drewN hb _)⟩

end Go.Proofs.YtnmfbjpbhghgaaaDoor
