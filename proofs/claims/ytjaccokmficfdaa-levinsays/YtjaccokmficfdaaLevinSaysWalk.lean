/- The law LevinSays answers true: likeness, filters, what is left and its power are what the document says. (Written by wip/mksays12.py.) -/
import Derived.Test.YtjaccokmficfdaaLevJ
import Derived.Test.YtjaccokmficfdaaMB
import Derived.Test.YtjaccokmficfdaaActs
namespace Go.Proofs.Ytjaccokmficfdaa
open Go.RowKit Lev

theorem rAuto_int (a : Option Addr) (n cap O : Nat) (o : Int) (ho : o = O) (zs : List Int) (w : World) (hz : Zs w a n zs) (hn : n ≤ 960) (hO : O ≤ 40) :
    Calls Try.prog 16 #[.slice a n cap, .int .i64 o] w fun e w' => ∃ a' c', e = .returned (.slice a' (O + 1) c') ∧ NewRow 2 w.heap.size w' a' (autoL zs O) ∧ Below w.heap.size w w' := by
  subst ho
  exact rAuto_any a n cap O zs w hz hn hO

set_option maxRecDepth 100000 in
set_option maxHeartbeats 3200000 in
theorem levinSays.yyy (x r a : Option Addr) (n cap p cr q ca : Nat) (zs rs fs : List Int) (o : Int) (w : World) (hzx : Zs w x n zs) (hzr : Zs w r p rs) (hza : Zs w a q fs) (hcap : n ≤ cap ∧ q ≤ ca) (hn : n ≤ 1000) (hp : p ≤ 40) (hq : q ≤ 40) (O : Nat) (HAY : Hid (o = (O : Int) ∧ n ≤ 960 ∧ 1 ≤ O ∧ O ≤ 32)) (S : Nat) (HSY : Hid (p = S + 1 ∧ 1 ≤ S ∧ S ≤ 32)) (HRY : Hid (n ≤ 960 ∧ q ≤ 32)) :
    Calls Try.prog 4 #[.slice x n cap, .int .i64 o, .slice r p cr, .slice a q ca] w fun e w' => e = .returned (.bool true) ∧ Below w.heap.size w w' := by
  have HZ : Hid (∀ W, Below w.heap.size w W → Zs W x n zs) := fun W hW => hzx.keep hW
  have HZR : Hid (∀ W, Below w.heap.size w W → Zs W r p rs) := fun W hW => hzr.keep hW
  have HZA : Hid (∀ W, Below w.heap.size w W → Zs W a q fs) := fun W hW => hza.keep hW
  have HL : Hid (zs.length = n ∧ rs.length = p ∧ fs.length = q ∧ n ≤ maxLen) := ⟨hzx.len, hzr.len, hza.len, by unfold maxLen; omega⟩
  have HCAP : Hid (n ≤ cap ∧ q ≤ ca) := hcap
  have HMR : Hid (p ≤ maxLen) := by show _ ≤ _; unfold maxLen; omega
  have HMA : Hid (q ≤ maxLen) := by show _ ≤ _; unfold maxLen; omega
  have HN : Hid (n ≤ 1000 ∧ p ≤ 40 ∧ q ≤ 40 ∧ n * 8 ≤ 140737488355328 ∧ p * 8 ≤ 140737488355328) := ⟨hn, hp, hq, by omega, by omega⟩
  have HCX : Hid (∀ W, Below w.heap.size w W → 0 < n → ∃ y, x = some y ∧ ∀ i, i < n → W.cell? (y.add i) = some (.int .i64 (zs[i]?.getD 0))) := fun W hW h0 => zs_adds (HZ.out W hW) h0
  have HCR : Hid (∀ W, Below w.heap.size w W → 0 < p → ∃ y, r = some y ∧ ∀ i, i < p → W.cell? (y.add i) = some (.int .i64 (rs[i]?.getD 0))) := fun W hW h0 => zs_adds (HZR.out W hW) h0
  obtain ⟨pw, hpw⟩ : ∃ v, powI zs = v := ⟨_, rfl⟩
  have HPW : Hid (powI zs = pw) := hpw
  have HSL : Hid ((solveZ rs).length = S ∧ stableZ (solveZ rs) = true) := by
    have h1 := HL.out.2.1
    have h2 := HSY.out
    exact ⟨by rw [solveZ_len (by omega)]; omega, solveZ_stable (by omega)⟩
  have hb := Below.refl w.heap.size w
  have g1 : Hid True := trivial
  have y1 : Hid True := trivial
  have ho1 : 1 ≤ o := by have := HAY.out; omega
  have ho2 : o ≤ 32 := by have := HAY.out; omega
  have hn9 : n ≤ 960 := HAY.out.2.1
  have y2 : Hid True := trivial
  have hp1 : 2 ≤ p := by have := HSY.out; omega
  have hp2 : p ≤ 33 := by have := HSY.out; omega
  have hq1 : q ≤ 32 := HRY.out.2
  clear hzx hzr hza hpw hcap
  go_enter Try.func4, Try.ntmps4
  go_wp2_with (first
    | (go_at_call 9; go_loud (refine (awake_any w).mono ?_; rintro e w1 ⟨rfl, hb1⟩; replace hb := hb.trans (hb1.mono hb.size); clear hb1))
    | (at_builtin; clear g1; go_loud (refine wpList_append_copy 23 2 Try.underlying23 info_int64 x n cap zs HL.out.1 HN.out.2.2.2.1 (HCX.out _ hb) rfl _ _ rfl rfl rfl ?_; intro r1 c1 w2 hr1 hb2; have hz1 := Zs.of_new hr1 HL.out.1; replace hb := hb.trans (hb2.mono hb.size); clear hb2))
    | (go_at_call 10; go_loud (refine (pAuto_int r1 n c1 O o HAY.out.1 zs _ hz1 HAY.out.2.1 HAY.out.2.2.1 HAY.out.2.2.2).mono ?_; rintro e w3 ⟨a3, c3, rfl, hr3, hb3⟩; replace hb := hb.trans (hb3.mono hb.size); clear hb3))
    | (go_at_call 16; go_loud (refine (rAuto_int x n cap O o HAY.out.1 zs _ (HZ.out _ hb) HAY.out.2.1 (by have := HAY.out; omega)).mono ?_; rintro e w4 ⟨a4, c4, rfl, hr4, hb4⟩; replace hr3 := hr3.keep hb4; replace hb := hb.trans (hb4.mono hb.size); clear hb4))
    | (go_at_call 14; clear y1; go_loud (refine (zsame_any a3 a4 (O + 1) c3 c4 (autoL zs O) _ (Zs.of_new hr3 (autoL_len _ _)) (Zs.of_new hr4 (autoL_len _ _)) (by have := HAY.out; omega)).mono ?_; rintro e w5 ⟨rfl, k5, hw5⟩; replace hb := below_drewN hb k5; rw [← hw5] at hb; clear hw5))
    | (at_builtin; go_loud (refine wpList_append_copy 23 2 Try.underlying23 info_int64 r p cr rs HL.out.2.1 HN.out.2.2.2.2 (HCR.out _ hb) rfl _ _ rfl rfl rfl ?_; intro r6 c6 w6 hr6 hb6; have hz6 := Zs.of_new hr6 HL.out.2.1; replace hb := hb.trans (hb6.mono hb.size); clear hb6))
    | (go_at_call 11; go_loud (refine (pSolve_yes r6 p c6 S rs _ hz6 HSY.out.1 HSY.out.2.1 HSY.out.2.2).mono ?_; rintro e w7 ⟨a7, c7, rfl, hr7, hb7⟩; replace hb := hb.trans (hb7.mono hb.size); clear hb7))
    | (go_at_call 17; go_loud (refine (rSolve_any r p cr S rs _ (HZR.out _ hb) HSY.out.1 HSY.out.2.1 HSY.out.2.2).mono ?_; rintro e w8 ⟨a8, c8, rfl, hr8, hb8⟩; replace hr7 := hr7.keep hb8; replace hb := hb.trans (hb8.mono hb.size); clear hb8))
    | (go_at_call 14; clear y2; go_loud (refine (zsame_any a7 a8 S c7 c8 (solveZ rs) _ (Zs.of_new hr7 HSL.out.1) (Zs.of_new hr8 HSL.out.1) (by have := HSY.out; omega)).mono ?_; rintro e w9 ⟨rfl, k9, hw9⟩; replace hr7 := hr7.drewN k9; replace hb := below_drewN hb k9; rw [← hw9] at hb hr7; clear hw9))
    | (go_at_call 18; go_loud (refine (cstable_any a7 S c7 (solveZ rs) _ (Zs.of_new hr7 HSL.out.1) (by have := HSY.out; omega)).mono ?_; rw [HSL.out.2]; rintro e w10 ⟨rfl, hb10⟩; replace hb := hb.trans (hb10.mono hb.size); clear hb10))
    | (go_at_call 12; go_loud (refine (pRest_yes x a n cap q ca zs fs _ (HZ.out _ hb) (HZA.out _ hb) HRY.out.1 HRY.out.2 HCAP.out.2).mono ?_; rintro e w11 ⟨a11, c11, rfl, hr11, hb11⟩; replace hb := hb.trans (hb11.mono hb.size); clear hb11))
    | (go_at_call 19; go_loud (refine (rRest_any x a n cap q ca zs fs _ (HZ.out _ hb) (HZA.out _ hb) HRY.out.1 (by have := HRY.out; omega)).mono ?_; rintro e w12 ⟨a12, c12, rfl, hr12, hb12⟩; replace hr11 := hr11.keep hb12; replace hb := hb.trans (hb12.mono hb.size); clear hb12))
    | (go_at_call 14; go_loud (refine (zsame_any a11 a12 n c11 c12 (restL zs fs) _ (Zs.of_new hr11 (by rw [restL_len]; exact HL.out.1)) (Zs.of_new hr12 (by rw [restL_len]; exact HL.out.1)) (by have := HRY.out; omega)).mono ?_; rintro e w13 ⟨rfl, k13, hw13⟩; replace hb := below_drewN hb k13; rw [← hw13] at hb; clear hw13))
    | (go_at_call 15; go_loud (refine (pPower x n cap zs _ (HZ.out _ hb) HL.out.2.2.2 HCAP.out.1).mono ?_; rw [HPW.out]; rintro e w14 ⟨rfl, hb14⟩; replace hb := hb.trans (hb14.mono hb.size); clear hb14))
    | (go_at_call 20; go_loud (refine (rPower_any x n cap zs _ (HZ.out _ hb) HL.out.2.2.2).mono ?_; rw [HPW.out]; rintro e w15 ⟨rfl, hw15⟩; rw [← hw15] at hb; clear hw15)))
  all_goals first
    | (exfalso; skip; omega)
    | (go_ret; exact ⟨rfl, hb⟩)

set_option maxRecDepth 100000 in
set_option maxHeartbeats 3200000 in
theorem levinSays.yyn (x r a : Option Addr) (n cap p cr q ca : Nat) (zs rs fs : List Int) (o : Int) (w : World) (hzx : Zs w x n zs) (hzr : Zs w r p rs) (hza : Zs w a q fs) (hcap : n ≤ cap ∧ q ≤ ca) (hn : n ≤ 1000) (hp : p ≤ 40) (hq : q ≤ 40) (O : Nat) (HAY : Hid (o = (O : Int) ∧ n ≤ 960 ∧ 1 ≤ O ∧ O ≤ 32)) (S : Nat) (HSY : Hid (p = S + 1 ∧ 1 ≤ S ∧ S ≤ 32)) (HRN : Hid (¬ (n ≤ 960 ∧ q ≤ 32))) :
    Calls Try.prog 4 #[.slice x n cap, .int .i64 o, .slice r p cr, .slice a q ca] w fun e w' => e = .returned (.bool true) ∧ Below w.heap.size w w' := by
  have HZ : Hid (∀ W, Below w.heap.size w W → Zs W x n zs) := fun W hW => hzx.keep hW
  have HZR : Hid (∀ W, Below w.heap.size w W → Zs W r p rs) := fun W hW => hzr.keep hW
  have HZA : Hid (∀ W, Below w.heap.size w W → Zs W a q fs) := fun W hW => hza.keep hW
  have HL : Hid (zs.length = n ∧ rs.length = p ∧ fs.length = q ∧ n ≤ maxLen) := ⟨hzx.len, hzr.len, hza.len, by unfold maxLen; omega⟩
  have HCAP : Hid (n ≤ cap ∧ q ≤ ca) := hcap
  have HMR : Hid (p ≤ maxLen) := by show _ ≤ _; unfold maxLen; omega
  have HMA : Hid (q ≤ maxLen) := by show _ ≤ _; unfold maxLen; omega
  have HN : Hid (n ≤ 1000 ∧ p ≤ 40 ∧ q ≤ 40 ∧ n * 8 ≤ 140737488355328 ∧ p * 8 ≤ 140737488355328) := ⟨hn, hp, hq, by omega, by omega⟩
  have HCX : Hid (∀ W, Below w.heap.size w W → 0 < n → ∃ y, x = some y ∧ ∀ i, i < n → W.cell? (y.add i) = some (.int .i64 (zs[i]?.getD 0))) := fun W hW h0 => zs_adds (HZ.out W hW) h0
  have HCR : Hid (∀ W, Below w.heap.size w W → 0 < p → ∃ y, r = some y ∧ ∀ i, i < p → W.cell? (y.add i) = some (.int .i64 (rs[i]?.getD 0))) := fun W hW h0 => zs_adds (HZR.out W hW) h0
  obtain ⟨pw, hpw⟩ : ∃ v, powI zs = v := ⟨_, rfl⟩
  have HPW : Hid (powI zs = pw) := hpw
  have HSL : Hid ((solveZ rs).length = S ∧ stableZ (solveZ rs) = true) := by
    have h1 := HL.out.2.1
    have h2 := HSY.out
    exact ⟨by rw [solveZ_len (by omega)]; omega, solveZ_stable (by omega)⟩
  have hb := Below.refl w.heap.size w
  have g1 : Hid True := trivial
  have y1 : Hid True := trivial
  have ho1 : 1 ≤ o := by have := HAY.out; omega
  have ho2 : o ≤ 32 := by have := HAY.out; omega
  have hn9 : n ≤ 960 := HAY.out.2.1
  have y2 : Hid True := trivial
  have hp1 : 2 ≤ p := by have := HSY.out; omega
  have hp2 : p ≤ 33 := by have := HSY.out; omega
  clear hzx hzr hza hpw hcap
  go_enter Try.func4, Try.ntmps4
  go_wp2_with (first
    | (go_at_call 9; go_loud (refine (awake_any w).mono ?_; rintro e w1 ⟨rfl, hb1⟩; replace hb := hb.trans (hb1.mono hb.size); clear hb1))
    | (at_builtin; clear g1; go_loud (refine wpList_append_copy 23 2 Try.underlying23 info_int64 x n cap zs HL.out.1 HN.out.2.2.2.1 (HCX.out _ hb) rfl _ _ rfl rfl rfl ?_; intro r1 c1 w2 hr1 hb2; have hz1 := Zs.of_new hr1 HL.out.1; replace hb := hb.trans (hb2.mono hb.size); clear hb2))
    | (go_at_call 10; go_loud (refine (pAuto_int r1 n c1 O o HAY.out.1 zs _ hz1 HAY.out.2.1 HAY.out.2.2.1 HAY.out.2.2.2).mono ?_; rintro e w3 ⟨a3, c3, rfl, hr3, hb3⟩; replace hb := hb.trans (hb3.mono hb.size); clear hb3))
    | (go_at_call 16; go_loud (refine (rAuto_int x n cap O o HAY.out.1 zs _ (HZ.out _ hb) HAY.out.2.1 (by have := HAY.out; omega)).mono ?_; rintro e w4 ⟨a4, c4, rfl, hr4, hb4⟩; replace hr3 := hr3.keep hb4; replace hb := hb.trans (hb4.mono hb.size); clear hb4))
    | (go_at_call 14; clear y1; go_loud (refine (zsame_any a3 a4 (O + 1) c3 c4 (autoL zs O) _ (Zs.of_new hr3 (autoL_len _ _)) (Zs.of_new hr4 (autoL_len _ _)) (by have := HAY.out; omega)).mono ?_; rintro e w5 ⟨rfl, k5, hw5⟩; replace hb := below_drewN hb k5; rw [← hw5] at hb; clear hw5))
    | (at_builtin; go_loud (refine wpList_append_copy 23 2 Try.underlying23 info_int64 r p cr rs HL.out.2.1 HN.out.2.2.2.2 (HCR.out _ hb) rfl _ _ rfl rfl rfl ?_; intro r6 c6 w6 hr6 hb6; have hz6 := Zs.of_new hr6 HL.out.2.1; replace hb := hb.trans (hb6.mono hb.size); clear hb6))
    | (go_at_call 11; go_loud (refine (pSolve_yes r6 p c6 S rs _ hz6 HSY.out.1 HSY.out.2.1 HSY.out.2.2).mono ?_; rintro e w7 ⟨a7, c7, rfl, hr7, hb7⟩; replace hb := hb.trans (hb7.mono hb.size); clear hb7))
    | (go_at_call 17; go_loud (refine (rSolve_any r p cr S rs _ (HZR.out _ hb) HSY.out.1 HSY.out.2.1 HSY.out.2.2).mono ?_; rintro e w8 ⟨a8, c8, rfl, hr8, hb8⟩; replace hr7 := hr7.keep hb8; replace hb := hb.trans (hb8.mono hb.size); clear hb8))
    | (go_at_call 14; clear y2; go_loud (refine (zsame_any a7 a8 S c7 c8 (solveZ rs) _ (Zs.of_new hr7 HSL.out.1) (Zs.of_new hr8 HSL.out.1) (by have := HSY.out; omega)).mono ?_; rintro e w9 ⟨rfl, k9, hw9⟩; replace hr7 := hr7.drewN k9; replace hb := below_drewN hb k9; rw [← hw9] at hb hr7; clear hw9))
    | (go_at_call 18; go_loud (refine (cstable_any a7 S c7 (solveZ rs) _ (Zs.of_new hr7 HSL.out.1) (by have := HSY.out; omega)).mono ?_; rw [HSL.out.2]; rintro e w10 ⟨rfl, hb10⟩; replace hb := hb.trans (hb10.mono hb.size); clear hb10))
    | (go_at_call 12; go_loud (refine (pRest_no x a n cap q ca zs fs _ (HZ.out _ hb) (HZA.out _ hb) HL.out.2.2.2 HMA.out HRN.out).mono ?_; rintro e w11 ⟨rfl, hb11⟩; replace hb := hb.trans (hb11.mono hb.size); clear hb11))
    | (go_at_call 15; go_loud (refine (pPower x n cap zs _ (HZ.out _ hb) HL.out.2.2.2 HCAP.out.1).mono ?_; rw [HPW.out]; rintro e w14 ⟨rfl, hb14⟩; replace hb := hb.trans (hb14.mono hb.size); clear hb14))
    | (go_at_call 20; go_loud (refine (rPower_any x n cap zs _ (HZ.out _ hb) HL.out.2.2.2).mono ?_; rw [HPW.out]; rintro e w15 ⟨rfl, hw15⟩; rw [← hw15] at hb; clear hw15)))
  all_goals first
    | (exfalso; have h3 := HRN.out; omega)
    | (go_ret; exact ⟨rfl, hb⟩)

set_option maxRecDepth 100000 in
set_option maxHeartbeats 3200000 in
theorem levinSays.yny (x r a : Option Addr) (n cap p cr q ca : Nat) (zs rs fs : List Int) (o : Int) (w : World) (hzx : Zs w x n zs) (hzr : Zs w r p rs) (hza : Zs w a q fs) (hcap : n ≤ cap ∧ q ≤ ca) (hn : n ≤ 1000) (hp : p ≤ 40) (hq : q ≤ 40) (O : Nat) (HAY : Hid (o = (O : Int) ∧ n ≤ 960 ∧ 1 ≤ O ∧ O ≤ 32)) (HSN : Hid (¬ (2 ≤ p ∧ p ≤ 33))) (HRY : Hid (n ≤ 960 ∧ q ≤ 32)) :
    Calls Try.prog 4 #[.slice x n cap, .int .i64 o, .slice r p cr, .slice a q ca] w fun e w' => e = .returned (.bool true) ∧ Below w.heap.size w w' := by
  have HZ : Hid (∀ W, Below w.heap.size w W → Zs W x n zs) := fun W hW => hzx.keep hW
  have HZR : Hid (∀ W, Below w.heap.size w W → Zs W r p rs) := fun W hW => hzr.keep hW
  have HZA : Hid (∀ W, Below w.heap.size w W → Zs W a q fs) := fun W hW => hza.keep hW
  have HL : Hid (zs.length = n ∧ rs.length = p ∧ fs.length = q ∧ n ≤ maxLen) := ⟨hzx.len, hzr.len, hza.len, by unfold maxLen; omega⟩
  have HCAP : Hid (n ≤ cap ∧ q ≤ ca) := hcap
  have HMR : Hid (p ≤ maxLen) := by show _ ≤ _; unfold maxLen; omega
  have HMA : Hid (q ≤ maxLen) := by show _ ≤ _; unfold maxLen; omega
  have HN : Hid (n ≤ 1000 ∧ p ≤ 40 ∧ q ≤ 40 ∧ n * 8 ≤ 140737488355328 ∧ p * 8 ≤ 140737488355328) := ⟨hn, hp, hq, by omega, by omega⟩
  have HCX : Hid (∀ W, Below w.heap.size w W → 0 < n → ∃ y, x = some y ∧ ∀ i, i < n → W.cell? (y.add i) = some (.int .i64 (zs[i]?.getD 0))) := fun W hW h0 => zs_adds (HZ.out W hW) h0
  have HCR : Hid (∀ W, Below w.heap.size w W → 0 < p → ∃ y, r = some y ∧ ∀ i, i < p → W.cell? (y.add i) = some (.int .i64 (rs[i]?.getD 0))) := fun W hW h0 => zs_adds (HZR.out W hW) h0
  obtain ⟨pw, hpw⟩ : ∃ v, powI zs = v := ⟨_, rfl⟩
  have HPW : Hid (powI zs = pw) := hpw
  have hb := Below.refl w.heap.size w
  have g1 : Hid True := trivial
  have y1 : Hid True := trivial
  have ho1 : 1 ≤ o := by have := HAY.out; omega
  have ho2 : o ≤ 32 := by have := HAY.out; omega
  have hn9 : n ≤ 960 := HAY.out.2.1
  have hq1 : q ≤ 32 := HRY.out.2
  clear hzx hzr hza hpw hcap
  go_enter Try.func4, Try.ntmps4
  go_wp2_with (first
    | (go_at_call 9; go_loud (refine (awake_any w).mono ?_; rintro e w1 ⟨rfl, hb1⟩; replace hb := hb.trans (hb1.mono hb.size); clear hb1))
    | (at_builtin; clear g1; go_loud (refine wpList_append_copy 23 2 Try.underlying23 info_int64 x n cap zs HL.out.1 HN.out.2.2.2.1 (HCX.out _ hb) rfl _ _ rfl rfl rfl ?_; intro r1 c1 w2 hr1 hb2; have hz1 := Zs.of_new hr1 HL.out.1; replace hb := hb.trans (hb2.mono hb.size); clear hb2))
    | (go_at_call 10; go_loud (refine (pAuto_int r1 n c1 O o HAY.out.1 zs _ hz1 HAY.out.2.1 HAY.out.2.2.1 HAY.out.2.2.2).mono ?_; rintro e w3 ⟨a3, c3, rfl, hr3, hb3⟩; replace hb := hb.trans (hb3.mono hb.size); clear hb3))
    | (go_at_call 16; go_loud (refine (rAuto_int x n cap O o HAY.out.1 zs _ (HZ.out _ hb) HAY.out.2.1 (by have := HAY.out; omega)).mono ?_; rintro e w4 ⟨a4, c4, rfl, hr4, hb4⟩; replace hr3 := hr3.keep hb4; replace hb := hb.trans (hb4.mono hb.size); clear hb4))
    | (go_at_call 14; clear y1; go_loud (refine (zsame_any a3 a4 (O + 1) c3 c4 (autoL zs O) _ (Zs.of_new hr3 (autoL_len _ _)) (Zs.of_new hr4 (autoL_len _ _)) (by have := HAY.out; omega)).mono ?_; rintro e w5 ⟨rfl, k5, hw5⟩; replace hb := below_drewN hb k5; rw [← hw5] at hb; clear hw5))
    | (at_builtin; go_loud (refine wpList_append_copy 23 2 Try.underlying23 info_int64 r p cr rs HL.out.2.1 HN.out.2.2.2.2 (HCR.out _ hb) rfl _ _ rfl rfl rfl ?_; intro r6 c6 w6 hr6 hb6; have hz6 := Zs.of_new hr6 HL.out.2.1; replace hb := hb.trans (hb6.mono hb.size); clear hb6))
    | (go_at_call 11; go_loud (refine (pSolve_no r6 p c6 rs _ hz6 HMR.out HSN.out).mono ?_; rintro e w7 ⟨rfl, hb7⟩; replace hb := hb.trans (hb7.mono hb.size); clear hb7))
    | (go_at_call 12; go_loud (refine (pRest_yes x a n cap q ca zs fs _ (HZ.out _ hb) (HZA.out _ hb) HRY.out.1 HRY.out.2 HCAP.out.2).mono ?_; rintro e w11 ⟨a11, c11, rfl, hr11, hb11⟩; replace hb := hb.trans (hb11.mono hb.size); clear hb11))
    | (go_at_call 19; go_loud (refine (rRest_any x a n cap q ca zs fs _ (HZ.out _ hb) (HZA.out _ hb) HRY.out.1 (by have := HRY.out; omega)).mono ?_; rintro e w12 ⟨a12, c12, rfl, hr12, hb12⟩; replace hr11 := hr11.keep hb12; replace hb := hb.trans (hb12.mono hb.size); clear hb12))
    | (go_at_call 14; go_loud (refine (zsame_any a11 a12 n c11 c12 (restL zs fs) _ (Zs.of_new hr11 (by rw [restL_len]; exact HL.out.1)) (Zs.of_new hr12 (by rw [restL_len]; exact HL.out.1)) (by have := HRY.out; omega)).mono ?_; rintro e w13 ⟨rfl, k13, hw13⟩; replace hb := below_drewN hb k13; rw [← hw13] at hb; clear hw13))
    | (go_at_call 15; go_loud (refine (pPower x n cap zs _ (HZ.out _ hb) HL.out.2.2.2 HCAP.out.1).mono ?_; rw [HPW.out]; rintro e w14 ⟨rfl, hb14⟩; replace hb := hb.trans (hb14.mono hb.size); clear hb14))
    | (go_at_call 20; go_loud (refine (rPower_any x n cap zs _ (HZ.out _ hb) HL.out.2.2.2).mono ?_; rw [HPW.out]; rintro e w15 ⟨rfl, hw15⟩; rw [← hw15] at hb; clear hw15)))
  all_goals first
    | (exfalso; have h2 := HSN.out; omega)
    | (go_ret; exact ⟨rfl, hb⟩)

set_option maxRecDepth 100000 in
set_option maxHeartbeats 3200000 in
theorem levinSays.ynn (x r a : Option Addr) (n cap p cr q ca : Nat) (zs rs fs : List Int) (o : Int) (w : World) (hzx : Zs w x n zs) (hzr : Zs w r p rs) (hza : Zs w a q fs) (hcap : n ≤ cap ∧ q ≤ ca) (hn : n ≤ 1000) (hp : p ≤ 40) (hq : q ≤ 40) (O : Nat) (HAY : Hid (o = (O : Int) ∧ n ≤ 960 ∧ 1 ≤ O ∧ O ≤ 32)) (HSN : Hid (¬ (2 ≤ p ∧ p ≤ 33))) (HRN : Hid (¬ (n ≤ 960 ∧ q ≤ 32))) :
    Calls Try.prog 4 #[.slice x n cap, .int .i64 o, .slice r p cr, .slice a q ca] w fun e w' => e = .returned (.bool true) ∧ Below w.heap.size w w' := by
  have HZ : Hid (∀ W, Below w.heap.size w W → Zs W x n zs) := fun W hW => hzx.keep hW
  have HZR : Hid (∀ W, Below w.heap.size w W → Zs W r p rs) := fun W hW => hzr.keep hW
  have HZA : Hid (∀ W, Below w.heap.size w W → Zs W a q fs) := fun W hW => hza.keep hW
  have HL : Hid (zs.length = n ∧ rs.length = p ∧ fs.length = q ∧ n ≤ maxLen) := ⟨hzx.len, hzr.len, hza.len, by unfold maxLen; omega⟩
  have HCAP : Hid (n ≤ cap ∧ q ≤ ca) := hcap
  have HMR : Hid (p ≤ maxLen) := by show _ ≤ _; unfold maxLen; omega
  have HMA : Hid (q ≤ maxLen) := by show _ ≤ _; unfold maxLen; omega
  have HN : Hid (n ≤ 1000 ∧ p ≤ 40 ∧ q ≤ 40 ∧ n * 8 ≤ 140737488355328 ∧ p * 8 ≤ 140737488355328) := ⟨hn, hp, hq, by omega, by omega⟩
  have HCX : Hid (∀ W, Below w.heap.size w W → 0 < n → ∃ y, x = some y ∧ ∀ i, i < n → W.cell? (y.add i) = some (.int .i64 (zs[i]?.getD 0))) := fun W hW h0 => zs_adds (HZ.out W hW) h0
  have HCR : Hid (∀ W, Below w.heap.size w W → 0 < p → ∃ y, r = some y ∧ ∀ i, i < p → W.cell? (y.add i) = some (.int .i64 (rs[i]?.getD 0))) := fun W hW h0 => zs_adds (HZR.out W hW) h0
  obtain ⟨pw, hpw⟩ : ∃ v, powI zs = v := ⟨_, rfl⟩
  have HPW : Hid (powI zs = pw) := hpw
  have hb := Below.refl w.heap.size w
  have g1 : Hid True := trivial
  have y1 : Hid True := trivial
  have ho1 : 1 ≤ o := by have := HAY.out; omega
  have ho2 : o ≤ 32 := by have := HAY.out; omega
  have hn9 : n ≤ 960 := HAY.out.2.1
  clear hzx hzr hza hpw hcap
  go_enter Try.func4, Try.ntmps4
  go_wp2_with (first
    | (go_at_call 9; go_loud (refine (awake_any w).mono ?_; rintro e w1 ⟨rfl, hb1⟩; replace hb := hb.trans (hb1.mono hb.size); clear hb1))
    | (at_builtin; clear g1; go_loud (refine wpList_append_copy 23 2 Try.underlying23 info_int64 x n cap zs HL.out.1 HN.out.2.2.2.1 (HCX.out _ hb) rfl _ _ rfl rfl rfl ?_; intro r1 c1 w2 hr1 hb2; have hz1 := Zs.of_new hr1 HL.out.1; replace hb := hb.trans (hb2.mono hb.size); clear hb2))
    | (go_at_call 10; go_loud (refine (pAuto_int r1 n c1 O o HAY.out.1 zs _ hz1 HAY.out.2.1 HAY.out.2.2.1 HAY.out.2.2.2).mono ?_; rintro e w3 ⟨a3, c3, rfl, hr3, hb3⟩; replace hb := hb.trans (hb3.mono hb.size); clear hb3))
    | (go_at_call 16; go_loud (refine (rAuto_int x n cap O o HAY.out.1 zs _ (HZ.out _ hb) HAY.out.2.1 (by have := HAY.out; omega)).mono ?_; rintro e w4 ⟨a4, c4, rfl, hr4, hb4⟩; replace hr3 := hr3.keep hb4; replace hb := hb.trans (hb4.mono hb.size); clear hb4))
    | (go_at_call 14; clear y1; go_loud (refine (zsame_any a3 a4 (O + 1) c3 c4 (autoL zs O) _ (Zs.of_new hr3 (autoL_len _ _)) (Zs.of_new hr4 (autoL_len _ _)) (by have := HAY.out; omega)).mono ?_; rintro e w5 ⟨rfl, k5, hw5⟩; replace hb := below_drewN hb k5; rw [← hw5] at hb; clear hw5))
    | (at_builtin; go_loud (refine wpList_append_copy 23 2 Try.underlying23 info_int64 r p cr rs HL.out.2.1 HN.out.2.2.2.2 (HCR.out _ hb) rfl _ _ rfl rfl rfl ?_; intro r6 c6 w6 hr6 hb6; have hz6 := Zs.of_new hr6 HL.out.2.1; replace hb := hb.trans (hb6.mono hb.size); clear hb6))
    | (go_at_call 11; go_loud (refine (pSolve_no r6 p c6 rs _ hz6 HMR.out HSN.out).mono ?_; rintro e w7 ⟨rfl, hb7⟩; replace hb := hb.trans (hb7.mono hb.size); clear hb7))
    | (go_at_call 12; go_loud (refine (pRest_no x a n cap q ca zs fs _ (HZ.out _ hb) (HZA.out _ hb) HL.out.2.2.2 HMA.out HRN.out).mono ?_; rintro e w11 ⟨rfl, hb11⟩; replace hb := hb.trans (hb11.mono hb.size); clear hb11))
    | (go_at_call 15; go_loud (refine (pPower x n cap zs _ (HZ.out _ hb) HL.out.2.2.2 HCAP.out.1).mono ?_; rw [HPW.out]; rintro e w14 ⟨rfl, hb14⟩; replace hb := hb.trans (hb14.mono hb.size); clear hb14))
    | (go_at_call 20; go_loud (refine (rPower_any x n cap zs _ (HZ.out _ hb) HL.out.2.2.2).mono ?_; rw [HPW.out]; rintro e w15 ⟨rfl, hw15⟩; rw [← hw15] at hb; clear hw15)))
  all_goals first
    | (exfalso; have h2 := HSN.out; have h3 := HRN.out; omega)
    | (go_ret; exact ⟨rfl, hb⟩)

set_option maxRecDepth 100000 in
set_option maxHeartbeats 3200000 in
theorem levinSays.nyy (x r a : Option Addr) (n cap p cr q ca : Nat) (zs rs fs : List Int) (o : Int) (w : World) (hzx : Zs w x n zs) (hzr : Zs w r p rs) (hza : Zs w a q fs) (hcap : n ≤ cap ∧ q ≤ ca) (hn : n ≤ 1000) (hp : p ≤ 40) (hq : q ≤ 40) (HAN : Hid (¬ (n ≤ 960 ∧ 1 ≤ o ∧ o ≤ 32))) (S : Nat) (HSY : Hid (p = S + 1 ∧ 1 ≤ S ∧ S ≤ 32)) (HRY : Hid (n ≤ 960 ∧ q ≤ 32)) :
    Calls Try.prog 4 #[.slice x n cap, .int .i64 o, .slice r p cr, .slice a q ca] w fun e w' => e = .returned (.bool true) ∧ Below w.heap.size w w' := by
  have HZ : Hid (∀ W, Below w.heap.size w W → Zs W x n zs) := fun W hW => hzx.keep hW
  have HZR : Hid (∀ W, Below w.heap.size w W → Zs W r p rs) := fun W hW => hzr.keep hW
  have HZA : Hid (∀ W, Below w.heap.size w W → Zs W a q fs) := fun W hW => hza.keep hW
  have HL : Hid (zs.length = n ∧ rs.length = p ∧ fs.length = q ∧ n ≤ maxLen) := ⟨hzx.len, hzr.len, hza.len, by unfold maxLen; omega⟩
  have HCAP : Hid (n ≤ cap ∧ q ≤ ca) := hcap
  have HMR : Hid (p ≤ maxLen) := by show _ ≤ _; unfold maxLen; omega
  have HMA : Hid (q ≤ maxLen) := by show _ ≤ _; unfold maxLen; omega
  have HN : Hid (n ≤ 1000 ∧ p ≤ 40 ∧ q ≤ 40 ∧ n * 8 ≤ 140737488355328 ∧ p * 8 ≤ 140737488355328) := ⟨hn, hp, hq, by omega, by omega⟩
  have HCX : Hid (∀ W, Below w.heap.size w W → 0 < n → ∃ y, x = some y ∧ ∀ i, i < n → W.cell? (y.add i) = some (.int .i64 (zs[i]?.getD 0))) := fun W hW h0 => zs_adds (HZ.out W hW) h0
  have HCR : Hid (∀ W, Below w.heap.size w W → 0 < p → ∃ y, r = some y ∧ ∀ i, i < p → W.cell? (y.add i) = some (.int .i64 (rs[i]?.getD 0))) := fun W hW h0 => zs_adds (HZR.out W hW) h0
  obtain ⟨pw, hpw⟩ : ∃ v, powI zs = v := ⟨_, rfl⟩
  have HPW : Hid (powI zs = pw) := hpw
  have HSL : Hid ((solveZ rs).length = S ∧ stableZ (solveZ rs) = true) := by
    have h1 := HL.out.2.1
    have h2 := HSY.out
    exact ⟨by rw [solveZ_len (by omega)]; omega, solveZ_stable (by omega)⟩
  have hb := Below.refl w.heap.size w
  have g1 : Hid True := trivial
  have y2 : Hid True := trivial
  have hp1 : 2 ≤ p := by have := HSY.out; omega
  have hp2 : p ≤ 33 := by have := HSY.out; omega
  have hn9 : n ≤ 960 := HRY.out.1
  have hq1 : q ≤ 32 := HRY.out.2
  clear hzx hzr hza hpw hcap
  go_enter Try.func4, Try.ntmps4
  go_wp2_with (first
    | (go_at_call 9; go_loud (refine (awake_any w).mono ?_; rintro e w1 ⟨rfl, hb1⟩; replace hb := hb.trans (hb1.mono hb.size); clear hb1))
    | (at_builtin; clear g1; go_loud (refine wpList_append_copy 23 2 Try.underlying23 info_int64 x n cap zs HL.out.1 HN.out.2.2.2.1 (HCX.out _ hb) rfl _ _ rfl rfl rfl ?_; intro r1 c1 w2 hr1 hb2; have hz1 := Zs.of_new hr1 HL.out.1; replace hb := hb.trans (hb2.mono hb.size); clear hb2))
    | (go_at_call 10; go_loud (refine (pAuto_no r1 n c1 o zs _ hz1 HL.out.2.2.2 HAN.out).mono ?_; rintro e w3 ⟨rfl, hb3⟩; replace hb := hb.trans (hb3.mono hb.size); clear hb3))
    | (at_builtin; go_loud (refine wpList_append_copy 23 2 Try.underlying23 info_int64 r p cr rs HL.out.2.1 HN.out.2.2.2.2 (HCR.out _ hb) rfl _ _ rfl rfl rfl ?_; intro r6 c6 w6 hr6 hb6; have hz6 := Zs.of_new hr6 HL.out.2.1; replace hb := hb.trans (hb6.mono hb.size); clear hb6))
    | (go_at_call 11; go_loud (refine (pSolve_yes r6 p c6 S rs _ hz6 HSY.out.1 HSY.out.2.1 HSY.out.2.2).mono ?_; rintro e w7 ⟨a7, c7, rfl, hr7, hb7⟩; replace hb := hb.trans (hb7.mono hb.size); clear hb7))
    | (go_at_call 17; go_loud (refine (rSolve_any r p cr S rs _ (HZR.out _ hb) HSY.out.1 HSY.out.2.1 HSY.out.2.2).mono ?_; rintro e w8 ⟨a8, c8, rfl, hr8, hb8⟩; replace hr7 := hr7.keep hb8; replace hb := hb.trans (hb8.mono hb.size); clear hb8))
    | (go_at_call 14; clear y2; go_loud (refine (zsame_any a7 a8 S c7 c8 (solveZ rs) _ (Zs.of_new hr7 HSL.out.1) (Zs.of_new hr8 HSL.out.1) (by have := HSY.out; omega)).mono ?_; rintro e w9 ⟨rfl, k9, hw9⟩; replace hr7 := hr7.drewN k9; replace hb := below_drewN hb k9; rw [← hw9] at hb hr7; clear hw9))
    | (go_at_call 18; go_loud (refine (cstable_any a7 S c7 (solveZ rs) _ (Zs.of_new hr7 HSL.out.1) (by have := HSY.out; omega)).mono ?_; rw [HSL.out.2]; rintro e w10 ⟨rfl, hb10⟩; replace hb := hb.trans (hb10.mono hb.size); clear hb10))
    | (go_at_call 12; go_loud (refine (pRest_yes x a n cap q ca zs fs _ (HZ.out _ hb) (HZA.out _ hb) HRY.out.1 HRY.out.2 HCAP.out.2).mono ?_; rintro e w11 ⟨a11, c11, rfl, hr11, hb11⟩; replace hb := hb.trans (hb11.mono hb.size); clear hb11))
    | (go_at_call 19; go_loud (refine (rRest_any x a n cap q ca zs fs _ (HZ.out _ hb) (HZA.out _ hb) HRY.out.1 (by have := HRY.out; omega)).mono ?_; rintro e w12 ⟨a12, c12, rfl, hr12, hb12⟩; replace hr11 := hr11.keep hb12; replace hb := hb.trans (hb12.mono hb.size); clear hb12))
    | (go_at_call 14; go_loud (refine (zsame_any a11 a12 n c11 c12 (restL zs fs) _ (Zs.of_new hr11 (by rw [restL_len]; exact HL.out.1)) (Zs.of_new hr12 (by rw [restL_len]; exact HL.out.1)) (by have := HRY.out; omega)).mono ?_; rintro e w13 ⟨rfl, k13, hw13⟩; replace hb := below_drewN hb k13; rw [← hw13] at hb; clear hw13))
    | (go_at_call 15; go_loud (refine (pPower x n cap zs _ (HZ.out _ hb) HL.out.2.2.2 HCAP.out.1).mono ?_; rw [HPW.out]; rintro e w14 ⟨rfl, hb14⟩; replace hb := hb.trans (hb14.mono hb.size); clear hb14))
    | (go_at_call 20; go_loud (refine (rPower_any x n cap zs _ (HZ.out _ hb) HL.out.2.2.2).mono ?_; rw [HPW.out]; rintro e w15 ⟨rfl, hw15⟩; rw [← hw15] at hb; clear hw15)))
  all_goals first
    | (exfalso; have h1 := HAN.out; omega)
    | (go_ret; exact ⟨rfl, hb⟩)

set_option maxRecDepth 100000 in
set_option maxHeartbeats 3200000 in
theorem levinSays.nyn (x r a : Option Addr) (n cap p cr q ca : Nat) (zs rs fs : List Int) (o : Int) (w : World) (hzx : Zs w x n zs) (hzr : Zs w r p rs) (hza : Zs w a q fs) (hcap : n ≤ cap ∧ q ≤ ca) (hn : n ≤ 1000) (hp : p ≤ 40) (hq : q ≤ 40) (HAN : Hid (¬ (n ≤ 960 ∧ 1 ≤ o ∧ o ≤ 32))) (S : Nat) (HSY : Hid (p = S + 1 ∧ 1 ≤ S ∧ S ≤ 32)) (HRN : Hid (¬ (n ≤ 960 ∧ q ≤ 32))) :
    Calls Try.prog 4 #[.slice x n cap, .int .i64 o, .slice r p cr, .slice a q ca] w fun e w' => e = .returned (.bool true) ∧ Below w.heap.size w w' := by
  have HZ : Hid (∀ W, Below w.heap.size w W → Zs W x n zs) := fun W hW => hzx.keep hW
  have HZR : Hid (∀ W, Below w.heap.size w W → Zs W r p rs) := fun W hW => hzr.keep hW
  have HZA : Hid (∀ W, Below w.heap.size w W → Zs W a q fs) := fun W hW => hza.keep hW
  have HL : Hid (zs.length = n ∧ rs.length = p ∧ fs.length = q ∧ n ≤ maxLen) := ⟨hzx.len, hzr.len, hza.len, by unfold maxLen; omega⟩
  have HCAP : Hid (n ≤ cap ∧ q ≤ ca) := hcap
  have HMR : Hid (p ≤ maxLen) := by show _ ≤ _; unfold maxLen; omega
  have HMA : Hid (q ≤ maxLen) := by show _ ≤ _; unfold maxLen; omega
  have HN : Hid (n ≤ 1000 ∧ p ≤ 40 ∧ q ≤ 40 ∧ n * 8 ≤ 140737488355328 ∧ p * 8 ≤ 140737488355328) := ⟨hn, hp, hq, by omega, by omega⟩
  have HCX : Hid (∀ W, Below w.heap.size w W → 0 < n → ∃ y, x = some y ∧ ∀ i, i < n → W.cell? (y.add i) = some (.int .i64 (zs[i]?.getD 0))) := fun W hW h0 => zs_adds (HZ.out W hW) h0
  have HCR : Hid (∀ W, Below w.heap.size w W → 0 < p → ∃ y, r = some y ∧ ∀ i, i < p → W.cell? (y.add i) = some (.int .i64 (rs[i]?.getD 0))) := fun W hW h0 => zs_adds (HZR.out W hW) h0
  obtain ⟨pw, hpw⟩ : ∃ v, powI zs = v := ⟨_, rfl⟩
  have HPW : Hid (powI zs = pw) := hpw
  have HSL : Hid ((solveZ rs).length = S ∧ stableZ (solveZ rs) = true) := by
    have h1 := HL.out.2.1
    have h2 := HSY.out
    exact ⟨by rw [solveZ_len (by omega)]; omega, solveZ_stable (by omega)⟩
  have hb := Below.refl w.heap.size w
  have g1 : Hid True := trivial
  have y2 : Hid True := trivial
  have hp1 : 2 ≤ p := by have := HSY.out; omega
  have hp2 : p ≤ 33 := by have := HSY.out; omega
  clear hzx hzr hza hpw hcap
  go_enter Try.func4, Try.ntmps4
  go_wp2_with (first
    | (go_at_call 9; go_loud (refine (awake_any w).mono ?_; rintro e w1 ⟨rfl, hb1⟩; replace hb := hb.trans (hb1.mono hb.size); clear hb1))
    | (at_builtin; clear g1; go_loud (refine wpList_append_copy 23 2 Try.underlying23 info_int64 x n cap zs HL.out.1 HN.out.2.2.2.1 (HCX.out _ hb) rfl _ _ rfl rfl rfl ?_; intro r1 c1 w2 hr1 hb2; have hz1 := Zs.of_new hr1 HL.out.1; replace hb := hb.trans (hb2.mono hb.size); clear hb2))
    | (go_at_call 10; go_loud (refine (pAuto_no r1 n c1 o zs _ hz1 HL.out.2.2.2 HAN.out).mono ?_; rintro e w3 ⟨rfl, hb3⟩; replace hb := hb.trans (hb3.mono hb.size); clear hb3))
    | (at_builtin; go_loud (refine wpList_append_copy 23 2 Try.underlying23 info_int64 r p cr rs HL.out.2.1 HN.out.2.2.2.2 (HCR.out _ hb) rfl _ _ rfl rfl rfl ?_; intro r6 c6 w6 hr6 hb6; have hz6 := Zs.of_new hr6 HL.out.2.1; replace hb := hb.trans (hb6.mono hb.size); clear hb6))
    | (go_at_call 11; go_loud (refine (pSolve_yes r6 p c6 S rs _ hz6 HSY.out.1 HSY.out.2.1 HSY.out.2.2).mono ?_; rintro e w7 ⟨a7, c7, rfl, hr7, hb7⟩; replace hb := hb.trans (hb7.mono hb.size); clear hb7))
    | (go_at_call 17; go_loud (refine (rSolve_any r p cr S rs _ (HZR.out _ hb) HSY.out.1 HSY.out.2.1 HSY.out.2.2).mono ?_; rintro e w8 ⟨a8, c8, rfl, hr8, hb8⟩; replace hr7 := hr7.keep hb8; replace hb := hb.trans (hb8.mono hb.size); clear hb8))
    | (go_at_call 14; clear y2; go_loud (refine (zsame_any a7 a8 S c7 c8 (solveZ rs) _ (Zs.of_new hr7 HSL.out.1) (Zs.of_new hr8 HSL.out.1) (by have := HSY.out; omega)).mono ?_; rintro e w9 ⟨rfl, k9, hw9⟩; replace hr7 := hr7.drewN k9; replace hb := below_drewN hb k9; rw [← hw9] at hb hr7; clear hw9))
    | (go_at_call 18; go_loud (refine (cstable_any a7 S c7 (solveZ rs) _ (Zs.of_new hr7 HSL.out.1) (by have := HSY.out; omega)).mono ?_; rw [HSL.out.2]; rintro e w10 ⟨rfl, hb10⟩; replace hb := hb.trans (hb10.mono hb.size); clear hb10))
    | (go_at_call 12; go_loud (refine (pRest_no x a n cap q ca zs fs _ (HZ.out _ hb) (HZA.out _ hb) HL.out.2.2.2 HMA.out HRN.out).mono ?_; rintro e w11 ⟨rfl, hb11⟩; replace hb := hb.trans (hb11.mono hb.size); clear hb11))
    | (go_at_call 15; go_loud (refine (pPower x n cap zs _ (HZ.out _ hb) HL.out.2.2.2 HCAP.out.1).mono ?_; rw [HPW.out]; rintro e w14 ⟨rfl, hb14⟩; replace hb := hb.trans (hb14.mono hb.size); clear hb14))
    | (go_at_call 20; go_loud (refine (rPower_any x n cap zs _ (HZ.out _ hb) HL.out.2.2.2).mono ?_; rw [HPW.out]; rintro e w15 ⟨rfl, hw15⟩; rw [← hw15] at hb; clear hw15)))
  all_goals first
    | (exfalso; have h1 := HAN.out; have h3 := HRN.out; omega)
    | (go_ret; exact ⟨rfl, hb⟩)

set_option maxRecDepth 100000 in
set_option maxHeartbeats 3200000 in
theorem levinSays.nny (x r a : Option Addr) (n cap p cr q ca : Nat) (zs rs fs : List Int) (o : Int) (w : World) (hzx : Zs w x n zs) (hzr : Zs w r p rs) (hza : Zs w a q fs) (hcap : n ≤ cap ∧ q ≤ ca) (hn : n ≤ 1000) (hp : p ≤ 40) (hq : q ≤ 40) (HAN : Hid (¬ (n ≤ 960 ∧ 1 ≤ o ∧ o ≤ 32))) (HSN : Hid (¬ (2 ≤ p ∧ p ≤ 33))) (HRY : Hid (n ≤ 960 ∧ q ≤ 32)) :
    Calls Try.prog 4 #[.slice x n cap, .int .i64 o, .slice r p cr, .slice a q ca] w fun e w' => e = .returned (.bool true) ∧ Below w.heap.size w w' := by
  have HZ : Hid (∀ W, Below w.heap.size w W → Zs W x n zs) := fun W hW => hzx.keep hW
  have HZR : Hid (∀ W, Below w.heap.size w W → Zs W r p rs) := fun W hW => hzr.keep hW
  have HZA : Hid (∀ W, Below w.heap.size w W → Zs W a q fs) := fun W hW => hza.keep hW
  have HL : Hid (zs.length = n ∧ rs.length = p ∧ fs.length = q ∧ n ≤ maxLen) := ⟨hzx.len, hzr.len, hza.len, by unfold maxLen; omega⟩
  have HCAP : Hid (n ≤ cap ∧ q ≤ ca) := hcap
  have HMR : Hid (p ≤ maxLen) := by show _ ≤ _; unfold maxLen; omega
  have HMA : Hid (q ≤ maxLen) := by show _ ≤ _; unfold maxLen; omega
  have HN : Hid (n ≤ 1000 ∧ p ≤ 40 ∧ q ≤ 40 ∧ n * 8 ≤ 140737488355328 ∧ p * 8 ≤ 140737488355328) := ⟨hn, hp, hq, by omega, by omega⟩
  have HCX : Hid (∀ W, Below w.heap.size w W → 0 < n → ∃ y, x = some y ∧ ∀ i, i < n → W.cell? (y.add i) = some (.int .i64 (zs[i]?.getD 0))) := fun W hW h0 => zs_adds (HZ.out W hW) h0
  have HCR : Hid (∀ W, Below w.heap.size w W → 0 < p → ∃ y, r = some y ∧ ∀ i, i < p → W.cell? (y.add i) = some (.int .i64 (rs[i]?.getD 0))) := fun W hW h0 => zs_adds (HZR.out W hW) h0
  obtain ⟨pw, hpw⟩ : ∃ v, powI zs = v := ⟨_, rfl⟩
  have HPW : Hid (powI zs = pw) := hpw
  have hb := Below.refl w.heap.size w
  have g1 : Hid True := trivial
  have hn9 : n ≤ 960 := HRY.out.1
  have hq1 : q ≤ 32 := HRY.out.2
  clear hzx hzr hza hpw hcap
  go_enter Try.func4, Try.ntmps4
  go_wp2_with (first
    | (go_at_call 9; go_loud (refine (awake_any w).mono ?_; rintro e w1 ⟨rfl, hb1⟩; replace hb := hb.trans (hb1.mono hb.size); clear hb1))
    | (at_builtin; clear g1; go_loud (refine wpList_append_copy 23 2 Try.underlying23 info_int64 x n cap zs HL.out.1 HN.out.2.2.2.1 (HCX.out _ hb) rfl _ _ rfl rfl rfl ?_; intro r1 c1 w2 hr1 hb2; have hz1 := Zs.of_new hr1 HL.out.1; replace hb := hb.trans (hb2.mono hb.size); clear hb2))
    | (go_at_call 10; go_loud (refine (pAuto_no r1 n c1 o zs _ hz1 HL.out.2.2.2 HAN.out).mono ?_; rintro e w3 ⟨rfl, hb3⟩; replace hb := hb.trans (hb3.mono hb.size); clear hb3))
    | (at_builtin; go_loud (refine wpList_append_copy 23 2 Try.underlying23 info_int64 r p cr rs HL.out.2.1 HN.out.2.2.2.2 (HCR.out _ hb) rfl _ _ rfl rfl rfl ?_; intro r6 c6 w6 hr6 hb6; have hz6 := Zs.of_new hr6 HL.out.2.1; replace hb := hb.trans (hb6.mono hb.size); clear hb6))
    | (go_at_call 11; go_loud (refine (pSolve_no r6 p c6 rs _ hz6 HMR.out HSN.out).mono ?_; rintro e w7 ⟨rfl, hb7⟩; replace hb := hb.trans (hb7.mono hb.size); clear hb7))
    | (go_at_call 12; go_loud (refine (pRest_yes x a n cap q ca zs fs _ (HZ.out _ hb) (HZA.out _ hb) HRY.out.1 HRY.out.2 HCAP.out.2).mono ?_; rintro e w11 ⟨a11, c11, rfl, hr11, hb11⟩; replace hb := hb.trans (hb11.mono hb.size); clear hb11))
    | (go_at_call 19; go_loud (refine (rRest_any x a n cap q ca zs fs _ (HZ.out _ hb) (HZA.out _ hb) HRY.out.1 (by have := HRY.out; omega)).mono ?_; rintro e w12 ⟨a12, c12, rfl, hr12, hb12⟩; replace hr11 := hr11.keep hb12; replace hb := hb.trans (hb12.mono hb.size); clear hb12))
    | (go_at_call 14; go_loud (refine (zsame_any a11 a12 n c11 c12 (restL zs fs) _ (Zs.of_new hr11 (by rw [restL_len]; exact HL.out.1)) (Zs.of_new hr12 (by rw [restL_len]; exact HL.out.1)) (by have := HRY.out; omega)).mono ?_; rintro e w13 ⟨rfl, k13, hw13⟩; replace hb := below_drewN hb k13; rw [← hw13] at hb; clear hw13))
    | (go_at_call 15; go_loud (refine (pPower x n cap zs _ (HZ.out _ hb) HL.out.2.2.2 HCAP.out.1).mono ?_; rw [HPW.out]; rintro e w14 ⟨rfl, hb14⟩; replace hb := hb.trans (hb14.mono hb.size); clear hb14))
    | (go_at_call 20; go_loud (refine (rPower_any x n cap zs _ (HZ.out _ hb) HL.out.2.2.2).mono ?_; rw [HPW.out]; rintro e w15 ⟨rfl, hw15⟩; rw [← hw15] at hb; clear hw15)))
  all_goals first
    | (exfalso; have h1 := HAN.out; have h2 := HSN.out; omega)
    | (go_ret; exact ⟨rfl, hb⟩)

set_option maxRecDepth 100000 in
set_option maxHeartbeats 3200000 in
theorem levinSays.nnn (x r a : Option Addr) (n cap p cr q ca : Nat) (zs rs fs : List Int) (o : Int) (w : World) (hzx : Zs w x n zs) (hzr : Zs w r p rs) (hza : Zs w a q fs) (hcap : n ≤ cap ∧ q ≤ ca) (hn : n ≤ 1000) (hp : p ≤ 40) (hq : q ≤ 40) (HAN : Hid (¬ (n ≤ 960 ∧ 1 ≤ o ∧ o ≤ 32))) (HSN : Hid (¬ (2 ≤ p ∧ p ≤ 33))) (HRN : Hid (¬ (n ≤ 960 ∧ q ≤ 32))) :
    Calls Try.prog 4 #[.slice x n cap, .int .i64 o, .slice r p cr, .slice a q ca] w fun e w' => e = .returned (.bool true) ∧ Below w.heap.size w w' := by
  have HZ : Hid (∀ W, Below w.heap.size w W → Zs W x n zs) := fun W hW => hzx.keep hW
  have HZR : Hid (∀ W, Below w.heap.size w W → Zs W r p rs) := fun W hW => hzr.keep hW
  have HZA : Hid (∀ W, Below w.heap.size w W → Zs W a q fs) := fun W hW => hza.keep hW
  have HL : Hid (zs.length = n ∧ rs.length = p ∧ fs.length = q ∧ n ≤ maxLen) := ⟨hzx.len, hzr.len, hza.len, by unfold maxLen; omega⟩
  have HCAP : Hid (n ≤ cap ∧ q ≤ ca) := hcap
  have HMR : Hid (p ≤ maxLen) := by show _ ≤ _; unfold maxLen; omega
  have HMA : Hid (q ≤ maxLen) := by show _ ≤ _; unfold maxLen; omega
  have HN : Hid (n ≤ 1000 ∧ p ≤ 40 ∧ q ≤ 40 ∧ n * 8 ≤ 140737488355328 ∧ p * 8 ≤ 140737488355328) := ⟨hn, hp, hq, by omega, by omega⟩
  have HCX : Hid (∀ W, Below w.heap.size w W → 0 < n → ∃ y, x = some y ∧ ∀ i, i < n → W.cell? (y.add i) = some (.int .i64 (zs[i]?.getD 0))) := fun W hW h0 => zs_adds (HZ.out W hW) h0
  have HCR : Hid (∀ W, Below w.heap.size w W → 0 < p → ∃ y, r = some y ∧ ∀ i, i < p → W.cell? (y.add i) = some (.int .i64 (rs[i]?.getD 0))) := fun W hW h0 => zs_adds (HZR.out W hW) h0
  obtain ⟨pw, hpw⟩ : ∃ v, powI zs = v := ⟨_, rfl⟩
  have HPW : Hid (powI zs = pw) := hpw
  have hb := Below.refl w.heap.size w
  have g1 : Hid True := trivial
  clear hzx hzr hza hpw hcap
  go_enter Try.func4, Try.ntmps4
  go_wp2_with (first
    | (go_at_call 9; go_loud (refine (awake_any w).mono ?_; rintro e w1 ⟨rfl, hb1⟩; replace hb := hb.trans (hb1.mono hb.size); clear hb1))
    | (at_builtin; clear g1; go_loud (refine wpList_append_copy 23 2 Try.underlying23 info_int64 x n cap zs HL.out.1 HN.out.2.2.2.1 (HCX.out _ hb) rfl _ _ rfl rfl rfl ?_; intro r1 c1 w2 hr1 hb2; have hz1 := Zs.of_new hr1 HL.out.1; replace hb := hb.trans (hb2.mono hb.size); clear hb2))
    | (go_at_call 10; go_loud (refine (pAuto_no r1 n c1 o zs _ hz1 HL.out.2.2.2 HAN.out).mono ?_; rintro e w3 ⟨rfl, hb3⟩; replace hb := hb.trans (hb3.mono hb.size); clear hb3))
    | (at_builtin; go_loud (refine wpList_append_copy 23 2 Try.underlying23 info_int64 r p cr rs HL.out.2.1 HN.out.2.2.2.2 (HCR.out _ hb) rfl _ _ rfl rfl rfl ?_; intro r6 c6 w6 hr6 hb6; have hz6 := Zs.of_new hr6 HL.out.2.1; replace hb := hb.trans (hb6.mono hb.size); clear hb6))
    | (go_at_call 11; go_loud (refine (pSolve_no r6 p c6 rs _ hz6 HMR.out HSN.out).mono ?_; rintro e w7 ⟨rfl, hb7⟩; replace hb := hb.trans (hb7.mono hb.size); clear hb7))
    | (go_at_call 12; go_loud (refine (pRest_no x a n cap q ca zs fs _ (HZ.out _ hb) (HZA.out _ hb) HL.out.2.2.2 HMA.out HRN.out).mono ?_; rintro e w11 ⟨rfl, hb11⟩; replace hb := hb.trans (hb11.mono hb.size); clear hb11))
    | (go_at_call 15; go_loud (refine (pPower x n cap zs _ (HZ.out _ hb) HL.out.2.2.2 HCAP.out.1).mono ?_; rw [HPW.out]; rintro e w14 ⟨rfl, hb14⟩; replace hb := hb.trans (hb14.mono hb.size); clear hb14))
    | (go_at_call 20; go_loud (refine (rPower_any x n cap zs _ (HZ.out _ hb) HL.out.2.2.2).mono ?_; rw [HPW.out]; rintro e w15 ⟨rfl, hw15⟩; rw [← hw15] at hb; clear hw15)))
  all_goals first
    | (exfalso; have h1 := HAN.out; have h2 := HSN.out; have h3 := HRN.out; omega)
    | (go_ret; exact ⟨rfl, hb⟩)

set_option maxRecDepth 100000 in
set_option maxHeartbeats 1600000 in
theorem levinSays.walk (x : Option Addr) (n cap : Nat) (zq : List Int) (o : Int) (r : Option Addr) (p cr : Nat) (rq : List Int) (a : Option Addr) (q ca : Nat) (aq : List Int) (w : World) (hqx : IsRow .i64 w x n cap zq) (_ : (Lit.int .i64 o).wf = true) (hqr : IsRow .i64 w r p cr rq) (hqa : IsRow .i64 w a q ca aq) :
    Calls Try.prog 4 #[.slice x n cap, .int .i64 o, .slice r p cr, .slice a q ca] w fun e w' => e = .returned (.bool true) ∧ Below w.heap.size w w' := by
  obtain ⟨hzx, hmx, _⟩ := Zs.of_isRow hqx
  obtain ⟨hzr, hmr, _⟩ := Zs.of_isRow hqr
  obtain ⟨hza, hma, _⟩ := Zs.of_isRow hqa
  have hcap : n ≤ cap ∧ q ≤ ca := ⟨cap_of_isRow hqx, cap_of_isRow hqa⟩
  clear hqx hqr hqa
  by_cases hsm : n ≤ 1000 ∧ p ≤ 40 ∧ q ≤ 40
  · obtain ⟨hn, hp, hq⟩ := hsm
    by_cases hA : n ≤ 960 ∧ 1 ≤ o ∧ o ≤ 32
    · have HAY : Hid (o = ((o.toNat : Nat) : Int) ∧ n ≤ 960 ∧ 1 ≤ o.toNat ∧ o.toNat ≤ 32) := ⟨by omega, hA.1, by omega, by omega⟩
      by_cases hS : 2 ≤ p ∧ p ≤ 33
      · have HSY : Hid (p = p - 1 + 1 ∧ 1 ≤ p - 1 ∧ p - 1 ≤ 32) := ⟨by omega, by omega, by omega⟩
        by_cases hR : n ≤ 960 ∧ q ≤ 32
        · exact levinSays.yyy x r a n cap p cr q ca _ _ _ o w hzx hzr hza hcap hn hp hq o.toNat HAY (p - 1) HSY hR
        · exact levinSays.yyn x r a n cap p cr q ca _ _ _ o w hzx hzr hza hcap hn hp hq o.toNat HAY (p - 1) HSY hR
      · by_cases hR : n ≤ 960 ∧ q ≤ 32
        · exact levinSays.yny x r a n cap p cr q ca _ _ _ o w hzx hzr hza hcap hn hp hq o.toNat HAY hS hR
        · exact levinSays.ynn x r a n cap p cr q ca _ _ _ o w hzx hzr hza hcap hn hp hq o.toNat HAY hS hR
    · by_cases hS : 2 ≤ p ∧ p ≤ 33
      · have HSY : Hid (p = p - 1 + 1 ∧ 1 ≤ p - 1 ∧ p - 1 ≤ 32) := ⟨by omega, by omega, by omega⟩
        by_cases hR : n ≤ 960 ∧ q ≤ 32
        · exact levinSays.nyy x r a n cap p cr q ca _ _ _ o w hzx hzr hza hcap hn hp hq hA (p - 1) HSY hR
        · exact levinSays.nyn x r a n cap p cr q ca _ _ _ o w hzx hzr hza hcap hn hp hq hA (p - 1) HSY hR
      · by_cases hR : n ≤ 960 ∧ q ≤ 32
        · exact levinSays.nny x r a n cap p cr q ca _ _ _ o w hzx hzr hza hcap hn hp hq hA hS hR
        · exact levinSays.nnn x r a n cap p cr q ca _ _ _ o w hzx hzr hza hcap hn hp hq hA hS hR
  · have HS : Hid (¬ (n ≤ 1000 ∧ p ≤ 40 ∧ q ≤ 40)) := hsm
    have hb := Below.refl w.heap.size w
    have hm1 : (n : Int) ≤ 9223372036854775807 := by simp only [maxLen] at hmx; omega
    have hm2 : (p : Int) ≤ 9223372036854775807 := by simp only [maxLen] at hmr; omega
    have hm3 : (q : Int) ≤ 9223372036854775807 := by simp only [maxLen] at hma; omega
    clear hsm hzx hzr hza hmx hmr hma hcap
    go_enter Try.func4, Try.ntmps4
    go_wp2_with (go_at_call 9; go_loud (refine (awake_any w).mono ?_; rintro e w1 ⟨rfl, hb1⟩; replace hb := hb.trans (hb1.mono hb.size); clear hb1))
    all_goals first
      | (exfalso; have := HS.out; omega)
      | (go_ret; exact ⟨rfl, hb⟩)

end Go.Proofs.Ytjaccokmficfdaa
