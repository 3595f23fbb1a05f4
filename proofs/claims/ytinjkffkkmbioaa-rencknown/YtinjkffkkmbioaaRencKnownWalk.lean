/- The law of chapter 4's examples answers true. -/
import Derived.Test.YtinjkffkkmbioaaRwJ
namespace Go.Proofs.Ytinjkffkkmbioaa
open Go.RowKit

theorem tell_init : tellS initE = 1 := by decide +kernel
def knC : Es := bitsE 1 1 initE
theorem knC_inv : InvE knC := bitsE_inv initE_inv (by decide) (by decide)
theorem knC_cnt : knC.cnt ≤ 1000 := by decide +kernel
theorem tell_knC : tellS knC = 2 := by decide +kernel

set_option maxRecDepth 100000 in
set_option maxHeartbeats 1600000 in
theorem rencKnown.walk (w : World) :
    Calls Try.prog 3 #[] w fun e w' => e = .returned (.bool true) ∧ Below w.heap.size w w' := by
  have hb := Below.refl w.heap.size w
  have CN : Hid (initE.cnt ≤ 1000) := by show _ ≤ _; decide
  have T0 : Hid (¬ symOk (icdfL 0) 3) := fun h => absurd h.2.2 (by decide)
  have T1 : Hid (¬ symOk [] 0) := fun h => absurd h.2.2 (by decide)
  have CK : Hid (knC.cnt ≤ 1000) := knC_cnt
  have t3b : Hid True := trivial
  have t1 : Hid True := trivial
  have t2 : Hid True := trivial
  have t3 : Hid True := trivial
  have d1 : Hid True := trivial
  have d2 : Hid True := trivial
  have s1 : Hid True := trivial
  have s2 : Hid True := trivial
  have b1 : Hid True := trivial
  have b2 : Hid True := trivial
  have b3 : Hid True := trivial
  go_enter Try.func3, Try.ntmps3
  go_wp2_with (first
    | (go_at_call 9; refine (awake_any _).mono ?_; rintro e w1 ⟨rfl, hb1⟩; replace hb := hb.trans (hb1.mono hb.size); clear hb1)
    | (go_at_call 10; go_loud (refine (newE_any _).mono ?_; rintro e w1 ⟨p, S, rfl, he, hS, hb1⟩; replace hS := fun k hk => Nat.le_trans hb.size (hS k hk); replace hb := hb.trans (hb1.mono hb.size); clear hb1))
    | (go_at_call 11; clear t1; go_loud (refine (tellE_any S p initE _ he initE_inv.wide initE_inv.pre.rhigh (by have := CN.out; omega)).mono ?_; rw [tell_init]; rintro e w2 ⟨rfl, k, rfl⟩; replace he := he.drewN k; replace hb := Below.drewN hb k))
    | (go_at_call 12; go_loud (refine (lapWE_bad S p initE 3 255 0 _ he (by decide)).mono ?_; rintro e w1 ⟨rfl, S2, he2, hw2⟩; have hS2 := hw2.above hS hb.size; replace hb := hb.trans (hw2.below hS hb.size); clear hw2 he hS))
    | (go_at_call 13; clear d1; go_loud (refine (doneE_arg S2 p initE (-1) _ he2 (by decide)).mono ?_; rintro e w1 ⟨rfl, rfl⟩))
    | (go_at_call 13; clear d2; go_loud (refine (doneE_arg S2 p initE 1276 _ he2 (by decide)).mono ?_; rintro e w1 ⟨rfl, rfl⟩))
    | (go_at_call 13; go_loud (refine (doneE_few_int S2 p initE 0 0 rfl _ he2 initE_inv (by decide) (by rw [tell_init]; decide) (by have := CN.out; omega)).mono ?_; rintro e w1 ⟨rfl, kd, rfl⟩; replace he2 := he2.drewN kd; replace hb := Below.drewN hb kd))
    | (go_at_call 14; go_loud (refine (copyE_any S2 p initE _ he2 (by decide)).mono ?_; rintro e w1 ⟨q, U, rfl, hc, hU, hb1⟩; have hdis : ∀ k, U k → ¬ S2 k := (fun k hk h2 => (by have := hU k hk; have := he2.lt k h2; omega)); replace hU := fun k hk => Nat.le_trans hb.size (hU k hk); replace he2 := he2.keep hb1; replace hb := hb.trans (hb1.mono hb.size); clear hb1))
    | (go_at_call 15; clear b1; go_loud (refine (bitsE_int U q initE 1 1 _ hc initE_inv ⟨by decide, by decide, by decide, by decide⟩ (by have := CN.out; omega)).mono ?_; rintro e w1 ⟨rfl, U2, hc2, hw2⟩; replace hc2 : Wd U2 q knC w1 := hc2; have hU2 := hw2.above hU hb.size; have hx := hw2.apart (fun k hk hu => hdis k hu hk) he2.lt; replace he2 := he2.went hw2 (fun k hk hu => hdis k hu hk); replace hb := hb.trans (hw2.below hU hb.size); clear hw2 hc hU hdis; have hc := hc2; have hU := hU2; have hdis : ∀ k, U2 k → ¬ S2 k := (fun k hu hs => hx k hs hu); clear hc2 hU2 hx))
    | (go_at_call 17; go_loud (refine (ricdf_row 0 _).mono ?_; rintro e w1 ⟨a1, m1, cap1, rfl, ht1, _, hm1, hb1⟩; replace he2 := he2.keep hb1; replace hc := hc.keep hb1; replace hb := hb.trans (hb1.mono hb.size); clear hb1))
    | (go_at_call 16; clear s1; go_loud (refine (symE_bad S2 p initE 3 a1 m1 cap1 (icdfL 0) _ he2 ht1 (by omega) T0.out).mono ?_; rintro e w1 ⟨rfl, S3, he3, hwS3⟩; have hS3 := hwS3.above hS2 hb.size; have hx := hwS3.apart hdis hc.lt; replace hc := hc.went hwS3 hdis; replace hb := hb.trans (hwS3.below hS2 hb.size); clear hwS3 he2 hS2 hdis; have hdis := hx; clear hx))
    | (go_at_call 16; clear s2; go_loud (refine (symE_bad S3 p initE 0 none 0 0 [] _ he3 ⟨rfl, fun h => absurd h (by decide)⟩ (by decide) T1.out).mono ?_; rintro e w1 ⟨rfl, S4, he4, hwS4⟩; have hS4 := hwS4.above hS3 hb.size; have hx := hwS4.apart hdis hc.lt; replace hc := hc.went hwS4 hdis; replace hb := hb.trans (hwS4.below hS3 hb.size); clear hwS4 he3 hS3 hdis; have hdis := hx; clear hx))
    | (go_at_call 18; clear t3; go_loud (refine (flagE_bad S4 p initE true 16 _ he4 (by decide)).mono ?_; rintro e w1 ⟨rfl, S5, he5, hwS5⟩; have hS5 := hwS5.above hS4 hb.size; have hx := hwS5.apart hdis hc.lt; replace hc := hc.went hwS5 hdis; replace hb := hb.trans (hwS5.below hS4 hb.size); clear hwS5 he4 hS4 hdis; have hdis := hx; clear hx))
    | (go_at_call 15; clear b2; go_loud (refine (bitsE_bad S5 p initE 8 3 _ he5 (by decide)).mono ?_; rintro e w1 ⟨rfl, S6, he6, hwS6⟩; have hS6 := hwS6.above hS5 hb.size; have hx := hwS6.apart hdis hc.lt; replace hc := hc.went hwS6 hdis; replace hb := hb.trans (hwS6.below hS5 hb.size); clear hwS6 he5 hS5 hdis; have hdis := hx; clear hx))
    | (go_at_call 15; clear b3; go_loud (refine (bitsE_bad S6 p initE 0 25 _ he6 (by decide)).mono ?_; rintro e w1 ⟨rfl, S7, he7, hwS7⟩; have hS7 := hwS7.above hS6 hb.size; have hx := hwS7.apart hdis hc.lt; replace hc := hc.went hwS7 hdis; replace hb := hb.trans (hwS7.below hS6 hb.size); clear hwS7 he6 hS6 hdis; have hdis := hx; clear hx))
    | (go_at_call 19; clear t3b; go_loud (refine (uintE_bad S7 p initE 5 5 _ he7 (by decide)).mono ?_; rintro e w1 ⟨rfl, S8, he8, hwS8⟩; have hS8 := hwS8.above hS7 hb.size; have hx := hwS8.apart hdis hc.lt; replace hc := hc.went hwS8 hdis; replace hb := hb.trans (hwS8.below hS7 hb.size); clear hwS8 he7 hS7 hdis; have hdis := hx; clear hx))
    | (go_at_call 11; clear t2; go_loud (refine (tellE_any S8 p initE _ he8 initE_inv.wide initE_inv.pre.rhigh (by have := CN.out; omega)).mono ?_; rw [tell_init]; rintro e w2 ⟨rfl, k8, rfl⟩; replace hc := hc.drewN k8; replace hb := Below.drewN hb k8))
    | (go_at_call 11; go_loud (refine (tellE_any U2 q knC _ hc knC_inv.wide knC_inv.pre.rhigh (by have := CK.out; omega)).mono ?_; rw [tell_knC]; rintro e w2 ⟨rfl, k9, rfl⟩; replace hb := Below.drewN hb k9; rw [World.drewN_drewN] at hb)))
  go_ret
  exact ⟨rfl, hb⟩

end Go.Proofs.Ytinjkffkkmbioaa
