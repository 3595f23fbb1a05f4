/- The examples that each law of chapter 8 asks first. -/
import Derived.Test.YtnmfbjpbhghgaaaDoorGainI
namespace Go.Proofs.YtnmfbjpbhghgaaaDoor
open Go.RowKit

def gwA : Es := putsX (firstW 33) initE
def gwB : Es := putsX (nextW 16) gwA
def gwC : Es := putsX (ltpW 16 144 100 3) gwB
def gwL : List Nat := doneL gwC 20
def grA : St := initS gwL
def grB : St := afterL gwL firstX grA
def grC : St := afterL gwL nextX grB

theorem gwA_inv : InvE gwA := (putsX_inv _ _ (firstW_ok (by decide)) initE_inv).1
theorem gwB_inv : InvE gwB := (putsX_inv _ _ (nextW_ok (by decide)) gwA_inv).1
theorem gwC_inv : InvE gwC := (putsX_inv _ _ (ltpW_ok (by decide) (by decide) (by decide) (by decide) (by decide) (by decide)) gwB_inv).1
theorem gw_cnt : gwA.cnt ≤ 1000 ∧ gwB.cnt ≤ 1000 ∧ gwC.cnt ≤ 1000 := by decide +kernel
theorem gw_ends : Ends gwC 20 := ⟨gwC_inv, by decide, by decide +kernel⟩
theorem gw_tell : tellS gwC ≤ 8 * ((20 : Nat) : Int) := by decide +kernel
theorem gwL_bytes : Bytes gwL := doneL_bytes gw_ends
theorem gr_first : firstI gwL grA = 33 := by decide +kernel
theorem gr_next : (readW gwL (symX (icdfL 2) 0) grB).1 = 16 := by decide +kernel
theorem gr_lag : (readW gwL (uintX 129 0) grC).1 = 84 := by decide +kernel
theorem gr_taps : (readW gwL (symX (icdfL 6) 0) (readW gwL (uintX 129 0) grC).2).1 = 3 := by decide +kernel
theorem firstX_can : ∀ x ∈ firstX, readable x := fun x hx => by
  unfold firstX at hx
  rcases List.mem_cons.1 hx with rfl | hx
  · exact .inl rfl
  · obtain rfl : x = uintX 8 0 := by simpa using hx
    exact .inr rfl
theorem nextX_can : ∀ x ∈ nextX, readable x := fun x hx => by
  obtain rfl : x = symX (icdfL 2) 0 := by simpa [nextX] using hx
  exact .inl rfl
theorem grA_inv : Inv grA := initS_inv gwL_bytes
theorem grB_inv : Inv grB := (afterL_inv gwL_bytes _ _ firstX_can grA_inv).1
theorem grC_inv : Inv grC := (afterL_inv gwL_bytes _ _ nextX_can grB_inv).1
theorem gr_cnt : grA.cnt ≤ 1000 ∧ grB.cnt ≤ 1000 ∧ grC.cnt ≤ 1000 := by decide +kernel
theorem near_1 : nearestI 1 = 0 := by decide +kernel

set_option maxRecDepth 100000 in
set_option maxHeartbeats 3200000 in
theorem awake_any (w : World) (hr : RootsAt w) :
    Calls Tryd.prog 8 #[] w fun e w' => e = .returned (.bool true) ∧ Below w.heap.size w w' := by
  have hb := Below.refl w.heap.size w
  have HR : Hid (∀ W, Below w.heap.size w W → RootsAt W) := fun W hW => hr.below hW hr.size
  clear hr
  have HM : Hid (MayLtp 8000 100 3) := by show MayLtp _ _ _; unfold MayLtp; decide
  have C : Hid (initE.cnt ≤ 1000 ∧ gwA.cnt ≤ 1000 ∧ gwB.cnt ≤ 1000 ∧ gwC.cnt ≤ 1000) := ⟨by decide, gw_cnt⟩
  have CN : Hid (grA.cnt ≤ 1000 ∧ grB.cnt ≤ 1000 ∧ grC.cnt ≤ 1000) := gr_cnt
  have HT : Hid (tellS gwC ≤ 8 * ((20 : Nat) : Int)) := gw_tell
  go_enter Tryd.func8, Tryd.ntmps8
  go_wp2_with (first
    | (go_at_call 9; go_loud (refine (newE_any _).mono ?_; rintro e w1 ⟨p, S, rfl, he, hS, hb1⟩; replace hS := fun k hk => Nat.le_trans hb.size (hS k hk); replace hb := hb.trans (hb1.mono hb.size); clear hb1))
    | (go_at_call 12; go_loud (refine (writeFirst_any S p initE 33 _ he initE_inv (by have := C.out.1; omega) (by decide)).mono ?_; rintro e w1 ⟨rfl, S2, he2, hw2⟩; replace he2 : Wd S2 p gwA w1 := he2; have hS2 := hw2.above hS hb.size; replace hb := hb.trans (hw2.below hS hb.size); clear hw2 he hS))
    | (go_at_call 30; go_loud (refine (writeNext_any S2 p gwA 60 33 _ he2 gwA_inv (by have := C.out.2.1; omega)).mono ?_; rw [show nextK 60 33 = 16 by decide, show nextI 33 16 = 41 by decide]; rintro e w1 ⟨rfl, S3, he3, hw3⟩; replace he3 : Wd S3 p gwB w1 := he3; have hS3 := hw3.above hS2 hb.size; replace hb := hb.trans (hw3.below hS2 hb.size); clear hw3 he2 hS2))
    | (go_at_call 13; go_loud (refine (writeLtp_any S3 p gwB 8000 100 3 _ he3 gwB_inv (by have := C.out.2.2.1; omega) HM.out).mono ?_; rintro e w1 ⟨rfl, S4, he4, hw4⟩; replace he4 : Wd S4 p gwC w1 := he4; have hS4 := hw4.above hS3 hb.size; replace hb := hb.trans (hw4.below hS3 hb.size); clear hw4 he3 hS3))
    | (go_at_call 31; go_loud (refine (doneE_int S4 p gwC 20 20 rfl _ he4 gw_ends HT.out (by have := C.out.2.2.2; omega)).mono ?_; rintro e w1 ⟨a2, cap2, rfl, ho, hb1⟩; obtain ⟨g, hag, hg2⟩ := told_arg gwL_bytes (by decide) ho; replace hb := hb.trans (hb1.mono hb.size); clear hb1 ho he4 hS4))
    | (go_at_call 16; go_loud (refine (new_any g a2 20 cap2 gwL _ hag).mono ?_; rintro e w1 ⟨pd, qd, rfl, hd, hqd, hpd, hb1⟩; have hqB := Nat.le_trans hb.size (Nat.le_trans hqd hpd); replace hb := hb.trans (hb1.mono hb.size); clear hb1 hag hg2))
    | (go_at_call 10; go_loud (refine (lags_any 8000 _).mono ?_; rw [show leastI 8000 = 16 by decide, show mostI 8000 = 144 by decide]; rintro e w ⟨rfl, rfl⟩))
    | (go_at_call 21; go_loud (refine (readFirst_any pd qd gwL grA _ hd grA_inv (by have := CN.out.1; omega)).mono ?_; rw [gr_first]; rintro e w1 ⟨rfl, hd2, hw1⟩; replace hd : Rd pd qd gwL grB w1 := hd2; replace hb := hb.trans (hw1.below (fun k hk => hk ▸ hqB) hb.size); clear hd2 hw1))
    | (go_at_call 23; go_loud (refine (readNext_any pd qd gwL grB 33 _ hd grB_inv (by have := CN.out.2.1; omega)).mono ?_; rw [gr_next, show nextI 33 16 = 41 by decide]; rintro e w1 ⟨rfl, hd2, hw1⟩; replace hd : Rd pd qd gwL grC w1 := hd2; replace hb := hb.trans (hw1.below (fun k hk => hk ▸ hqB) hb.size); clear hd2 hw1))
    | (go_at_call 15; go_loud (refine (readLtp_any pd qd gwL grC 8000 _ hd grC_inv (by have := CN.out.2.2; omega) (by decide)).mono ?_; rw [show leastI 8000 = 16 by decide, show mostI 8000 = 144 by decide, show (144 : Int) - 16 + 1 = 129 by decide, gr_lag, gr_taps]; rintro e w1 ⟨rfl, hd2, hw1⟩; replace hb := hb.trans (hw1.below (fun k hk => hk ▸ hqB) hb.size); clear hd2 hw1))
    | (go_at_call 11; go_loud (refine (loud_any 0 _ (HR.out _ hb)).mono ?_; rw [loud_0]; rintro e w ⟨rfl, rfl⟩))
    | (go_at_call 28; go_loud (refine (nearest_any 1 _ (HR.out _ hb)).mono ?_; rw [near_1]; rintro e w ⟨rfl, rfl⟩)))
  go_ret
  exact ⟨rfl, hb⟩

end Go.Proofs.YtnmfbjpbhghgaaaDoor
