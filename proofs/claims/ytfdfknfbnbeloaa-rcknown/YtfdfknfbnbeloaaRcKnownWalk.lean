/- The law of chapter 3's examples answers true. -/
import Derived.Test.YtfdfknfbnbeloaaRcH
namespace Go.Proofs.Ytfdfknfbnbeloaa
open Go.RowKit

set_option maxHeartbeats 1600000 in
theorem rcKnown.walk (w : World) :
    Calls Try.prog 3 #[] w fun e w' => e = .returned (.bool true) ∧ Below w.heap.size w w' := by
  have hb := Below.refl w.heap.size w
  have hI : Inv (initS [1, 2, 3]) := initS_inv bytes_123
  have hc : (initS [1, 2, 3]).cnt ≤ 100 := by rw [init_cnt]; decide
  have ht : Hid (tellZ (initS [1, 2, 3]) = 1) := initS_tell _
  have hbad : Hid ((initS [1, 2, 3]).bad = false) := (initS_is _).2.2.2.2
  generalize hS : initS [1, 2, 3] = S at *
  have HS : Hid (initS [1, 2, 3] = S) := hS
  clear hS
  have e1 : symS [1, 2, 3] [] S = (0, S) := rfl
  have e2 : flagS [1, 2, 3] 0 S = (false, S) := rfl
  have e3 : bitsS [1, 2, 3] 25 S = (0, S) := rfl
  have e4 : uintS [1, 2, 3] 0 S = (0, S) := rfl
  have e5 : uintS [1, 2, 3] 1 S = (0, S) := rfl
  have e6 : lapS [1, 2, 3] 255 0 S = (0, S) := rfl
  have E1 : Hid (symS [1, 2, 3] [] S = (0, S)) := e1
  have E2 : Hid (flagS [1, 2, 3] 0 S = (false, S)) := e2
  have E3 : Hid (bitsS [1, 2, 3] 25 S = (0, S)) := e3
  have E4 : Hid (uintS [1, 2, 3] 0 S = (0, S)) := e4
  have E5 : Hid (uintS [1, 2, 3] 1 S = (0, S)) := e5
  have E6 : Hid (lapS [1, 2, 3] 255 0 S = (0, S)) := e6
  have E7 : Hid (badB [1, 2, 3] S = false) := by show _ = _; rw [badB, hbad.out, ht.out]; decide
  clear e1 e2 e3 e4 e5 e6
  have t1 : Hid True := trivial
  have t2 : Hid True := trivial
  have u1 : Hid True := trivial
  have u2 : Hid True := trivial
  go_enter Try.func3, Try.ntmps3
  go_wp2_with (first
    | (go_at_call 9; refine (awake_any _).mono ?_; rintro e w1 ⟨rfl, hb1⟩; replace hb := hb.trans (hb1.mono hb.size); clear hb1)
    | (go_at_call 10; go_loud (refine (new_any _ _ 3 3 [1, 2, 3] _ (argIn_123 _)).mono ?_; rw [HS.out]; rintro e w1 ⟨p, q, rfl, hd, hq, hp, hb1⟩; replace hq := Nat.le_trans hb.size (Nat.le_trans (Nat.le_of_lt (by simp)) hq); replace hp := Nat.le_trans hq hp; replace hb := (hb.alloc hb.size _).trans (hb1.mono (Nat.le_trans hb.size (Nat.le_of_lt (by simp)))); clear hb1))
    | (go_at_call 11; clear t1; go_loud (refine (tell_any p q [1, 2, 3] S _ hd hI (by omega)).mono ?_; rw [ht.out]; rintro e w2 ⟨rfl, k, rfl⟩; replace hd := hd.drewN k; replace hb := Below.drewN hb k))
    | (go_at_call 12; go_loud (refine (symbol_any p q [1, 2, 3] S none 0 0 [] _ hd hI (by omega) ⟨rfl, fun h => absurd h (by decide)⟩ (by decide)).mono ?_; rw [E1.out]; rintro e w1 ⟨rfl, hd1, hb1⟩; replace hd := hd1; replace hb := hb.trans (hb1.below hp); clear hb1 hd1))
    | (go_at_call 13; go_loud (refine (flag_any p q [1, 2, 3] S 0 _ hd hI (by omega)).mono ?_; rw [E2.out]; rintro e w1 ⟨rfl, hd1, hb1⟩; replace hd := hd1; replace hb := hb.trans (hb1.below hp); clear hb1 hd1))
    | (go_at_call 14; go_loud (refine (bits_any p q [1, 2, 3] S 25 _ hd hI (by omega)).mono ?_; rw [E3.out]; rintro e w1 ⟨rfl, hd1, hb1⟩; replace hd := hd1; replace hb := hb.trans (hb1.below hp); clear hb1 hd1))
    | (go_at_call 15; clear u1; go_loud (refine (uint_any p q [1, 2, 3] S 0 _ hd hI (by omega)).mono ?_; rw [E4.out]; rintro e w1 ⟨rfl, hd1, hb1⟩; replace hd := hd1; replace hb := hb.trans (hb1.below hp); clear hb1 hd1))
    | (go_at_call 15; clear u2; go_loud (refine (uint_any p q [1, 2, 3] S 1 _ hd hI (by omega)).mono ?_; rw [E5.out]; rintro e w1 ⟨rfl, hd1, hb1⟩; replace hd := hd1; replace hb := hb.trans (hb1.below hp); clear hb1 hd1))
    | (go_at_call 16; go_loud (refine (lap_any p q [1, 2, 3] S 255 0 _ hd hI (by omega)).mono ?_; rw [E6.out]; rintro e w1 ⟨rfl, hd1, hb1⟩; replace hd := hd1; replace hb := hb.trans (hb1.below hp); clear hb1 hd1))
    | (go_at_call 11; clear t2; go_loud (refine (tell_any p q [1, 2, 3] S _ hd hI (by omega)).mono ?_; rw [ht.out]; rintro e w2 ⟨rfl, k, rfl⟩; replace hd := hd.drewN k; replace hb := Below.drewN hb k))
    | (go_at_call 17; go_loud (refine (bad_any p q [1, 2, 3] S _ hd hI (by omega)).mono ?_; rw [E7.out]; rintro e w2 ⟨rfl, k, rfl⟩; replace hb := Below.drewN hb k)))
  go_ret
  exact ⟨rfl, by rw [← World.drewN_drewN]; exact hb⟩

end Go.Proofs.Ytfdfknfbnbeloaa
