/- The program's writer: its calls on whole numbers as they come; the examples that each law of chapter 4 asks first. -/
import Derived.Test.YtinjkffkkmbioaaRwI
namespace Go.Proofs.Ytinjkffkkmbioaa
open Go.RowKit

theorem symE_int (S : Nat → Prop) (p : Nat) (s : Es) (v : Int) (xo : Option Addr) (n cap : Nat) (zs : List Int) (w : World) (h : Wd S p s w) (hi : InvE s) (ht : RowAt w xo n zs) (hn : n ≤ 9223372036854775807) (hok : symOk zs v) (hc : s.cnt ≤ 1000000000000000) :
    Calls Try.prog 16 #[.pointer (some ⟨p, 0, none⟩), .int .i64 v, .slice xo n cap] w fun e w' => e = .returned (.int .i64 0) ∧ ∃ S', Wd S' p (takeE s (symFl zs v.toNat) (symFh zs v.toNat) 256) w' ∧ Went S w S' w' := by
  obtain ⟨h1, h2, h3⟩ := hok
  obtain ⟨m, rfl⟩ := Int.eq_ofNat_of_zero_le h2
  rw [Int.toNat_natCast]
  exact symE_any S p s m xo n cap zs w h hi ht hn h1 (by omega) hc

theorem flagE_int (S : Nat → Prop) (p : Nat) (s : Es) (v : Bool) (n : Int) (w : World) (h : Wd S p s w) (hi : InvE s) (hn : 1 ≤ n ∧ n ≤ 15) (hc : s.cnt ≤ 1000000000000000) :
    Calls Try.prog 18 #[.pointer (some ⟨p, 0, none⟩), .bool v, .int .i64 n] w fun e w' => e = .returned (.int .i64 0) ∧ ∃ S', Wd S' p (takeFlagE v n.toNat s) w' ∧ Went S w S' w' := by
  obtain ⟨m, rfl⟩ := Int.eq_ofNat_of_zero_le (show 0 ≤ n by omega)
  rw [Int.toNat_natCast]
  exact flagE_ok S p s v m w h hi (by omega) (by omega) hc

theorem bitsE_int (S : Nat → Prop) (p : Nat) (s : Es) (v n : Int) (w : World) (h : Wd S p s w) (hi : InvE s) (hn : 0 ≤ n ∧ n ≤ 24 ∧ 0 ≤ v ∧ v.toNat < 2 ^ n.toNat) (hc : s.cnt ≤ 1000000000000000) :
    Calls Try.prog 15 #[.pointer (some ⟨p, 0, none⟩), .int .i64 v, .int .i64 n] w fun e w' => e = .returned (.int .i64 0) ∧ ∃ S', Wd S' p (bitsE v.toNat n.toNat s) w' ∧ Went S w S' w' := by
  obtain ⟨h1, h2, h3, h4⟩ := hn
  obtain ⟨m, rfl⟩ := Int.eq_ofNat_of_zero_le h1
  obtain ⟨x, rfl⟩ := Int.eq_ofNat_of_zero_le h3
  rw [Int.toNat_natCast, Int.toNat_natCast] at *
  exact bitsE_any S p s x m w h hi (by omega) h4 hc

theorem uintE_int (S : Nat → Prop) (p : Nat) (s : Es) (v ft : Int) (w : World) (h : Wd S p s w) (hi : InvE s) (hn : 1 ≤ ft ∧ ft ≤ 4294967295 ∧ 0 ≤ v ∧ v < ft) (hc : s.cnt ≤ 100000000000000) :
    Calls Try.prog 19 #[.pointer (some ⟨p, 0, none⟩), .int .i64 v, .int .i64 ft] w fun e w' => e = .returned (.int .i64 0) ∧ ∃ S', Wd S' p (uintEs v.toNat ft.toNat s) w' ∧ Went S w S' w' := by
  obtain ⟨h1, h2, h3, h4⟩ := hn
  obtain ⟨m, rfl⟩ := Int.eq_ofNat_of_zero_le (show 0 ≤ ft by omega)
  obtain ⟨x, rfl⟩ := Int.eq_ofNat_of_zero_le h3
  rw [Int.toNat_natCast, Int.toNat_natCast]
  exact uintE_any S p s x m w h hi (by omega) (by omega) hc

theorem lapWE_int (S : Nat → Prop) (p : Nat) (s : Es) (v fs decay : Int) (w : World) (h : Wd S p s w) (hi : InvE s) (hok : lapOk fs decay) (hv : -9223372036854775808 ≤ v ∧ v ≤ 9223372036854775807) (hc : s.cnt ≤ 1000000000000000) :
    Calls Try.prog 12 #[.pointer (some ⟨p, 0, none⟩), .int .i64 v, .int .i64 fs, .int .i64 decay] w fun e w' => e = .returned (.tuple #[.int .i64 (lapW fs.toNat decay.toNat v), .int .i64 0]) ∧ ∃ S', Wd S' p (lapEs fs.toNat decay.toNat v s) w' ∧ Went S w S' w' := by
  obtain ⟨h1, h2, h3, h4⟩ := hok
  obtain ⟨m, rfl⟩ := Int.eq_ofNat_of_zero_le (show 0 ≤ fs by omega)
  obtain ⟨x, rfl⟩ := Int.eq_ofNat_of_zero_le h3
  rw [Int.toNat_natCast, Int.toNat_natCast]
  exact lapWE_any S p s v m x w h hi (by omega) (by omega) (by omega) hv hc

theorem doneE_int (S : Nat → Prop) (p : Nat) (s : Es) (n : Int) (m : Nat) (hm : n = m) (w : World) (h : Wd S p s w) (he : Ends s m) (ht : tellS s ≤ 8 * (m : Int)) (hc : s.cnt ≤ 1000000000000000) :
    Calls Try.prog 13 #[.pointer (some ⟨p, 0, none⟩), .int .i64 n] w fun e w' => ∃ a cap, e = .returned (.tuple #[.slice a m cap, .int .i64 0]) ∧ w'.ownsRow w.heap.size 5 1 (.slice a m cap) m (bvals (doneL s m)) ∧ Below w.heap.size w w' := by
  subst hm
  exact doneE_any S p s m w h he ht hc

theorem doneE_few_int (S : Nat → Prop) (p : Nat) (s : Es) (n : Int) (m : Nat) (hm : n = m) (w : World) (h : Wd S p s w) (hi : InvE s) (hn : m ≤ 1275) (ht : 8 * (m : Int) < tellS s) (hc : s.cnt ≤ 1000000000000000) :
    Calls Try.prog 13 #[.pointer (some ⟨p, 0, none⟩), .int .i64 n] w fun e w' => e = .returned (.tuple #[.slice none 0 0, .int .i64 2]) ∧ ∃ k, w' = w.drewN k := by
  subst hm
  exact doneE_few S p s m w h hi hn ht hc

/-- Another's blocks stay another's. -/
theorem Went.apart {S S' T : Nat → Prop} {w w' : World} (h : Went S w S' w') (hd : ∀ k, T k → ¬ S k) (hl : ∀ k, T k → k < w.heap.size) : ∀ k, T k → ¬ S' k := fun k hk hs => by
  rcases h.sub k hs with h1 | h1
  · exact hd k hk h1
  · have := hl k hk; omega

/-- Bytes that the writer told, as they may be handed in. -/
theorem told_arg {B : Nat} {w : World} {a : Option Addr} {n cap : Nat} {bs : List Nat} (hb : Bytes bs) (hn : n ≤ 1275) (h : w.ownsRow B 5 1 (.slice a n cap) n (bvals bs)) : ∃ g, ArgIn w g a n cap bs ∧ (0 < n → B ≤ g ∧ g < w.heap.size) := by
  obtain ⟨a', g, cap', hv, hnil, hby, hg, _⟩ := bytes_of_owned hb h
  cases hv
  exact ⟨g, ⟨hby, hnil, by omega⟩, hg⟩

/-! ### The examples -/
def awA : Es := takeE initE (symFl (icdfL 0) 1) (symFh (icdfL 0) 1) 256
def awB : Es := bitsE 5 3 awA
def awC : Es := takeFlagE true 2 awB
def awL : List Nat := doneL awB 4

theorem awG : goodB (icdfL 0) = true := by decide +kernel
theorem awA_inv : InvE awA := by
  obtain ⟨p1, p2⟩ := sym_part awG (v := 1) (by decide)
  exact takeE_inv initE_inv p1 p2 (by decide)
theorem awB_inv : InvE awB := bitsE_inv awA_inv (by decide) (by decide)
theorem awC_inv : InvE awC := takeFlagE_inv awB_inv true (by decide) (by decide)
theorem aw_cnt : awA.cnt ≤ 1000 ∧ awB.cnt ≤ 1000 ∧ awC.cnt ≤ 1000 := by decide +kernel
theorem aw_ends : Ends awB 4 := ⟨awB_inv, by decide, by decide +kernel⟩
theorem aw_tell : tellS awB = 6 := by decide +kernel
theorem awL_bytes : Bytes awL := doneL_bytes aw_ends
theorem awL_sym : (symS awL (icdfL 0) (initS awL)).1 = 1 := by decide +kernel
theorem awL_bits : (bitsS awL 3 (symS awL (icdfL 0) (initS awL)).2).1 = 5 := by decide +kernel
theorem awL_tell : tellZ (bitsS awL 3 (symS awL (icdfL 0) (initS awL)).2).2 = 6 := by decide +kernel

def awX : St := (symS awL (icdfL 0) (initS awL)).2
def awY : St := (bitsS awL 3 awX).2
theorem awX_inv : Inv awX := (symS_inv awL_bytes (initS_inv awL_bytes) (icdfL 0)).1
theorem awY_inv : Inv awY := (bitsS_inv awL awX_inv 3).1
theorem aw_cnts : (initS awL).cnt ≤ 1000 ∧ awX.cnt ≤ 1000 ∧ awY.cnt ≤ 1000 := by decide +kernel

set_option maxRecDepth 100000 in
set_option maxHeartbeats 1600000 in
theorem awake_any (w : World) :
    Calls Try.prog 9 #[] w fun e w' => e = .returned (.bool true) ∧ Below w.heap.size w w' := by
  have hb := Below.refl w.heap.size w
  have hg : Hid (symOk (icdfL 0) 1) := ⟨awG, by decide, by decide⟩
  have hbits : Hid (0 ≤ (3 : Int) ∧ (3 : Int) ≤ 24 ∧ 0 ≤ (5 : Int) ∧ (5 : Int).toNat < 2 ^ (3 : Int).toNat) := ⟨by decide, by decide, by decide, by decide⟩
  have C : Hid (initE.cnt ≤ 1000 ∧ awA.cnt ≤ 1000 ∧ awB.cnt ≤ 1000 ∧ awC.cnt ≤ 1000) := ⟨by decide, aw_cnt⟩
  have HT1 : Hid (tellS awB ≤ 8 * ((4 : Nat) : Int)) := by show _ ≤ _; rw [aw_tell]; decide
  have CN : Hid ((initS awL).cnt ≤ 1000 ∧ awX.cnt ≤ 1000 ∧ awY.cnt ≤ 1000) := aw_cnts
  have i1 : Hid True := trivial
  have i2 : Hid True := trivial
  go_enter Try.func9, Try.ntmps9
  go_wp2_with (first
    | (go_at_call 10; go_loud (refine (newE_any _).mono ?_; rintro e w1 ⟨p, S, rfl, he, hS, hb1⟩; replace hS := fun k hk => Nat.le_trans hb.size (hS k hk); replace hb := hb.trans (hb1.mono hb.size); clear hb1))
    | (go_at_call 17; clear i1; go_loud (refine (ricdf_row 0 _).mono ?_; rintro e w1 ⟨a1, m1, cap1, rfl, ht1, _, hm1, hb1⟩; replace he := he.keep hb1; replace hb := hb.trans (hb1.mono hb.size); clear hb1))
    | (go_at_call 16; go_loud (refine (symE_int S p initE 1 a1 m1 cap1 (icdfL 0) _ he initE_inv ht1 (by omega) hg.out (by have := C.out.1; omega)).mono ?_; rintro e w1 ⟨rfl, S2, he2, hw2⟩; have hS2 := hw2.above hS hb.size; replace hb := hb.trans (hw2.below hS hb.size); clear he hw2 hS ht1))
    | (go_at_call 15; go_loud (refine (bitsE_int S2 p awA 5 3 _ he2 awA_inv hbits.out (by have := C.out.2.1; omega)).mono ?_; rintro e w1 ⟨rfl, S3, he3, hw3⟩; replace he3 : Wd S3 p awB w1 := he3; have hS3 := hw3.above hS2 hb.size; replace hb := hb.trans (hw3.below hS2 hb.size); clear he2 hw3 hS2))
    | (go_at_call 13; go_loud (refine (doneE_int S3 p awB 4 4 rfl _ he3 aw_ends HT1.out (by have := C.out.2.2.1; omega)).mono ?_; rintro e w1 ⟨a2, cap2, rfl, ho, hb1⟩; obtain ⟨g, hag, hg2⟩ := told_arg awL_bytes (by decide) ho; replace he3 := he3.keep hb1; replace hb := hb.trans (hb1.mono hb.size); clear hb1 ho))
    | (go_at_call 26; go_loud (refine (new_any g a2 4 cap2 awL _ hag).mono ?_; rintro e w1 ⟨pd, qd, rfl, hd, hqd, hpd, hb1⟩; have hnp := fun k => (he3.lt k); replace he3 := he3.keep hb1; have hpS : ¬ S3 pd := (fun h => (by have := hnp pd h; omega)); have hqB := Nat.le_trans hb.size (Nat.le_trans hqd hpd); replace hb := hb.trans (hb1.mono hb.size); clear hb1 hnp hag hg2))
    | (go_at_call 17; clear i2; go_loud (refine (ricdf_row 0 _).mono ?_; rintro e w1 ⟨a4, m4, cap4, rfl, ht4, _, hm4, hb1⟩; replace he3 := he3.keep hb1; replace hd := hd.keep hb1; replace hb := hb.trans (hb1.mono hb.size); clear hb1))
    | (go_at_call 28; go_loud (refine (symbol_any pd qd awL _ a4 m4 cap4 (icdfL 0) _ hd (initS_inv awL_bytes) (by have := CN.out.1; omega) ht4 (by omega)).mono ?_; rw [awL_sym]; rintro e w1 ⟨rfl, hd2, hb1⟩; replace hd : Rd pd qd awL awX w1 := hd2; replace he3 := he3.but hb1 hpS; replace hb := hb.trans (hb1.below hqB); clear hb1 hd2 ht4))
    | (go_at_call 27; go_loud (refine (bits_any pd qd awL awX 3 _ hd awX_inv (by have := CN.out.2.1; omega)).mono ?_; rw [show (bitsS awL 3 awX).1 = 5 from awL_bits]; rintro e w1 ⟨rfl, hd2, hb1⟩; replace hd : Rd pd qd awL awY w1 := hd2; replace he3 := he3.but hb1 hpS; replace hb := hb.trans (hb1.below hqB); clear hb1 hd2))
    | (go_at_call 29; go_loud (refine (tell_any pd qd awL awY _ hd awY_inv (by have := CN.out.2.2; omega)).mono ?_; rw [show tellZ awY = 6 from awL_tell]; rintro e w2 ⟨rfl, k, rfl⟩; replace he3 := he3.drewN k; replace hb := Below.drewN hb k; clear hd))
    | (go_at_call 11; go_loud (refine (tellE_any S3 p awB _ he3 awB_inv.wide awB_inv.pre.rhigh (by have := C.out.2.2.1; omega)).mono ?_; rw [aw_tell]; rintro e w2 ⟨rfl, k2, rfl⟩; replace he3 := he3.drewN k2; replace hb := Below.drewN hb k2; rw [World.drewN_drewN] at hb he3))
    | (go_at_call 18; go_loud (refine (flagE_int S3 p awB true 2 _ he3 awB_inv ⟨by decide, by decide⟩ (by have := C.out.2.2.1; omega)).mono ?_; rintro e w1 ⟨rfl, S4, he4, hw4⟩; replace he4 : Wd S4 p awC w1 := he4; have hS4 := hw4.above hS3 hb.size; replace hb := hb.trans (hw4.below hS3 hb.size); clear hw4 he3))
    | (go_at_call 19; go_loud (refine (uintE_int S4 p awC 3 5 _ he4 awC_inv ⟨by decide, by decide, by decide, by decide⟩ (by have := C.out.2.2.2; omega)).mono ?_; rintro e w1 ⟨rfl, S5, he5, hw5⟩; replace hb := hb.trans (hw5.below hS4 hb.size); clear hw5 he4)))
  go_ret
  exact ⟨rfl, hb⟩

end Go.Proofs.Ytinjkffkkmbioaa
